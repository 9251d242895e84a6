import PyProof.Rows.All
import Wide.All
import OpenK.AllK
import Wide.FinOn
import Lean
import PyProof.EqAt
import PyProof.EqKinds
import PyProof.TupleCall
import KE.KSortTup
import KE.KItemsList
import PyProof.AttrMissHeap
import KE.KDictOf
import PySem.Challenge.RW_gapshelf_k26_whole_disks_write_by_write
theorem Bt {α:Type _}{y a:α}{l:List α}(h:a∈l):a∈y::l:=List.mem_cons_of_mem y h
theorem Bc {α:Type _}{a:α}{l m:List α}(h:a∈m):a∈l++m:=List.mem_append_right l h
theorem Cw {α:Type _}{a:α}{l m:List α}(h:a∈l):a∈l++m:=List.mem_append_left m h
theorem Bf {α:Type _}{a:α}{l:List α}:a∈a::l:=List.mem_cons_self
open PySem.W (Frag nsIn keepIn fnOf codeIn findIn mroIn kitOne mg_of mg_none_of kia_one excIn makesIn)
local macro_rules | `(tactic| walk_at "sc") => `(tactic| exact ⟨rfl, rfl, rfl, by decide +kernel, rfl, by decide +kernel, by decide +kernel⟩)
set_option Elab.async false
set_option linter.all false
set_option maxRecDepth 100000
namespace L2
open PySem PySem.Spec PyProof.Rows
noncomputable abbrev Key:=Sum Int Str
noncomputable def Jq:Key→Value→Bool
 | .inl k,v=>Value.isInt k v
 | .inr x,v=>Value.isStrOf x v
noncomputable def ACe (w:World):Key→Int
 | .inl k=>hashInt k
 | .inr x=>hashStr w x
theorem Jk:∀ {k:Key}{v:Value},Jq k v=true→(∃ i t,k=Sum.inl i∧v=Value.int i t)∨(∃ x t,k=Sum.inr x∧v=Value.str x t)
 | .inl i,v,h=>by
  obtain⟨t,e⟩:=Value.isInt_shape (k:=i) (v:=v) h
  exact .inl ⟨i,t,rfl,e⟩
 | .inr x,v,h=>by
  obtain⟨t,e⟩:=Value.isStrOf_shape (x:=x) (v:=v) h
  exact .inr ⟨x,t,rfl,e⟩
theorem ADg (i:Int)(t:Tok):Jq (.inl i) (.int i t)=true:=by simp [Jq,Value.isInt]
theorem AIP (x:Str)(t:Tok):Jq (.inr x) (.str x t)=true:=by simp [Jq,Value.isStrOf]
theorem wI (a b:Int):decide ((Sum.inl a:Key)=Sum.inl b)=(a == b):=by
 by_cases e:a=b
 ·subst e;simp
 ·have h:¬ (Sum.inl a:Key)=Sum.inl b:=fun q=>e (Sum.inl.inj q)
  rw[decide_eq_false h]
  exact (beq_eq_false_iff_ne.mpr e).symm
theorem zM (a b:Str):decide ((Sum.inr a:Key)=Sum.inr b)=decide (a=b):=by
 by_cases e:a=b
 ·subst e;simp
 ·have h:¬ (Sum.inr a:Key)=Sum.inr b:=fun q=>e (Sum.inr.inj q)
  rw[decide_eq_false h,decide_eq_false e]
theorem AH0 (a:Int)(b:Str):decide ((Sum.inl a:Key)=Sum.inr b)=false:=decide_eq_false (fun q=>nomatch q)
theorem AEn (a:Str)(b:Int):decide ((Sum.inr a:Key)=Sum.inl b)=false:=decide_eq_false (fun q=>nomatch q)
noncomputable def De (prog:Program)(w:World):PySem.KeyKind prog w Key where
 is:=Jq
 hash:=ACe w
 inj:=fun v a b ha hb=>by
  rcases Jk ha with⟨i,t,rfl,rfl⟩ | ⟨x,t,rfl,rfl⟩
  ·rcases Jk hb with⟨j,u,rfl,e⟩ | ⟨y,u,rfl,e⟩
   ·injection e with e1 _;rw[e1]
   ·exact nomatch e
  ·rcases Jk hb with⟨j,u,rfl,e⟩ | ⟨y,u,rfl,e⟩
   ·exact nomatch e
   ·injection e with e1 _;rw[e1]
 byValue:=fun k v h=>by
  rcases Jk h with⟨i,t,rfl,rfl⟩ | ⟨x,t,rfl,rfl⟩<;>rfl
 pyHash:=fun hv h=>by
  rcases Jk hv with⟨i,t,rfl,rfl⟩ | ⟨x,t,rfl,rfl⟩
  ·exact wpAny_pyHash_int h
  ·exact wpAny_pyHash_str h
 eqBool:=fun hu hv h=>by
  rcases Jk hu with⟨i,t,rfl,rfl⟩ | ⟨x,t,rfl,rfl⟩
  ·rcases Jk hv with⟨j,u,rfl,rfl⟩ | ⟨y,u,rfl,rfl⟩
   ·rw[wI] at h;exact wpAny_eqBool_int h
   ·rw[AH0] at h;exact SeqAt.EqAt.int_str i t y u _ _ _ _ h
  ·rcases Jk hv with⟨j,u,rfl,rfl⟩ | ⟨y,u,rfl,rfl⟩
   ·rw[AEn] at h;exact SeqAt.EqAt.str_int x t j u _ _ _ _ h
   ·rw[zM] at h;exact wpAny_eqBool_str h
 «strs»:=fun k x t v h=>by
  rcases Jk h with⟨i,u,rfl,e⟩ | ⟨y,u,rfl,e⟩
  ·exact nomatch e
  ·injection e with e1 _
   subst e1
   cases v<;>rfl
theorem AEe (prog:Program)(w:World)(i:Int)(t:Tok):(De prog w).is (.inl i) (.int i t)=true:=ADg i t
theorem ACs (prog:Program)(w:World)(x:Str)(t:Tok):(De prog w).is (.inr x) (.str x t)=true:=AIP x t
inductive V where
 | non | bl (b:Bool) | int (i:Int) | str (x:Str) | byt (b:Array UInt8) | flt (b:UInt64) | ref (a:Addr) | ty (n:String)
 deriving DecidableEq
noncomputable def RelV:V→Value→Prop
 | .non,u=>u=Value.none
 | .bl b,u=>u=Value.bool b
 | .int i,u=>∃ t,u=Value.int i t
 | .str x,u=>∃ t,u=Value.str x t
 | .byt b,u=>∃ t,u=Value.bytes b t
 | .flt b,u=>∃ t,u=Value.float b t
 | .ref a,u=>u=Value.ref a
 | .ty n,u=>u=Value.type n
noncomputable abbrev Vals:List V→List Value→Prop:=Paired RelV
theorem Vals.length {xs:List V}{us:List Value}(r:Vals xs us):xs.length=us.length:=Paired.length r
theorem Vals.get:∀ {xs:List V}{us:List Value}{i:Nat}{x:V},Vals xs us→xs[i]?=some x→∃ u,us[i]?=some u∧RelV x u
 | _,_,_,_,.nil,e=>by simp at e
 | _,_,0,_,.cons r _,e=>by simp at e;subst e;exact⟨_,rfl,r⟩
 | _,_,i+1,x,.cons _ t,e=>by
  obtain⟨u,h1,h2⟩:=Vals.get (i:=i) (x:=x) t (by simpa using e)
  exact⟨u,by simpa using h1,h2⟩
theorem Vals.set {x:V}{u:Value}(r:RelV x u):∀ {xs:List V}{us:List Value} (i:Nat),Vals xs us→Vals (xs.set i x) (us.set i u)
 | _,_,_,.nil=>.nil
 | _,_,0,.cons _ t=>.cons r t
 | _,_,i+1,.cons q t=>.cons q (Vals.set r i t)
theorem Vals.append:∀ {xs ys:List V}{us ws:List Value},Vals xs us→Vals ys ws→Vals (xs++ys) (us++ws)
 | _,_,_,_,.nil,s=>s
 | _,_,_,_,.cons r t,s=>.cons r (Vals.append t s)
theorem Vals.take:∀ {xs:List V}{us:List Value} (n:Nat),Vals xs us→Vals (xs.take n) (us.take n)
 | _,_,0,_=>.nil
 | _,_,_+1,.nil=>.nil
 | _,_,n+1,.cons r t=>.cons r (Vals.take n t)
theorem Vals.drop:∀ {xs:List V}{us:List Value} (n:Nat),Vals xs us→Vals (xs.drop n) (us.drop n)
 | _,_,0,r=>r
 | _,_,_+1,.nil=>.nil
 | _,_,n+1,.cons _ t=>Vals.drop n t
noncomputable def Ha:Option V→Option Value→Prop
 | some v,some u=>RelV v u
 | none,none=>True
 | _,_=>False
noncomputable def KV {κ:Type}:List (κ×V)→List (κ×Value)→Prop:=Paired fun (p:κ×V) (q:κ×Value)=>p.1=q.1∧RelV p.2 q.2
noncomputable def kV:Key→V
 | .inl i=>.int i
 | .inr x=>.str x
inductive HO where
 | lst (xs:List V)
 | tup (xs:List V)
 | dK (kvs:List (Key×V)) | dT (kvs:List (List Key×V))
 | set (S:Int→Bool) (n:Nat)
 | ins (C dx:Addr) (fs:List (Str×V))
 | own (x:Addr)
 | xd (fs:List (Str×V))
 | met (f x:Addr)
 | rng (lo hi:Int)
 | frz (o:Obj) (u:HO)
 | tbl (ps:Array Value)
 | ext (φ:Heap→Prop)
noncomputable abbrev Hp:=Addr→Option HO
noncomputable def upd (H:Hp)(a:Addr)(o:HO):Hp:=fun b=>if b=a then some o else H b
theorem Cm {H:Hp}{a:Addr}{o:HO}:upd H a o a=some o:=by unfold upd;rw[if_pos rfl]
theorem Bb {H:Hp}{a b:Addr}{o:HO}(h:b≠a):upd H a o b=H b:=by unfold upd;rw[if_neg h]
theorem AIy {H:Hp}{a b:Addr}{o u:HO}(h:H a=some o)(h':H b=some u)(d:o≠u):a≠b:=by
 intro e;subst e;rw[h] at h';exact d (Option.some.inj h')
theorem Cg {H:Hp}{a b:Addr}{o:HO}(h:H a=some o)(h':H b=none):a≠b:=by
 intro e;subst e;rw[h] at h';cases h'
section
variable (P:Program)(w:World)
noncomputable def Ej (H:Hp)(h:Heap)(a:Addr):HO→Prop
 | .lst xs=>xs.length≤sizeLine∧∃ (its:List Value) (n:Nat),Vals xs its∧h.get? a=some { cls:=.type "list",data:=.seq its.toArray n }
 | .tup xs=>xs.length≤sizeLine∧∃ its:List Value,Vals xs its∧IsTup h a its.toArray
 | .dK kvs=>kvs.length≤sizeLine∧(a == sysModules)=false∧∃ vs,KV kvs vs∧h.DictOf (De P w) a vs
 | .dT kvs=>kvs.length≤sizeLine∧(a == sysModules)=false∧∃ xs:List (List Key×Addr×Value),
   Paired (fun (p:List Key×V) (q:List Key×Addr×Value)=>p.1=q.1∧H q.2.1=some (.tup (p.1.map kV))∧RelV p.2 q.2.2) kvs xs ∧
   ∃ o es ep,h.get? a=some o∧o.ExactDict∧o.data=.dict es ep∧es.toList=xs.map (entryOfKey (tupleKind (De P w)))∧(xs.map (·.1)).Nodup
 | .set S n=>h.SetOf (intKind P w) a S n
 | .ins C dx fs=>H dx=some (.own a)∧fs.length≤1000∧dx≠a∧h.get? a=some (PySem.W.instObj C dx) ∧
   ∃ mA,h.Ns1 dx mA∧(∀ f,Ha (fs.lookup f) (mA f))∧PySem.Within mA (fs.map (·.1))
 | .own _=>∃ o,h.get? a=some o
 | .xd fs=>∃ mA,h.Ns1 a mA∧∀ f,Ha (fs.lookup f) (mA f)
 | .rng lo hi=>∃ t u v,h.get? a=some { cls:=.type "range",data:=.fields #[.int lo t,.int hi u,.int 1 v] }
 | .frz o u=>h.get? a=some o∧Ej H h a u
 | .tbl ps=>h.get? a=some { cls:=.none,data:=.fields ps }
 | .met f x=>h.get? a=some (PySem.W.methodObj (.ref f) (.ref x))
 | .ext φ=>φ h∧(∃ o,h.get? a=some o)∧∀ h1 h2:Heap,φ h1→(∀ o,h1.get? a=some o→h2.get? a=some o)→φ h2
noncomputable def Ck (H:Hp)(h:Heap):Prop:=∀ a o,H a=some o→Ej P w H h a o
end
section
variable {P:Program}{w:World}{H H':Hp}{h h':Heap}{a:Addr}{o:HO}
theorem Ej.lt (x:Ej P w H h a o):a<h.objs.size:=by
 cases o with
 | lst xs=>obtain⟨_,_,_,_,e⟩:=x;exact Heap.lt_size e
 | tup xs=>obtain⟨_,_,_,p⟩:=x;exact p.lt
 | dK kvs=>obtain⟨_,_,_,_,o,_,_,e,_⟩:=x;exact Heap.lt_size e
 | dT kvs=>obtain⟨_,_,_,_,o,_,_,e,_⟩:=x;exact Heap.lt_size e
 | set S n=>obtain⟨o,_,_,_,e,_⟩:=x;exact Heap.lt_size e
 | ins C dx fs=>obtain⟨_,_,_,e,_⟩:=x;exact Heap.lt_size e
 | own y=>obtain⟨_,e⟩:=x;exact Heap.lt_size e
 | xd fs=>obtain⟨_,⟨_,_,_,e,_⟩,_⟩:=x;exact Heap.lt_size e
 | rng lo hi=>obtain⟨_,_,_,e⟩:=x;exact Heap.lt_size e
 | frz ob u=>obtain⟨e,_⟩:=x;exact Heap.lt_size e
 | tbl ps=>exact Heap.lt_size (show h.get? a=some _ from x)
 | met f y=>exact Heap.lt_size (show h.get? a=some _ from x)
 | ext φ=>obtain⟨_,⟨_,e⟩,_⟩:=x;exact Heap.lt_size e
theorem Paired.Zj {α β:Type}{F G:α→β→Prop}:∀ {l₁:List α}{l₂:List β},Paired F l₁ l₂→(∀ a b,F a b→G a b)→Paired G l₁ l₂
 | _,_,.nil,_=>.nil
 | _,_,.cons r t,f=>.cons (f _ _ r) (Paired.Zj t f)
theorem Ej.Kg (x:Ej P w H h a o)(k:∀ b u,(b=a∨H b=some (.own a))→h.get? b=some u→h'.get? b=some u)(ho:∀ b,H b=some (.own a)→H' b=some (.own a))(ht:∀ b xs,H b=some (.tup xs)→H' b=some (.tup xs)):Ej P w H' h' a o:=by
 induction o with
 | lst xs=>obtain⟨z,its,n,r,e⟩:=x;exact⟨z,its,n,r,k _ _ (.inl rfl) e⟩
 | tup xs=>obtain⟨z,its,r,ob,e,c⟩:=x;exact⟨z,its,r,ob,k _ _ (.inl rfl) e,c⟩
 | dK kvs=>obtain⟨z,y,vs,r,ob,es,ep,e,c⟩:=x;exact⟨z,y,vs,r,ob,es,ep,k _ _ (.inl rfl) e,c⟩
 | dT kvs =>
  obtain⟨z,y,xs,r,ob,es,ep,e,c⟩:=x
  exact⟨z,y,xs,Paired.Zj r fun p q z=>⟨z.1,ht _ _ z.2.1,z.2.2⟩,ob,es,ep,k _ _ (.inl rfl) e,c⟩
 | set S n=>obtain⟨ob,es,ep,t,e,c⟩:=x;exact⟨ob,es,ep,t,k _ _ (.inl rfl) e,c⟩
 | ins C dx fs =>
  obtain⟨d,z,ne,e,mA,⟨od,es,ep,e2,c⟩,r⟩:=x
  exact⟨ho _ d,z,ne,k _ _ (.inl rfl) e,mA,⟨od,es,ep,k _ _ (.inr d) e2,c⟩,r⟩
 | own y=>obtain⟨ob,e⟩:=x;exact⟨ob,k _ _ (.inl rfl) e⟩
 | xd fs=>obtain⟨mA,⟨od,es,ep,e,c⟩,r⟩:=x;exact⟨mA,⟨od,es,ep,k _ _ (.inl rfl) e,c⟩,r⟩
 | rng lo hi=>obtain⟨t,u,v,e⟩:=x;exact⟨t,u,v,k _ _ (.inl rfl) e⟩
 | frz ob u ih=>obtain⟨e,q⟩:=x;exact⟨k _ _ (.inl rfl) e,ih q⟩
 | tbl ps =>
  have e:h.get? a=some { cls:=.none,data:=.fields ps }:=x
  show h'.get? a=some { cls:=.none,data:=.fields ps }
  exact k a _ (.inl rfl) e
 | met f y =>
  have e:h.get? a=some (PySem.W.methodObj (.ref f) (.ref y)):=x
  show h'.get? a=some (PySem.W.methodObj (.ref f) (.ref y))
  exact k a _ (.inl rfl) e
 | ext φ=>obtain⟨p,⟨o,e⟩,st⟩:=x;exact⟨st _ _ p fun o q=>k _ _ (.inl rfl) q,⟨o,k _ _ (.inl rfl) e⟩,st⟩
theorem Ck.lt (x:Ck P w H h)(e:H a=some o):a<h.objs.size:=(x a o e).lt
theorem Ck.fresh (x:Ck P w H h)(e:h.objs.size≤a):H a=none:=by
 cases q:H a with
 | none=>rfl
 | some u=>exact absurd (Nat.lt_of_lt_of_le (x.lt q) e) (Nat.lt_irrefl _)
theorem Ck.kept (x:Ck P w H h)(k:∀ b u,h.get? b=some u→h'.get? b=some u):Ck P w H h':=fun a o e =>
 (x a o e).Kg (fun b u _ q=>k b u q) (fun _ q=>q) fun _ _ q=>q
theorem Ck.laid (x:Ck P w H h)(k:∀ b u,h.get? b=some u→h'.get? b=some u)(hp:h.objs.size≤a)(new:Ej P w (upd H a o) h' a o):Ck P w (upd H a o) h':=fun b u e=>by
 have hn:=x.fresh hp
 by_cases hb:b=a
 ·subst hb;rw[Cm] at e;cases e;exact new
 ·rw[Bb hb] at e
  exact (x b u e).Kg (fun c v _ q=>k c v q) (fun c q=>by rw[Bb (Cg q hn)];exact q) fun c xs q=>by rw[Bb (Cg q hn)];exact q
end
noncomputable def Rd (H:Hp)(a:Addr)(u:HO):Prop:=H a=some u∨∃ o,H a=some (.frz o u)
theorem Rd.ok {P:Program}{w:World}{H:Hp}{h:Heap}{a:Addr}{u:HO}(r:Rd H a u)(x:Ck P w H h):Ej P w H h a u:=by
 rcases r with r | ⟨o,r⟩
 ·exact x a u r
 ·obtain⟨_,q⟩:=x a _ r
  exact q
noncomputable def QM:Option HO→Prop
 | some (.lst _)=>True
 | some (.dK _)=>True
 | some (.dT _)=>True
 | some (.set _ _)=>True
 | some (.ins _ _ _)=>True
 | some (.ext _)=>True
 | _=>False
section
variable {P:Program}{w:World}{H:Hp}{h h':Heap}{x e:Addr}{o':HO}
theorem Ck.write (ok:Ck P w H h)(mu:QM (H x))(he:e=x∨H e=some (.own x))(k:∀ b u,b≠e→h.get? b=some u→h'.get? b=some u)(heo:∃ u,h'.get? e=some u)(new:Ej P w (upd H x o') h' x o'):Ck P w (upd H x o') h':=fun b u q=>by
 have nown:∀ c y,H c=some (.own y)→c≠x:=fun c y r z=>by subst z;rw[r] at mu;exact mu
 have ntup:∀ c xs,H c=some (.tup xs)→c≠x:=fun c xs r z=>by subst z;rw[r] at mu;exact mu
 by_cases hb:b=x
 ·subst hb;rw[Cm] at q;cases q;exact new
 ·rw[Bb hb] at q
  by_cases hbe:b=e
  ·have q':H b=some (.own x):=by
    rcases he with z | z
    ·exact absurd (hbe.trans z) hb
    ·rw[hbe];exact z
   rw[q] at q';cases q'
   obtain⟨v,hv⟩:=heo
   exact⟨v,by rw[hbe];exact hv⟩
  ·refine (ok b u q).Kg (fun c v hc r=>k c v ?_ r) (fun c r=>by rw[Bb (nown c b r)];exact r) fun c xs r=>by rw[Bb (ntup c xs r)];exact r
   rcases hc with rfl | hc
   ·exact hbe
   ·rintro rfl
    rcases he with z | z
    ·exact nown c b hc z
    ·rw[hc] at z;cases z;exact hb rfl
end
structure Un (fs ex:List Addr)(H H':Hp)(h h':Heap):Prop where
 keep:∀ b o,h.get? b=some o→H b=none→b ∉ fs→b ∉ ex→h'.get? b=some o
 slot:∀ b o,h.get? b=some o→H b=none→b∈fs→b ∉ ex→∃ sl,h'.get? b=some { o with slots:=sl }
 free:∀ b o,h.get? b=some o→H b=none→b ∉ ex→H' b=none
 there:∀ b o,h.get? b=some o→b ∉ ex→∃ o',h'.get? b=some o'
 tups:∀ b xs,H b=some (.tup xs)→H' b=some (.tup xs)
 frzs:∀ b o u,H b=some (.frz o u)→H' b=some (.frz o u)
 tbls:∀ b ps,H b=some (.tbl ps)→∃ more,H' b=some (.tbl (ps++more))
section
variable {fs fs' ex ex':List Addr}{H H1 H2:Hp}{h h1 h2 h':Heap}{a x e:Addr}{o:HO}
theorem Un.any (u:Un fs ex H H1 h h1){b:Addr}{ob:Obj}(q:h.get? b=some ob)(n:H b=none)(hx:b ∉ ex):∃ sl,h1.get? b=some { ob with slots:=sl }:=by
 by_cases hb:b∈fs
 ·exact u.slot b ob q n hb hx
 ·exact⟨ob.slots,u.keep b ob q n hb hx⟩
theorem Un.kept (k:∀ b u,h.get? b=some u→h'.get? b=some u):Un fs ex H H h h' :=
 ⟨fun b ob q _ _ _=>k b ob q,fun b ob q _ _ _=>⟨ob.slots,k b ob q⟩,fun _ _ _ n _=>n,fun b ob q _=>⟨ob,k b ob q⟩,fun _ _ q=>q,fun _ _ _ q=>q,fun _ ps q=>⟨#[],by rw[q];simp⟩⟩
theorem Un.refl:Un fs ex H H h h:=Un.kept fun _ _ q=>q
theorem Un.laid (k:∀ b u,h.get? b=some u→h'.get? b=some u)(hp:h.objs.size≤a)(hn:H a=none):Un fs ex H (upd H a o) h h' where
 keep:=fun b u q _ _ _=>k b u q
 slot:=fun b u q _ _ _=>⟨u.slots,k b u q⟩
 free:=fun b u q n _=>by rw[Bb (Nat.ne_of_lt (Nat.lt_of_lt_of_le (Heap.lt_size q) hp))];exact n
 there:=fun b u q _=>⟨u,k b u q⟩
 tups:=fun b xs q=>by rw[Bb (Cg q hn)];exact q
 frzs:=fun b u xs q=>by rw[Bb (Cg q hn)];exact q
 tbls:=fun b ps q=>⟨#[],by rw[Bb (Cg q hn),q];simp⟩
theorem Un.write (mu:QM (H x))(he:e=x∨H e=some (.own x))(k:∀ b u,b≠e→h.get? b=some u→h'.get? b=some u)(heo:∃ u,h'.get? e=some u):Un fs ex H (upd H x o) h h':=by
 have hx:∀ b,H b=none→b≠x:=fun b n z=>by subst z;rw[n] at mu;exact mu
 have hb:∀ b,H b=none→b≠e:=fun b n z=>by
  subst z
  rcases he with r | r
  ·exact hx b n r
  ·rw[n] at r;cases r
 have hm:∀ b u,H b=some u→¬ QM (some u)→b≠x:=fun b u q nm z=>by subst z;rw[q] at mu;exact nm mu
 refine⟨fun b u q n _ _=>k b u (hb b n) q,fun b u q n _ _=>⟨u.slots,k b u (hb b n) q⟩,fun b u q n _=>by rw[Bb (hx b n)];exact n,fun b u q _=>?_,
  fun b xs q=>by rw[Bb (hm b _ q fun z=>z)];exact q,fun b u xs q=>by rw[Bb (hm b _ q fun z=>z)];exact q,fun b ps q=>⟨#[],by rw[Bb (hm b _ q fun z=>z),q];simp⟩⟩
 by_cases hbe:b=e
 ·subst hbe;exact heo
 ·exact⟨u,k b u hbe q⟩
end
noncomputable def Rg (h:Heap)(H:Hp):List Addr:=(List.range h.objs.size).filter fun a=>(H a).isSome
noncomputable def JF (h:Heap)(H:Hp):Heap:=PySem.W.hideAll h (Rg h H)
theorem ACp (h:Heap)(H:Hp):(JF h H).objs.size=h.objs.size:=PySem.W.hideAll_size _ _
theorem AJE {h:Heap}{H:Hp}{b:Addr}{o:Obj}(e:h.get? b=some o)(n:H b=none):(JF h H).get? b=some o :=
 PySem.W.hideAll_get _ e fun hm=>by
  have q:(H b).isSome=true:=(List.mem_filter.mp hm).2
  rw[n] at q;simp at q
theorem AFO {h:Heap}{H:Hp}{b:Addr}{o:Obj}(e:(JF h H).get? b=some o):h.get? b=some o∧H b=none:=by
 have e':h.get? b=some o:=PySem.W.of_hideAll (Rg h H) e
 refine⟨e',?_⟩
 cases q:H b with
 | none=>rfl
 | some x =>
  have hm:b∈Rg h H:=List.mem_filter.mpr ⟨List.mem_range.mpr (Heap.lt_size e'),by simp [q]⟩
  have z:(JF h H).get? b=none:=PySem.W.hideAll_none (Rg h H) hm
  rw[z] at e;cases e
noncomputable def ACT (g h:Heap)(L:Addr):List (Addr×Obj):=(List.range h.objs.size).filterMap fun a=>if a=L∨(g.get? a).isSome=true then none else (h.get? a).map fun o=>(a,o)
noncomputable def rest (g h:Heap)(L d:Addr):List (Addr×Obj):=(ACT g h L).filter fun p=>decide (p.1≠d)
structure Mod (K:Frag)(mg:Str→Option Value)(base:Heap):Prop where
 kin:K.In base
 glob:base.Ns mainGlobals mg
 blt:∃ mb,base.Ns builtinsNs mb∧∀ x:Str,x≠"__name__"→mb x=bootBuiltins x
 nolimit:base.NoLimit
structure Cx where
 prog:Program
 w:World
 K:Frag
 mg:Str→Option Value
 base:Heap
 A:Around
 N:List Str
 s₀:Shared
 H₀:Hp
 env:Env
 outer:List Env
 stack:List Env
 ex:List Addr
 fn:Str→Bool
 calm:Bool
 pn:List (Addr×Obj)
 xe:Value→Shared→Prop
noncomputable def Ie (l:List Env):List Addr:=l.filterMap (·.frame)
noncomputable abbrev Cx.fs (X:Cx):List Addr:=Ie X.outer
noncomputable def Es (sc:Scope)(x:Str):Prop:=sc.names.lookup x=some .local∨sc.names.lookup x=some .cell∨sc.names.lookup x=some .free
noncomputable def Loc (sc:Scope)(x:Str):Prop:=sc.names.lookup x=some .local∨sc.names.lookup x=some .cell
noncomputable def Look (env:Env)(h:Heap)(m:Str→Option Value)(x:Str)(u:Value):Prop :=
 (env.kindOf x=some .local∧m x=some u)∨((env.kindOf x=some .cell∨env.kindOf x=some .free)∧∃ c,env.cells.lookup x=some c∧h.IsCell c (some u))
structure Cx.Ok (X:Cx):Prop where
 mod:Mod X.K X.mg X.base
 kind:X.env.scope.kind=.function
 glob:X.env.globals=mainGlobals
 blt:X.env.builtins=builtinsNs
 above:X.s₀.heap.objs.size≤X.env.locals
 inj:∀ x y c,X.env.cells.lookup x=some c→X.env.cells.lookup y=some c→x=y
 has:∀ x,(X.env.kindOf x=some .cell∨X.env.kindOf x=some .free)→∃ c,X.env.cells.lookup x=some c
 cab:∀ x c,X.fn x=true→X.env.cells.lookup x=some c→X.s₀.heap.objs.size≤c
 hd:X.calm=true→X.A.handled=none
 frames:X.A.frames=some X.stack
 stk:X.stack=X.outer∨(X.stack=X.env::X.outer∧X.env.frame=some X.env.locals)
 exf:∀ b∈X.ex,b≠X.env.locals∧∀ x c,X.env.cells.lookup x=some c→c≠b
 bs:∀ b o,X.base.get? b=some o→X.s₀.heap.get? b=some o∧X.H₀ b=none
 bsz:X.base.objs.size≤X.s₀.heap.objs.size
 noex:∀ b o,X.base.get? b=some o→b ∉ X.ex
 exfs:∀ b∈X.ex,b ∉ X.fs
 Hh:X.s₀.heap.FunFrames X.base X.outer
 frf:∀ b∈X.fs,X.H₀ b=none
structure Inv (X:Cx)(pins:List (Addr×Obj))(σ:List (Option V))(H:Hp)(s:Shared):Prop where
 ok:X.Ok
 os:s.os=X.s₀.os
 bare:AllBare s.gens
 base:Un X.fs X.ex X.H₀ H X.s₀.heap s.heap
 loc:∃ m,s.heap.Ns X.env.locals m∧∀ (i:Nat) (x:Str) (v:V),X.N[i]?=some x→σ[i]?=some (some v)→Es X.env.scope x→∃ u,RelV v u∧Look X.env s.heap m x u
 cell:∀ x c,X.env.cells.lookup x=some c→∃ v,s.heap.IsCell c v
 free:H X.env.locals=none
 freeC:∀ x c,X.env.cells.lookup x=some c→H c=none
 pin:∀ p∈X.pn++pins,s.heap.get? p.1=some p.2∧H p.1=none∧p.1≠X.env.locals∧p.1 ∉ X.fs∧∀ v,p.2.data≠.cell v
 hok:Ck X.prog X.w H s.heap
 len:σ.length=X.N.length
section
variable {X:Cx}{pins:List (Addr×Obj)}{σ:List (Option V)}{H H':Hp}{s:Shared}{h':Heap}
theorem Cx.Ok.AJN (ok:X.Ok){b:Addr}{o:Obj}(e:X.base.get? b=some o):b ∉ X.fs:=fun hb=>by
 have:=(ok.Hh.mem hb).1
 rw[e] at this;cases this
theorem Inv.bs (I:Inv X pins σ H s):∀ b o,X.base.get? b=some o→s.heap.get? b=some o∧H b=none:=fun b o e =>
 ⟨I.base.keep b o (I.ok.bs b o e).1 (I.ok.bs b o e).2 (I.ok.AJN e) (I.ok.noex b o e),I.base.free b o (I.ok.bs b o e).1 (I.ok.bs b o e).2 (I.ok.noex b o e)⟩
theorem Inv.bk (I:Inv X pins σ H s):∀ b o,X.base.get? b=some o→s.heap.get? b=some o:=fun b o e=>(I.bs b o e).1
theorem Inv.mod (I:Inv X pins σ H s):Mod X.K X.mg X.base:=I.ok.mod
theorem Inv.NT (I:Inv X pins σ H s):X.K.In s.heap:=I.ok.mod.kin.keeps I.bk
theorem Inv.lt (I:Inv X pins σ H s):X.env.locals<s.heap.objs.size:=let ⟨_,hn,_⟩:=I.loc;hn.lt
theorem Inv.sz (I:Inv X pins σ H s):X.s₀.heap.objs.size≤s.heap.objs.size:=Nat.le_trans I.ok.above (Nat.le_of_lt I.lt)
theorem Inv.lQ (I:Inv X pins σ H s){a:Addr}(h:s.heap.objs.size≤a):a ∉ X.fs:=fun hb=>by
 obtain⟨_,o,ho,_⟩:=I.ok.Hh.mem hb
 exact absurd (Nat.lt_of_lt_of_le (Heap.lt_size ho) (Nat.le_trans I.sz h)) (Nat.lt_irrefl _)
theorem Inv.MJ (I:Inv X pins σ H s):∀ x c,X.env.cells.lookup x=some c→c≠X.env.locals:=fun x c e z=>by
 obtain⟨v,o,ho,hd⟩:=I.cell x c e
 obtain⟨m,⟨o',es,ep,ho',hd',_⟩,_⟩:=I.loc
 rw[z,ho'] at ho;cases ho;rw[hd'] at hd;cases hd
theorem Inv.Hh (I:Inv X pins σ H s):s.heap.FunFrames X.base X.outer:=by
 have all:∀ (l:List Env),(∀ b∈Ie l,b∈X.fs)→X.s₀.heap.FunFrames X.base l→s.heap.FunFrames X.base l:=by
  intro l
  induction l with
  | nil=>intro _ _;trivial
  | cons env r ih =>
   intro hs hl
   obtain⟨hk,⟨L,o,hf,hn,ho,hd⟩,hr⟩:=hl
   have hL:L∈X.fs:=hs L (by unfold Ie;rw[List.filterMap_cons,hf];exact Bf)
   obtain⟨sl,e⟩:=I.base.slot L o ho (I.ok.frf L hL) hL fun z=>I.ok.exfs L z hL
   exact⟨hk,⟨L,_,hf,hn,e,hd⟩,ih (fun b hb=>hs b (by unfold Ie;rw[List.filterMap_cons,hf];exact Bt hb)) hr⟩
 exact all X.outer (fun _ hb=>hb) I.ok.Hh
theorem Inv.stack (I:Inv X pins σ H s):s.heap.FunFrames X.base X.stack:=by
 rcases I.ok.stk with e | ⟨e,hf⟩
 ·rw[e];exact I.Hh
 ·rw[e]
  obtain⟨m,hn,_⟩:=I.loc
  refine .cons (by rw[I.ok.kind];decide) hf hn ?_ I.Hh
  exact Heap.get?_none_of_le (Nat.le_trans I.ok.bsz I.ok.above)
theorem Inv.U5 (I:Inv X pins σ H s):∀ b∈Ie X.stack,b∈X.env.locals::X.fs:=fun b hb=>by
 rcases I.ok.stk with e | ⟨e,hf⟩
 ·rw[e] at hb;exact Bt hb
 ·rw[e] at hb
  unfold Ie at hb
  rw[List.filterMap_cons,hf] at hb
  exact hb
theorem Inv.tH (I:Inv X pins σ H s):∀ b∈Ie X.stack,H b=none:=fun b hb=>by
 rcases List.mem_cons.mp (I.U5 b hb) with e | hb
 ·rw[e];exact I.free
 ·obtain⟨_,o,ho,_⟩:=I.ok.Hh.mem hb
  exact I.base.free b o ho (I.ok.frf b hb) fun z=>I.ok.exfs b z hb
theorem Inv.step {g':Array GenState}{t':Nat}{d':Drawn}{ch:List Addr}(I:Inv X pins σ H s)(hch:∀ b∈ch,(b∈X.ex∨X.s₀.heap.objs.size≤b)∧b≠X.env.locals∧(∀ x c,X.env.cells.lookup x=some c→c≠b)∧∀ p∈X.pn++pins,p.1≠b)(keep:∀ b o,b≠X.env.locals→b ∉ X.fs→b ∉ ch→s.heap.get? b=some o→H b=none→h'.get? b=some o)(slot:∀ b o,b≠X.env.locals→b∈X.fs→b ∉ ch→s.heap.get? b=some o→H b=none→∃ sl,h'.get? b=some { o with slots:=sl })(free:∀ b o,b ∉ ch→s.heap.get? b=some o→H b=none→H' b=none)(there:∀ b o,b ∉ ch→s.heap.get? b=some o→∃ o',h'.get? b=some o')(tups:∀ b xs,H b=some (.tup xs)→H' b=some (.tup xs))(frzs:∀ b o u,H b=some (.frz o u)→H' b=some (.frz o u))(tbls:∀ b ps,H b=some (.tbl ps)→∃ more,H' b=some (.tbl (ps++more)))(ns:∀ m,s.heap.Ns X.env.locals m→h'.Ns X.env.locals m)(hok:Ck X.prog X.w H' h')(hg:AllBare g') :
  Inv X pins σ H' { s with heap:=h',gens:=g',drawn:=d',toks:=t' }:=by
 have neL:∀ b o,X.s₀.heap.get? b=some o→b≠X.env.locals:=fun b o e=>Nat.ne_of_lt (Nat.lt_of_lt_of_le (Heap.lt_size e) I.ok.above)
 have neC:∀ b o,X.s₀.heap.get? b=some o→b ∉ X.ex→b ∉ ch:=fun b o e hx hb=>by
  rcases (hch b hb).1 with z | z
  ·exact hx z
  ·exact absurd (Nat.lt_of_lt_of_le (Heap.lt_size e) z) (Nat.lt_irrefl _)
 have cellK:∀ x c,X.env.cells.lookup x=some c→∀ v,s.heap.IsCell c v→h'.IsCell c v:=fun x c e v ⟨o,ho,hd⟩=>by
  have nch:c ∉ ch:=fun z=>(hch c z).2.2.1 x c e rfl
  by_cases hc:c∈X.fs
  ·obtain⟨sl,q⟩:=slot c o (I.MJ x c e) hc nch ho (I.freeC x c e)
   exact⟨_,q,hd⟩
  ·exact⟨o,keep c o (I.MJ x c e) hc nch ho (I.freeC x c e),hd⟩
 refine⟨I.ok,I.os,hg,⟨fun b o e n hb hx=>?_,fun b o e n hb hx=>?_,fun b o e n hx=>?_,fun b o e hx=>?_,fun b xs e=>tups b xs (I.base.tups b xs e),fun b o xs e=>frzs b o xs (I.base.frzs b o xs e),fun b ps e=>?_⟩,?_,fun x c e=>?_,?_,fun x c e=>?_,fun p hp=>?_,hok,I.len⟩
 ·exact keep b o (neL b o e) hb (neC b o e hx) (I.base.keep b o e n hb hx) (I.base.free b o e n hx)
 ·obtain⟨sl,e1⟩:=I.base.slot b o e n hb hx
  obtain⟨sl',e2⟩:=slot b _ (neL b o e) hb (neC b o e hx) e1 (I.base.free b o e n hx)
  exact⟨sl',e2⟩
 ·obtain⟨o',e1⟩:=I.base.there b o e hx
  exact free b o' (neC b o e hx) e1 (I.base.free b o e n hx)
 ·obtain⟨o',e1⟩:=I.base.there b o e hx
  exact there b o' (neC b o e hx) e1
 ·obtain⟨m1,e1⟩:=I.base.tbls b ps e
  obtain⟨m2,e2⟩:=tbls b _ e1
  exact⟨m1++m2,by rw[e2,Array.append_assoc]⟩
 ·obtain⟨m,hn,hl⟩:=I.loc
  refine⟨m,ns m hn,fun i x v e1 e2 e3=>?_⟩
  obtain⟨u,r,l⟩:=hl i x v e1 e2 e3
  refine⟨u,r,?_⟩
  rcases l with l | ⟨k,c,e,z⟩
  ·exact .inl l
  ·exact .inr ⟨k,c,e,cellK x c e _ z⟩
 ·obtain⟨v,z⟩:=I.cell x c e
  exact⟨v,cellK x c e v z⟩
 ·obtain⟨m,⟨o,_,_,ho,_⟩,_⟩:=I.loc
  exact free _ o (fun z=>(hch _ z).2.1 rfl) ho I.free
 ·obtain⟨v,o,ho,hd⟩:=I.cell x c e
  exact free c o (fun z=>(hch c z).2.2.1 x c e rfl) ho (I.freeC x c e)
 ·obtain⟨e,n,ne,nf,d⟩:=I.pin p hp
  have nch:p.1 ∉ ch:=fun z=>(hch p.1 z).2.2.2 p hp rfl
  exact⟨keep p.1 p.2 ne nf nch e n,free p.1 p.2 nch e n,ne,nf,d⟩
theorem Inv.un {t':Nat}(I:Inv X pins σ H s)(u:Un X.fs [] H H' s.heap h')(hok:Ck X.prog X.w H' h'):Inv X pins σ H' { s with heap:=h',toks:=t' }:=by
 obtain⟨m,⟨o,es,ep,ho,r⟩,_⟩:=id I.loc
 obtain⟨sl,hL⟩:=u.any ho I.free (by simp)
 exact I.step (g':=s.gens) (d':=s.drawn) (ch:=[]) (fun _ z=>nomatch z) (fun b o _ hb _ e n=>u.keep b o e n hb (by simp)) (fun b o _ hb _ e n=>u.slot b o e n hb (by simp)) (fun b o _ e n=>u.free b o e n (by simp)) (fun b o _ e=>u.there b o e (by simp)) u.tups u.frzs u.tbls (fun m' hm=>by
  obtain⟨o',es',ep',ho',r'⟩:=hm
  rw[ho] at ho';cases ho'
  exact⟨_,es',ep',hL,r'⟩) hok I.bare
theorem Inv.call {g':Array GenState}{t':Nat}{d':Drawn}{ch:List Addr}(I:Inv X pins σ H s)(u:Un (Ie X.stack) ch H H' s.heap h')(hok:Ck X.prog X.w H' h')(hg:AllBare g')(hch:∀ b∈ch,(b∈X.ex∨X.s₀.heap.objs.size≤b)∧b≠X.env.locals∧(∀ x c,X.env.cells.lookup x=some c→c≠b)∧∀ p∈X.pn++pins,p.1≠b) :
  Inv X pins σ H' { s with heap:=h',gens:=g',drawn:=d',toks:=t' }:=by
 obtain⟨m,⟨o,es,ep,ho,r⟩,_⟩:=id I.loc
 obtain⟨sl,hL⟩:=u.any ho I.free fun z=>(hch _ z).2.1 rfl
 exact I.step (ch:=ch) hch (fun b o hL hb hc e n=>u.keep b o e n (fun z=>(List.mem_cons.mp (I.U5 b z)).elim hL hb) hc) (fun b o _ _ hc e n=>u.any e n hc) (fun b o hc e n=>u.free b o e n hc) (fun b o hc e=>u.there b o e hc) u.tups u.frzs u.tbls (fun m' hm=>by
  obtain⟨o',es',ep',ho',r'⟩:=hm
  rw[ho] at ho';cases ho'
  exact⟨_,es',ep',hL,r'⟩) hok hg
theorem Inv.turned {t':Nat}{it:Addr}(I:Inv X pins σ H s)(k:∀ b o,b≠it→s.heap.get? b=some o→h'.get? b=some o)(hn:H it=none)(hL:it≠X.env.locals)(h1:it∈X.ex∨X.s₀.heap.objs.size≤it)(h2:∀ x c,X.env.cells.lookup x=some c→c≠it)(h3:∀ p∈X.pn++pins,p.1≠it):Inv X pins σ H { s with heap:=h',toks:=t' }:=by
 have nit:∀ b u,H b=some u→b≠it:=fun b u e z=>by rw[z,hn] at e;cases e
 refine I.step (g':=s.gens) (d':=s.drawn) (ch:=[it]) (fun b hb=>?_) (fun b o _ _ hc e _=>k b o (fun z=>hc (by simp [z])) e) (fun b o _ _ hc e _=>⟨o.slots,k b o (fun z=>hc (by simp [z])) e⟩) (fun _ _ _ _ n=>n)
  (fun b o hc e=>⟨o,k b o (fun z=>hc (by simp [z])) e⟩) (fun _ _ e=>e) (fun _ _ _ e=>e) (fun b ps e=>⟨#[],by rw[e];simp⟩) (fun m hm=>?_) (fun b u e=>?_) I.bare
 ·have e:b=it:=by simpa using hb
  subst e
  exact⟨h1,hL,h2,h3⟩
 ·obtain⟨o,es,ep,ho,r⟩:=hm
  exact⟨o,es,ep,k _ o (Ne.symm hL) ho,r⟩
 ·refine (I.hok b u e).Kg (fun c v hc q=>k c v ?_ q) (fun _ q=>q) fun _ _ q=>q
  rcases hc with z | z
  ·rw[z];exact nit b u e
  ·exact nit c _ z
theorem Inv.tok (I:Inv X pins σ H s)(t:Nat):Inv X pins σ H { s with toks:=t }:=I.un (h':=s.heap) (t':=t) Un.refl I.hok
theorem Inv.kept {t':Nat}(I:Inv X pins σ H s)(k:∀ b u,s.heap.get? b=some u→h'.get? b=some u):Inv X pins σ H { s with heap:=h',toks:=t' }:=I.un (Un.kept k) (I.hok.kept k)
theorem Inv.laid {a:Addr}{o:HO}{t':Nat}(I:Inv X pins σ H s)(k:∀ b u,s.heap.get? b=some u→h'.get? b=some u)(hp:s.heap.objs.size≤a)(new:Ej X.prog X.w (upd H a o) h' a o) :
  Inv X pins σ (upd H a o) { s with heap:=h',toks:=t' }:=I.un (Un.laid k hp (I.hok.fresh hp)) (I.hok.laid k hp new)
theorem Inv.write {x e:Addr}{o:HO}{t':Nat}(I:Inv X pins σ H s)(mu:QM (H x))(he:e=x∨H e=some (.own x))(k:∀ b u,b≠e→s.heap.get? b=some u→h'.get? b=some u)(heo:∃ u,h'.get? e=some u)(new:Ej X.prog X.w (upd H x o) h' x o):Inv X pins σ (upd H x o) { s with heap:=h',toks:=t' }:=I.un (Un.write mu he k heo) (I.hok.write mu he k heo new)
theorem Inv.weak {σ':List (Option V)}(I:Inv X pins σ H s)(hl:σ'.length=σ.length)(w:∀ (i:Nat) v,σ'[i]?=some (some v)→σ[i]?=some (some v)):Inv X pins σ' H s :=
 ⟨I.ok,I.os,I.bare,I.base,let ⟨m,hn,hl'⟩:=I.loc;⟨m,hn,fun i x v e1 e2 e3=>hl' i x v e1 (w i v e2) e3⟩,I.cell,I.free,I.freeC,I.pin,I.hok,hl.trans I.len⟩
theorem Inv.YW {pins':List (Addr×Obj)}(I:Inv X pins σ H s)(h:∀ p∈pins',s.heap.get? p.1=some p.2∧H p.1=none∧p.1≠X.env.locals∧p.1 ∉ X.fs∧∀ v,p.2.data≠.cell v):Inv X pins' σ H s :=
 ⟨I.ok,I.os,I.bare,I.base,I.loc,I.cell,I.free,I.freeC,fun p hp=>(List.mem_append.mp hp).elim (fun z=>I.pin p (Cw z)) (h p),I.hok,I.len⟩
theorem lH {N:List Str}(hN:N.Nodup){i j:Nat}{x:Str}(a:N[i]?=some x)(b:N[j]?=some x):i=j:=by
 obtain⟨h1,e1⟩:=List.getElem?_eq_some_iff.mp a
 obtain⟨h2,e2⟩:=List.getElem?_eq_some_iff.mp b
 exact (List.getElem_inj hN).mp (e1.trans e2.symm)
theorem ACL {M:Model}{A:Around}{E:Value→Shared→Prop}{i:Nat}{x:Str}{v:V}{u:Value}{Q:Unit→Shared→Prop}(I:Inv X pins σ H s)(hN:X.N.Nodup)(hi:X.N[i]?=some x)(hx:Loc X.env.scope x)(r:RelV v u)(h:∀ s',Inv X pins (σ.set i (some v)) H s'→(∃ a,Heap.SameBut a s.heap s'.heap∧(a=X.env.locals∨X.env.cells.lookup x=some a))→Q () s')(hf:X.fn x=true∨X.env.scope.names.lookup x=some .local:=by first | exact .inl rfl | exact .inr rfl | assumption):wpAny M A (storeName X.env x u) Q E s:=by
 obtain⟨m,hn,hl⟩:=id I.loc
 have hcls:(X.env.scope.kind == .class || (X.env.scope.kind == .module && X.env.locals != X.env.globals))=false:=by rw[I.ok.kind];rfl
 have hiσ:i<σ.length:=by rw[I.len];exact (List.getElem?_eq_some_iff.mp hi).1
 have MJ:=I.MJ
 have tracked:∀ {a:Addr}{h':Heap},(∃ o,s.heap.get? a=some o∧H a=none)→Heap.SameBut a s.heap h'→Ck X.prog X.w H h':=fun {a h'} ha hs b ob e=>by
  obtain⟨_,_,hfree⟩:=ha
  refine (I.hok b ob e).Kg (fun c w' hc q=>(hs.2 c ?_).trans q) (fun _ q=>q) fun _ _ q=>q
  rintro rfl
  rcases hc with rfl | hc
  ·rw[hfree] at e;cases e
  ·rw[hfree] at hc;cases hc
 rcases hx with hk | hk
 ·refine wpAny_storeName_local hk hn (fun h' hn' hs=>?_) hcls
  obtain⟨oL,_,_,hoL,_⟩:=id hn
  refine h _ ⟨I.ok,I.os,I.bare,⟨fun b o e n hb hx=>?_,fun b o e n hb hx=>?_,I.base.free,fun b o e hx=>?_,I.base.tups,I.base.frzs,I.base.tbls⟩,⟨_,hn',fun j y v' e1 e2 e3=>?_⟩,fun y c e=>?_,I.free,I.freeC,fun p hp=>?_,tracked ⟨oL,hoL,I.free⟩ hs,by simpa using I.len⟩ ⟨_,hs,.inl rfl⟩
  ·exact (hs.2 b (Nat.ne_of_lt (Nat.lt_of_lt_of_le (Heap.lt_size e) I.ok.above))).trans (I.base.keep b o e n hb hx)
  ·obtain⟨sl,e1⟩:=I.base.slot b o e n hb hx
   exact⟨sl,(hs.2 b (Nat.ne_of_lt (Nat.lt_of_lt_of_le (Heap.lt_size e) I.ok.above))).trans e1⟩
  ·obtain⟨o',e1⟩:=I.base.there b o e hx
   exact⟨o',(hs.2 b (Nat.ne_of_lt (Nat.lt_of_lt_of_le (Heap.lt_size e) I.ok.above))).trans e1⟩
  ·by_cases hj:j=i
   ·subst hj
    rw[hi] at e1;cases e1
    rw[List.getElem?_set_self hiσ] at e2
    cases e2
    exact⟨u,r,.inl ⟨hk,by simp⟩⟩
   ·rw[List.getElem?_set_ne (Ne.symm hj)] at e2
    obtain⟨u',r',q⟩:=hl j y v' e1 e2 e3
    refine⟨u',r',?_⟩
    rcases q with⟨k,e⟩ | ⟨k,c,e,z⟩
    ·refine .inl ⟨k,?_⟩
     have:y≠x:=fun e=>hj (lH hN e1 (e ▸ hi))
     simp [this,e]
    ·exact .inr ⟨k,c,e,z.sameBut hs (MJ y c e)⟩
  ·obtain⟨w',z⟩:=I.cell y c e
   exact⟨w',z.sameBut hs (MJ y c e)⟩
  ·obtain⟨e,n,ne,nf,d⟩:=I.pin p hp
   exact⟨(hs.2 p.1 ne).trans e,n,ne,nf,d⟩
 ·have hfn:X.fn x=true:=by
   rcases hf with z | z
   ·exact z
   ·rw[z] at hk;cases hk
  obtain⟨c,hc⟩:=I.ok.has x (.inl hk)
  obtain⟨w',z⟩:=I.cell x c hc
  refine wpAny_storeName_cell I.ok.kind hk hc z (fun h' hc' hs=>?_)
  obtain⟨oc,hoc,hocd⟩:=id z
  refine h { s with heap:=h' } ⟨I.ok,I.os,I.bare,⟨fun b o e n hb hx=>?_,fun b o e n hb hx=>?_,I.base.free,fun b o e hx=>?_,I.base.tups,I.base.frzs,I.base.tbls⟩,⟨m,hn.sameBut hs (Ne.symm (MJ x c hc)),fun j y v' e1 e2 e3=>?_⟩,fun y c' e=>?_,I.free,I.freeC,fun p hp=>?_,tracked ⟨oc,hoc,I.freeC x c hc⟩ hs,by simpa using I.len⟩ ⟨c,hs,.inr hc⟩
  ·exact (hs.2 b (Nat.ne_of_lt (Nat.lt_of_lt_of_le (Heap.lt_size e) (I.ok.cab x c hfn hc)))).trans (I.base.keep b o e n hb hx)
  ·obtain⟨sl,e1⟩:=I.base.slot b o e n hb hx
   exact⟨sl,(hs.2 b (Nat.ne_of_lt (Nat.lt_of_lt_of_le (Heap.lt_size e) (I.ok.cab x c hfn hc)))).trans e1⟩
  ·obtain⟨o',e1⟩:=I.base.there b o e hx
   exact⟨o',(hs.2 b (Nat.ne_of_lt (Nat.lt_of_lt_of_le (Heap.lt_size e) (I.ok.cab x c hfn hc)))).trans e1⟩
  ·by_cases hj:j=i
   ·subst hj
    rw[hi] at e1;cases e1
    rw[List.getElem?_set_self hiσ] at e2
    cases e2
    exact⟨u,r,.inr ⟨.inl hk,c,hc,hc'⟩⟩
   ·rw[List.getElem?_set_ne (Ne.symm hj)] at e2
    obtain⟨u',r',q⟩:=hl j y v' e1 e2 e3
    refine⟨u',r',?_⟩
    rcases q with q | ⟨k,c',e,z'⟩
    ·exact .inl q
    ·refine .inr ⟨k,c',e,z'.sameBut hs ?_⟩
     rintro rfl
     exact hj (lH hN e1 (I.ok.inj _ _ _ e hc ▸ hi))
  ·by_cases hcc:c'=c
   ·subst hcc;exact⟨_,hc'⟩
   ·obtain⟨w2,z2⟩:=I.cell y c' e
    exact⟨w2,z2.sameBut hs hcc⟩
  ·obtain⟨e,n,ne,nf,d⟩:=I.pin p hp
   refine⟨(hs.2 p.1 ?_).trans e,n,ne,nf,d⟩
   intro q
   rw[q,hoc] at e
   have q':oc=p.2:=Option.some.inj e
   exact d w' (by rw[← q'];exact hocd)
theorem tD {M:Model}{A:Around}{E:Value→Shared→Prop}{i:Nat}{x:Str}{v:V}{u:Value}{Q:Unit→Shared→Prop}(I:Inv X pins σ H s)(hN:X.N.Nodup)(hi:X.N[i]?=some x)(hx:Loc X.env.scope x)(r:RelV v u)(h:∀ s',Inv X pins (σ.set i (some v)) H s'→Q () s')(hf:X.fn x=true∨X.env.scope.names.lookup x=some .local:=by first | exact .inl rfl | exact .inr rfl | assumption):wpAny M A (storeName X.env x u) Q E s :=
 ACL I hN hi hx r (fun s' I' _=>h s' I') hf
theorem Inv.AAf {s':Shared}{ch:List Addr}(I:Inv X pins σ H s)(ho:s'.os=s.os)(u:Un (Ie X.stack) ch H H' s.heap s'.heap)(hok:Ck X.prog X.w H' s'.heap)(hg:AllBare s'.gens)(hch:∀ b∈ch,(b∈X.ex∨X.s₀.heap.objs.size≤b)∧b≠X.env.locals∧(∀ x c,X.env.cells.lookup x=some c→c≠b)∧∀ p∈X.pn++pins,p.1≠b):Inv X pins σ H' s':=by
 obtain⟨h',g',d',t',o'⟩:=s'
 have e:o'=s.os:=ho
 subst e
 exact I.call (g':=g') (t':=t') (d':=d') u hok hg hch
end
noncomputable abbrev XK:=Value→Option Addr→Hp→Prop
noncomputable abbrev St:=List (Option V)
noncomputable abbrev VK:=V→Hp→Prop
noncomputable abbrev TE:=St→Hp→VK→Prop
noncomputable abbrev TT:=St→Hp→(Bool→Hp→Prop)→Prop
noncomputable abbrev TA:=St→Hp→(List V→Hp→Prop)→Prop
structure Ends where
 nx:St→Hp→Prop
 rt:VK
 bk:St→Hp→Prop:=fun _ _=>False
 ct:St→Hp→Prop:=fun _ _=>False
noncomputable abbrev TS:=Ends→St→Hp→Prop
noncomputable def EP (X:Cx)(pins:List (Addr×Obj))(σ:St)(Q:VK)(u:Value)(s':Shared):Prop:=∃ v H',Inv X pins σ H' s'∧RelV v u∧Q v H'
noncomputable def TP (X:Cx)(pins:List (Addr×Obj))(σ:St)(Q:Bool→Hp→Prop)(b:Bool)(s':Shared):Prop:=∃ H',Inv X pins σ H' s'∧Q b H'
noncomputable def AP (X:Cx)(pins:List (Addr×Obj))(σ:St)(Q:List V→Hp→Prop)(us:List Value)(s':Shared):Prop:=∃ vs H',Inv X pins σ H' s'∧Vals vs us∧Q vs H'
noncomputable def SP (X:Cx)(pins:List (Addr×Obj))(D:Ends)(f:Flow)(s':Shared):Prop :=
 match f with
 | .next=>∃ σ' H',Inv X pins σ' H' s'∧D.nx σ' H'
 | .brk=>∃ σ' H',Inv X pins σ' H' s'∧D.bk σ' H'
 | .cont=>∃ σ' H',Inv X pins σ' H' s'∧D.ct σ' H'
 | .ret u=>∃ v σ' H',Inv X pins σ' H' s'∧RelV v u∧D.rt v H'
noncomputable def PE (X:Cx)(e:Expr)(t:TE):Prop :=
 ∀ (pins:List (Addr×Obj)) (s:Shared) (σ:St) (H:Hp) (Q:VK),Inv X pins σ H s→t σ H Q→wpAny (model X.prog X.w) X.A (eval e X.env) (EP X pins σ Q) X.xe s
noncomputable def PT (X:Cx)(e:Expr)(t:TT):Prop :=
 ∀ (pins:List (Addr×Obj)) (s:Shared) (σ:St) (H:Hp) (Q:Bool→Hp→Prop),Inv X pins σ H s→t σ H Q→wpAny (model X.prog X.w) X.A (isTrue e X.env (eval e X.env)) (TP X pins σ Q) X.xe s
noncomputable def PW (X:Cx)(e:Expr)(t:TT):Prop :=
 ∀ (whole:Sem Value) (pins:List (Addr×Obj)) (s:Shared) (σ:St) (H:Hp) (Q:Bool→Hp→Prop),Inv X pins σ H s→t σ H Q→wpAny (model X.prog X.w) X.A (isTrue e X.env whole) (TP X pins σ Q) X.xe s
theorem PW.pt {X:Cx}{e:Expr}{t:TT}(h:PW X e t):PT X e t:=h _
noncomputable def PA (X:Cx)(es:List Expr)(t:TA):Prop :=
 ∀ (pos:Pos) (pins:List (Addr×Obj)) (s:Shared) (σ:St) (H:Hp) (Q:List V→Hp→Prop),Inv X pins σ H s→t σ H Q→wpAny (model X.prog X.w) X.A (spliced (backTo pos (starEach es X.env))) (AP X pins σ Q) X.xe s
noncomputable def PS (X:Cx)(st:Stmt)(t:TS):Prop :=
 ∀ (pins:List (Addr×Obj)) (s:Shared) (σ:St) (H:Hp) (D:Ends),Inv X pins σ H s→t D σ H→wpAny (model X.prog X.w) X.A (exec st X.env) (SP X pins D) X.xe s
noncomputable def Gh (X:Cx)(st:List Stmt)(t:TS):Prop :=
 ∀ (pins:List (Addr×Obj)) (s:Shared) (σ:St) (H:Hp) (D:Ends),Inv X pins σ H s→t D σ H→wpAny (model X.prog X.w) X.A (execs st X.env) (SP X pins D) X.xe s
theorem BL {α:Type}{t:Sem α}{Q Q':α→Shared→Prop}{M:Model}{A:Around}{E:Value→Shared→Prop}{s:Shared}(h:wpAny M A t Q E s)(hQ:∀ a s,Q a s→Q' a s):wpAny M A t Q' E s:=wpAny_mono h hQ fun _ _ x=>x
section
variable {X:Cx}
noncomputable def CJ (i:Nat):TE:=fun σ H Q=>∃ v,σ[i]?=some (some v)∧Q v H
noncomputable def tC (v:V):TE:=fun _ H Q=>Q v H
theorem G6 {i:Nat}{x:Str}{pos:Pos}(hN:X.N[i]?=some x)(hv:Es X.env.scope x)(hd:(x == ("__debug__":Str))=false:=by decide)(hcd:(x == ("__classdict__":Str))=false:=by decide):PE X (.Name x pos) (CJ i):=by
 intro pins s σ H Q I h
 obtain⟨v,e,h⟩:=h
 obtain⟨m,hn,hl⟩:=I.loc
 obtain⟨u,r,l⟩:=hl i x v hN e hv
 have fin:EP X pins σ Q u s:=⟨v,H,I,r,h⟩
 rcases l with⟨hk,hm⟩ | ⟨hk,c,hc,hcell⟩
 ·exact wpAny_Name (wpAny_loadName_local I.ok.kind hk hn hm fin) hd
 ·rcases hk with hk | hk
  ·exact wpAny_Name (wpAny_loadName_cell I.ok.kind hk hc hcell fin) hd
  ·exact wpAny_Name (wpAny_loadName_free I.ok.kind hk hc hcell fin hcd) hd
theorem Zn {i j pos}:PE X (.Constant (.int i) j pos) (tC (.int i)):=fun _ _ _ H _ I h=>wpAny_Constant_int ⟨.int i,H,I.tok _,⟨_,rfl⟩,h⟩
theorem AGj {b j pos}:PE X (.Constant (.bool b) j pos) (tC (.bl b)):=fun _ _ _ H _ I h=>Constant_bool ⟨.bl b,H,I,rfl,h⟩
theorem AAR {j pos}:PE X (.Constant .none j pos) (tC .non):=fun _ _ _ H _ I h=>Constant_none ⟨.non,H,I,rfl,h⟩
noncomputable def Gl (X:Cx)(x:Str):Prop:=X.env.kindOf x=some .globalImplicit
theorem m7 {E:Value→Shared→Prop}{pins:List (Addr×Obj)}{s:Shared}{σ:St}{H:Hp}{x:Str}{u:Value}{pos:Pos}{Q:Value→Shared→Prop}(I:Inv X pins σ H s)(hg:Gl X x)(hm:X.mg x=some u)(h:Q u s)(hd:(x == ("__debug__":Str))=false:=by decide):wpAny (model X.prog X.w) X.A (eval (.Name x pos) X.env) Q E s :=
 Calls.Name_function_global I.ok.kind hg (Calls.loadGlobal_global (by rw[I.ok.glob];exact I.mod.glob.keeps I.bk) hm h) hd
theorem KH {E:Value→Shared→Prop}{pins:List (Addr×Obj)}{s:Shared}{σ:St}{H:Hp}{x:Str}{u:Value}{pos:Pos}{Q:Value→Shared→Prop}(I:Inv X pins σ H s)(hg:Gl X x)(hm:X.mg x=none)(hv:bootBuiltins x=some u)(h:Q u s)(hn:x≠"__name__":=by decide)(hd:(x == ("__debug__":Str))=false:=by decide):wpAny (model X.prog X.w) X.A (eval (.Name x pos) X.env) Q E s:=by
 obtain⟨mb,h1,h2⟩:=I.mod.blt
 exact Calls.Name_function_global I.ok.kind hg (Calls.loadGlobal_builtin (by rw[I.ok.glob];exact I.mod.glob.keeps I.bk) hm (by rw[I.ok.blt];exact h1.keeps I.bk) ((h2 x hn).trans hv) h) hd
theorem AFb {x:Str}{v:V}{u:Value}{pos:Pos}(hg:Gl X x)(hm:X.mg x=some u)(r:RelV v u)(hd:(x == ("__debug__":Str))=false:=by decide):PE X (.Name x pos) (tC v) :=
 fun _ _ _ H _ I h=>m7 I hg hm ⟨v,H,I,r,h⟩ hd
variable {a b:Expr}{ta tb:TE}{pos:Pos}
noncomputable def PC (X:Cx)(op:CmpOp)(a b:Expr)(t:TE):Prop :=
 ∀ (pins:List (Addr×Obj)) (s:Shared) (σ:St) (H:Hp) (Q:VK),Inv X pins σ H s→t σ H Q →
  wpAny (model X.prog X.w) X.A (eval a X.env) (fun v s₁=>wpAny (model X.prog X.w) X.A (eval b X.env) (fun u s₂=>wpAny (model X.prog X.w) X.A (compareOp op v u) (EP X pins σ Q) X.xe s₂) X.xe s₁) X.xe s
noncomputable def tB (t:TE):TT:=fun σ H Q=>t σ H fun x H1=>∃ c,x=.bl c∧Q c H1
theorem ABg {op:CmpOp}{t:TE}(h:PC X op a b t)(h1:behindInMarks op b=false:=by first | exact nobehind _ (by decide) (by decide) | rfl):PT X (.Compare a [op] [b] pos) (tB t):=by
 intro pins s σ H Q I hw
 refine wpAny_isTrue_Compare1 (BL (h pins s σ H _ I hw) fun v s1 h1=>BL h1 fun u s2 h2=>BL h2 fun c s3 ⟨x,H1,I1,r1,q1⟩=>?_) h1
 obtain⟨d,rfl,q⟩:=q1
 cases r1
 exact wpAny_truthy_bool ⟨H1,I1,q⟩
theorem rN {e:Expr}{t:TE}(h:PE X e t)(he:∀ whole,isTrue e X.env whole=(do let v ← whole;standAt e.pos;holding [v] (truthy v)):=by intro _;rfl):PT X e (tB t):=by
 intro pins s σ H Q I hw
 refine isTrue_plain (BL (h pins s σ H _ I hw) fun v s1 ⟨x,H1,I1,r1,q1⟩=>?_) (he _)
 obtain⟨d,rfl,q⟩:=q1
 cases r1
 exact wpAny_truthy_bool ⟨H1,I1,q⟩
variable {tA tB':TT}{rest:List Expr}
noncomputable def Us (t u:TT):TT:=fun σ H Q=>t σ H fun c H1=>if c=true then u σ H1 Q else Q false H1
noncomputable def u6 (t u:TT):TT:=fun σ H Q=>t σ H fun c H1=>if c=true then Q true H1 else u σ H1 Q
noncomputable def Xi (t:TT):TT:=fun σ H Q=>t σ H fun c H1=>Q (!c) H1
theorem qG (ha:PT X a tA):PW X (.BoolOp .And [a] pos) tA:=by
 intro wh pins s σ H Q I h
 refine isTrue_and (BL (ha pins s σ H Q I h) fun c s1 e=>?_)
 cases c with
 | true=>exact isTrue_and_nil e
 | false=>exact e
theorem AHC (ha:PT X a tA):PW X (.BoolOp .Or [a] pos) tA:=by
 intro wh pins s σ H Q I h
 refine isTrue_or (BL (ha pins s σ H Q I h) fun c s1 e=>?_)
 cases c with
 | false=>exact isTrue_or_nil e
 | true=>exact e
theorem mC (ha:PT X a tA)(hb:PW X (.BoolOp .And (b::rest) pos) tB'):PW X (.BoolOp .And (a::b::rest) pos) (Us tA tB'):=by
 intro wh pins s σ H Q I h
 refine isTrue_and (BL (ha pins s σ H _ I h) fun c s1 ⟨H1,I1,q1⟩=>?_)
 cases c with
 | true=>exact hb wh pins s1 σ H1 Q I1 q1
 | false=>exact⟨H1,I1,q1⟩
theorem xR (ha:PT X a tA)(hb:PW X (.BoolOp .Or (b::rest) pos) tB'):PW X (.BoolOp .Or (a::b::rest) pos) (u6 tA tB'):=by
 intro wh pins s σ H Q I h
 refine isTrue_or (BL (ha pins s σ H _ I h) fun c s1 ⟨H1,I1,q1⟩=>?_)
 cases c with
 | true=>exact⟨H1,I1,q1⟩
 | false=>exact hb wh pins s1 σ H1 Q I1 q1
theorem fG (ha:PT X a tA):PT X (.UnaryOp .Not a pos) (Xi tA):=by
 intro pins s σ H Q I h
 exact isTrue_not (ha pins s σ H (fun c H1=>Q (!c) H1) I h)
noncomputable def cT (ta tb:TE):TE:=fun σ H Q=>ta σ H fun x H1=>∃ c,x=.bl c∧if c=true then tb σ H1 Q else Q (.bl false) H1
noncomputable def qX (ta tb:TE):TE:=fun σ H Q=>ta σ H fun x H1=>∃ c,x=.bl c∧if c=true then Q (.bl true) H1 else tb σ H1 Q
theorem ABI {op}{t:TE}(h:PE X a t):PE X (.BoolOp op [a] pos) t:=fun pins s σ H Q I hw=>BoolOp_one (h pins s σ H Q I hw)
theorem xG (ha:PE X a ta)(hb:PE X (.BoolOp .And (b::rest) pos) tb):PE X (.BoolOp .And (a::b::rest) pos) (cT ta tb):=by
 intro pins s σ H Q I h
 refine BoolOp_and (BL (ha pins s σ H _ I h) fun v s1 ⟨x,H1,I1,r1,q1⟩=>?_)
 obtain⟨c,rfl,q1⟩:=q1
 cases r1
 refine wpAny_truthy_bool ?_
 cases c with
 | true=>exact hb pins s1 σ H1 Q I1 q1
 | false=>exact⟨.bl false,H1,I1,rfl,q1⟩
theorem AHk (ha:PE X a ta)(hb:PE X (.BoolOp .Or (b::rest) pos) tb):PE X (.BoolOp .Or (a::b::rest) pos) (qX ta tb):=by
 intro pins s σ H Q I h
 refine BoolOp_or (BL (ha pins s σ H _ I h) fun v s1 ⟨x,H1,I1,r1,q1⟩=>?_)
 obtain⟨c,rfl,q1⟩:=q1
 cases r1
 refine wpAny_truthy_bool ?_
 cases c with
 | false=>exact hb pins s1 σ H1 Q I1 q1
 | true=>exact⟨.bl true,H1,I1,rfl,q1⟩
end
noncomputable def BP (K:Frag)(H:Hp)(a:Addr)(xs:List V):Prop :=
 Rd H a (.lst xs) ∨
  ∃ (o:Obj) (its:Array Value) (n:Nat),K.lookup a=some o∧o.cls=.type "list"∧o.dict=none∧o.data=.seq its n∧its.size≤sizeLine∧Vals xs its.toList
noncomputable def Ds (K:Frag)(H:Hp)(a:Addr)(xs:List V):Prop :=
 Rd H a (.tup xs) ∨
  ∃ (o:Obj) (its:Array Value) (n:Nat),K.lookup a=some o∧o.cls=.type "tuple"∧o.data=.seq its n∧its.size≤sizeLine∧Vals xs its.toList
noncomputable def AGB:Value→Option V
 | .none=>some .non
 | .bool b=>some (.bl b)
 | .int i _=>some (.int i)
 | .str x _=>some (.str x)
 | .bytes b _=>some (.byt b)
 | .float b _=>some (.flt b)
 | .ref a=>some (.ref a)
 | .type n=>some (.ty n)
 | _=>none
theorem RelV.abs {x:V}{u:Value}(r:RelV x u):AGB u=some x:=by
 cases x with
 | non=>cases r;rfl
 | bl _=>cases r;rfl
 | int _=>obtain⟨t,rfl⟩:=r;rfl
 | str _=>obtain⟨t,rfl⟩:=r;rfl
 | byt _=>obtain⟨t,rfl⟩:=r;rfl
 | flt _=>obtain⟨t,rfl⟩:=r;rfl
 | ref _=>cases r;rfl
 | ty _=>cases r;rfl
theorem RelV.inj {x y:V}{u:Value}(r:RelV x u)(q:RelV y u):x=y:=Option.some.inj (r.abs.symm.trans q.abs)
theorem Vals.inj:∀ {xs ys:List V}{us:List Value},Vals xs us→Vals ys us→xs=ys
 | _,_,_,.nil,.nil=>rfl
 | _,_,_,.cons r t,.cons r' t'=>by rw[r.inj r',Vals.inj t t']
section
variable {X:Cx}{pins:List (Addr×Obj)}{σ:St}{H:Hp}{s:Shared}{a:Addr}{xs ys:List V}
theorem BP.of {K:Frag}(h:H a=some (.lst xs)):BP K H a xs:=.inl (.inl h)
theorem Ds.of {K:Frag}(h:H a=some (.tup xs)):Ds K H a xs:=.inl (.inl h)
theorem Inv.list (I:Inv X pins σ H s)(h:BP X.K H a xs):∃ its:List Value,Vals xs its∧PlainL s.heap a its.toArray∧xs.length≤sizeLine:=by
 rcases h with h | ⟨o,its,n,hk,hc,hd,hs,hz,r⟩
 ·obtain⟨z,its,n,r,e⟩:=h.ok I.hok
  exact⟨its,r,⟨_,n,e,rfl,rfl,rfl⟩,z⟩
 ·refine⟨its.toList,r,⟨o,n,I.NT a o hk,hc,hd,by simpa using hs⟩,?_⟩
  have e:=r.length
  simp only[Array.length_toList] at e
  omega
theorem Inv.tuple (I:Inv X pins σ H s)(h:Ds X.K H a xs):∃ its:List Value,Vals xs its∧IsTup s.heap a its.toArray∧xs.length≤sizeLine:=by
 rcases h with h | ⟨o,its,n,hk,hc,hs,hz,r⟩
 ·obtain⟨z,its,r,p⟩:=h.ok I.hok
  exact⟨its,r,p,z⟩
 ·refine⟨its.toList,r,⟨o,I.NT a o hk,hc,n,by simpa using hs⟩,?_⟩
  have e:=r.length
  simp only[Array.length_toList] at e
  omega
theorem Inv.Ul (I:Inv X pins σ H s)(h:BP X.K H a xs)(h':BP X.K H a ys):xs=ys:=by
 obtain⟨its,r,⟨o,n,e,_,_,d⟩,_⟩:=I.list h
 obtain⟨its',r',⟨o',n',e',_,_,d'⟩,_⟩:=I.list h'
 rw[e] at e';cases e'
 rw[d] at d'
 injection d' with d1 _
 have:its=its':=by simpa using congrArg Array.toList d1
 subst this
 exact r.inj r'
theorem Inv.ADS (I:Inv X pins σ H s)(h:Ds X.K H a xs)(h':Ds X.K H a ys):xs=ys:=by
 obtain⟨its,r,⟨o,e,_,n,d⟩,_⟩:=I.tuple h
 obtain⟨its',r',⟨o',e',_,n',d'⟩,_⟩:=I.tuple h'
 rw[e] at e';cases e'
 rw[d] at d'
 injection d' with d1 _
 have:its=its':=by simpa using congrArg Array.toList d1
 subst this
 exact r.inj r'
end
noncomputable abbrev Cx.Ij (X:Cx)(E:Value→Shared→Prop):Cx:={ X with xe:=E }
noncomputable abbrev Cx.Jr (X:Cx):Cx:=X.Ij fun _ _=>False
theorem Cx.Ok.Ij {X:Cx}(ok:X.Ok)(E:Value→Shared→Prop):(X.Ij E).Ok :=
 ⟨ok.mod,ok.kind,ok.glob,ok.blt,ok.above,ok.inj,ok.has,ok.cab,ok.hd,ok.frames,ok.stk,ok.exf,ok.bs,ok.bsz,ok.noex,ok.exfs,ok.Hh,ok.frf⟩
theorem Cx.Ok.Ke {X:Cx}{E:Value→Shared→Prop}(ok:(X.Ij E).Ok):X.Ok :=
 ⟨ok.mod,ok.kind,ok.glob,ok.blt,ok.above,ok.inj,ok.has,ok.cab,ok.hd,ok.frames,ok.stk,ok.exf,ok.bs,ok.bsz,ok.noex,ok.exfs,ok.Hh,ok.frf⟩
section
variable {X:Cx}{pins:List (Addr×Obj)}{σ:St}{H:Hp}{s:Shared}{E:Value→Shared→Prop}
theorem Inv.Ij (I:Inv X pins σ H s)(E:Value→Shared→Prop):Inv (X.Ij E) pins σ H s:=⟨I.ok.Ij E,I.os,I.bare,I.base,I.loc,I.cell,I.free,I.freeC,I.pin,I.hok,I.len⟩
theorem Inv.Ke (I:Inv (X.Ij E) pins σ H s):Inv X pins σ H s:=⟨I.ok.Ke,I.os,I.bare,I.base,I.loc,I.cell,I.free,I.freeC,I.pin,I.hok,I.len⟩
theorem SP.Ke {D:Ends}{f:Flow}{s':Shared}(h:SP (X.Ij E) pins D f s'):SP X pins D f s':=by
 cases f with
 | next=>obtain⟨σ',H',I,q⟩:=h;exact⟨σ',H',I.Ke,q⟩
 | brk=>obtain⟨σ',H',I,q⟩:=h;exact⟨σ',H',I.Ke,q⟩
 | cont=>obtain⟨σ',H',I,q⟩:=h;exact⟨σ',H',I.Ke,q⟩
 | ret u=>obtain⟨v,σ',H',I,r,q⟩:=h;exact⟨v,σ',H',I.Ke,r,q⟩
theorem Gh.Jr {st:List Stmt}{t:TS}(h:Gh X.Jr st t):Gh X st t:=fun pins s σ H D I hw =>
 wpAny_mono (h pins s σ H D (I.Ij _) hw) (fun _ _ q=>q.Ke) fun _ _ z=>False.elim z
end
section
variable {X:Cx}{st:Stmt}{rest:List Stmt}{t u:TS}{e:Expr}{te:TE}{pos:Pos}
noncomputable def lF:TS:=fun D σ H=>D.nx σ H
noncomputable def ZP (t u:TS):TS:=fun D σ H=>t { D with nx:=u D } σ H
theorem zJ:Gh X [] lF:=fun _ _ σ H _ I h=>wpAny_execs_nil ⟨σ,H,I,h⟩
theorem uY (h1:PS X st t)(h2:Gh X rest u):Gh X (st::rest) (ZP t u):=by
 intro pins s σ H D I h
 refine wpAny_execs_cons (BL (h1 pins s σ H { D with nx:=u D } I h) fun f s1 q=>?_)
 cases f with
 | next =>
  obtain⟨σ',H',I',q⟩:=q
  exact h2 pins s1 σ' H' D I' q
 | ret v=>exact q
 | brk=>exact q
 | cont=>exact q
theorem AJw (h1:PS X st t):Gh X [st] t:=by
 intro pins s σ H D I h
 refine wpAny_execs_cons (BL (h1 pins s σ H D I h) fun f s1 q=>?_)
 cases f with
 | next=>exact wpAny_execs_nil q
 | ret v=>exact q
 | brk=>exact q
 | cont=>exact q
theorem Inv.quiet {pins:List (Addr×Obj)}{σ:St}{H:Hp}{s:Shared}(I:Inv X pins σ H s):interactive X.env=false:=by simp [interactive,I.ok.kind]
noncomputable def LC (te:TE):TS:=fun D σ H=>te σ H fun _ H1=>D.nx σ H1
theorem S6 (he:PE X e te)(hs:swapsWith e none pos.line X.env=pure false:=by rfl):PS X (.Expr e pos) (LC te):=by
 intro pins s σ H D I h
 exact wpAny_Expr_any (BL (he pins s σ H _ I h) fun v s1 ⟨x,H1,I1,r1,q1⟩=>⟨σ,H1,I1,q1⟩) I.quiet hs
noncomputable def Ib (te:TE):TS:=fun D σ H=>te σ H D.rt
theorem M6 (he:PE X e te):PS X (.Return (some e) pos) (Ib te):=by
 intro pins s σ H D I h
 exact wpAny_Return_some (BL (he pins s σ H _ I h) fun v s1 ⟨x,H1,I1,r1,q1⟩=>⟨x,σ,H1,I1,r1,q1⟩)
noncomputable def PJ (c:TT)(t u:TS):TS:=fun D σ H=>c σ H fun b H1=>if b=true then t D σ H1 else u D σ H1
theorem Yw {c:Expr}{a b:List Stmt}{tc:TT}(hc:PT X c tc)(ha:Gh X a t)(hb:Gh X b u):PS X (.If c a b pos) (PJ tc t u):=by
 intro pins s σ H D I h
 refine wpAny_If (BL (hc pins s σ H _ I h) fun d s1 ⟨H1,I1,q1⟩=>?_)
 cases d with
 | true=>exact ha pins s1 σ H1 D I1 q1
 | false=>exact hb pins s1 σ H1 D I1 q1
noncomputable def jK:TS:=fun _ _ _=>False
theorem AEu:PS X st jK:=fun _ _ _ _ _ _ h=>h.elim
end
noncomputable abbrev TG:=V→St→Hp→(St→Hp→Prop)→Prop
noncomputable abbrev Ln:=List V→St→Hp→(St→Hp→Prop)→Prop
noncomputable def PG (X:Cx)(target:Expr)(t:TG):Prop :=
 ∀ (pins:List (Addr×Obj)) (s:Shared) (σ:St) (H:Hp) (v:V) (u:Value) (Q:St→Hp→Prop),Inv X pins σ H s→RelV v u→t v σ H Q →
  wpAny (model X.prog X.w) X.A (assign target X.env u) (fun _ s'=>∃ σ' H',Inv X pins σ' H' s'∧Q σ' H') X.xe s
noncomputable def Uw (X:Cx)(ts:List Expr)(t:Ln):Prop :=
 ∀ (pins:List (Addr×Obj)) (s:Shared) (σ:St) (H:Hp) (vs:List V) (us:List Value) (Q:St→Hp→Prop),Inv X pins σ H s→Vals vs us→t vs σ H Q →
  wpAny (model X.prog X.w) X.A (assignInOrder ((assignEach ts X.env).map (·.2)) us) (fun _ s'=>∃ σ' H',Inv X pins σ' H' s'∧Q σ' H') X.xe s
noncomputable abbrev Zi:=V→V→V→Hp→(Hp→Prop)→Prop
noncomputable def tK (X:Cx)(t:Zi):Prop :=
 ∀ (pins:List (Addr×Obj)) (s:Shared) (σ:St) (H:Hp) (o i v:V) (ov iv u:Value) (Q:Hp→Prop),Inv X pins σ H s→RelV o ov→RelV i iv→RelV v u→t o i v H Q →
  wpAny (model X.prog X.w) X.A (setItem ov iv u) (fun _ s'=>∃ H',Inv X pins σ H' s'∧Q H') X.xe s
section
variable {X:Cx}{pos:Pos}
noncomputable def Df (i:Nat):TG:=fun v σ H Q=>Q (σ.set i (some v)) H
theorem Iu {i:Nat}{x:Str}(hN:X.N.Nodup)(hi:X.N[i]?=some x)(hx:Loc X.env.scope x)(hf:X.fn x=true∨X.env.scope.names.lookup x=some .local:=by first | exact .inl rfl | exact .inr rfl | assumption):PG X (.Name x pos) (Df i):=by
 intro pins s σ H v u Q I r h
 exact wpAny_assign_Name (tD I hN hi hx r (fun s' I'=>⟨_,H,I',h⟩) hf)
noncomputable def QR:Ln:=fun vs σ H Q=>vs=[]∧Q σ H
noncomputable def Iv (t:TG)(u:Ln):Ln:=fun vs σ H Q=>∃ v r,vs=v::r∧t v σ H fun σ' H'=>u r σ' H' Q
theorem X6:Uw X [] QR:=by
 intro pins s σ H vs us Q I r h
 obtain⟨e,h⟩:=h
 subst e
 cases r
 exact assignInOrder_nil ⟨σ,H,I,h⟩
theorem Lf {e:Expr}{es:List Expr}{t:TG}{u:Ln}(h1:PG X e t)(h2:Uw X es u)(hs:(assignEach (e::es) X.env).map (·.2)=assign e X.env::(assignEach es X.env).map (·.2):=by rfl):Uw X (e::es) (Iv t u):=by
 intro pins s σ H vs us Q I r h
 obtain⟨v,vr,e1,h⟩:=h
 subst e1
 cases r with
 | cons r rr =>
  rw[hs]
  refine assignInOrder_cons (BL (h1 pins s σ H _ _ _ I r h) fun _ s1 ⟨σ1,H1,I1,q1⟩=>?_)
  exact h2 pins s1 σ1 H1 _ _ Q I1 rr q1
noncomputable def Qe (K:Frag)(n:Nat)(t:Ln):TG:=fun v σ H Q=>∃ a xs,v=.ref a∧Ds K H a xs∧xs.length=n∧t xs σ H Q
theorem aG {es:List Expr}{k:Nat}{t:Ln}{n:Nat}(hc:X.calm=true)(h:Uw X es t)(hn:(assignEach es X.env).length=n:=by rfl)(hst:(assignEach es X.env).findIdx? (·.1)=none:=by rfl):PG X (.Tuple es k pos) (Qe X.K n t):=by
 intro pins s σ H v u Q I r hw
 obtain⟨a,xs,e1,hq,hl,hw⟩:=hw
 subst e1
 cases r
 obtain⟨its,rv,ht,hz⟩:=I.tuple hq
 refine assign_Tuple_tuple (I.ok.hd hc) ht (by simp [hn,← hl,rv.length]) hst fun h' hx=>?_
 have I1:Inv X pins σ H { s with heap:=h' }:=I.kept (t':=s.toks) fun b o e=>hx b o (Nat.ne_of_lt (Heap.lt_size e)) e
 exact h pins _ σ H xs _ Q I1 (by simpa using rv) hw
noncomputable def JC (to ti:TE)(t:Zi):TG:=fun v σ H Q=>to σ H fun o H1=>ti σ H1 fun i H2=>t o i v H2 fun H3=>Q σ H3
theorem Sd {o i:Expr}{to ti:TE}{t:Zi}(ho:PE X o to)(hi:PE X i ti)(hs:tK X t) (ha:∀ v,assign (.Subscript o i pos) X.env v=(do
   let ov ← holding [v] (eval o X.env)
   let iv ← holding [v,ov] (eval i X.env)
   standAt pos
   holding [v,ov,iv] (setItem ov iv v)
   release [v,ov,iv] []):=by intro _;rfl):PG X (.Subscript o i pos) (JC to ti t):=by
 intro pins s σ H v u Q I r h
 rw[ha]
 refine wpAny_bind (wpAny_holding (BL (ho pins s σ H _ I h) fun ov s1 ⟨x,H1,I1,r1,q1⟩=>?_))
 refine wpAny_bind (wpAny_holding (BL (hi pins s1 σ H1 _ I1 q1) fun iv s2 ⟨y,H2,I2,r2,q2⟩=>?_))
 refine wpAny_bind (wpAny_standAt (wpAny_bind (wpAny_holding (BL (hs pins s2 σ H2 x y v ov iv u _ I2 r1 r2 r q2) fun _ s3 ⟨H3,I3,q3⟩=>?_))))
 exact wpAny_release ⟨σ,H3,I3,q3⟩
noncomputable def Dq (te:TE)(g:TG):TS:=fun D σ H=>te σ H fun x H1=>g x σ H1 D.nx
theorem O5 {tg e:Expr}{te:TE}{g:TG}(he:PE X e te)(hg:PG X tg g)(hs:swapsWithSole [tg] e pos.line X.env=pure false:=by rfl)(hw:swappedStores [tg] e X.env=pure none:=by rfl)
  (h1:(assignEach [tg] X.env).map (·.2)=[assign tg X.env]:=by rfl):PS X (.Assign [tg] e pos) (Dq te g):=by
 intro pins s σ H D I h
 refine wpAny_Assign_stores (BL (he pins s σ H _ I h) fun v s1 ⟨x,H1,I1,r1,q1⟩=>?_) hs hw
 rw[h1]
 exact BL (hg pins s1 σ H1 x v _ I1 r1 q1) fun _ s2 q=>q
theorem Jl {i:Nat}{x:Str}{e:Expr}{te:TE}{pos':Pos}(hN:X.N.Nodup)(hi:X.N[i]?=some x)(hx:Loc X.env.scope x)(he:PE X e te)(hs:swapsWith e (some (.Name x pos')) pos.line X.env=pure false:=by rfl)(hf:X.fn x=true∨X.env.scope.names.lookup x=some .local:=by first | exact .inl rfl | exact .inr rfl | assumption) :
  PS X (.Assign [.Name x pos'] e pos) (Dq te (Df i)):=by
 intro pins s σ H D I h
 refine wpAny_Assign_Name (BL (he pins s σ H _ I h) fun v s1 ⟨y,H1,I1,r1,q1⟩=>?_) hs
 exact tD I1 hN hi hx r1 (fun s2 I2=>⟨_,H1,I2,q1⟩) hf
end
section
variable {X:Cx}{pos:Pos}
noncomputable def WD (c:TT)(tb:TS):TS:=fun D σ H=>∃ W:Nat→St→Hp→Prop,(∃ m,W m σ H)∧∀ m σ H,W m σ H →
 c σ H fun b H1=>if b=true then ∃ N:St→Hp→Prop,(∀ σ' H',N σ' H'→∃ m',m'<m∧W m' σ' H')∧tb { D with nx:=N,ct:=N,bk:=D.nx } σ H1 else D.nx σ H1
theorem AHd {c:Expr}{body:List Stmt}{tc:TT}{tb:TS}(hp:PassesOwn (model X.prog X.w) X.A X.env X.xe)(hc:PT X c tc)(hb:Gh X body tb):PS X (.While c body [] pos) (WD tc tb):=by
 intro pins s σ H D I h
 obtain⟨W,⟨m0,w0⟩,turn⟩:=h
 refine wpAny_While (codeAny_whileLoop (fun n s'=>∃ σ' H',Inv X pins σ' H' s'∧W n σ' H') ?_ m0 ⟨σ,H,I,w0⟩)
 rintro n s1 ⟨σ1,H1,I1,w1⟩
 refine wpAny_passesOwn hp (BL (hc pins s1 σ1 H1 _ I1 (turn n σ1 H1 w1)) fun b s2 ⟨H2,I2,q2⟩=>?_)
 cases b with
 | true =>
  obtain⟨N,hN,q2⟩:=q2
  rw[if_pos rfl]
  refine wpAny_passesOwn hp (BL (hb pins s2 σ1 H2 _ I2 q2) fun f s3 q3=>?_)
  cases f with
  | next =>
   obtain⟨σ3,H3,I3,n3⟩:=q3
   obtain⟨m',hm,w3⟩:=hN σ3 H3 n3
   exact⟨m',hm,σ3,H3,I3,w3⟩
  | cont =>
   obtain⟨σ3,H3,I3,n3⟩:=q3
   obtain⟨m',hm,w3⟩:=hN σ3 H3 n3
   exact⟨m',hm,σ3,H3,I3,w3⟩
  | brk=>exact q3
  | ret v=>exact q3
 | false =>
  rw[if_neg Bool.false_ne_true]
  exact wpAny_execs_nil ⟨σ1,H2,I2,q2⟩
end
structure It where
 go:Nat→Hp→Prop
 yld:Nat→Hp→V→Hp→Prop
 stop:Nat→Hp→Prop
noncomputable def Ga (X:Cx)(pins:List (Addr×Obj))(H:Hp)(b:Addr):Prop :=
 H b=none∧b≠X.env.locals∧b ∉ X.fs∧(b∈X.ex∨X.s₀.heap.objs.size≤b)∧(∀ x c,X.env.cells.lookup x=some c→c≠b)∧∀ p∈X.pn++pins,p.1≠b
theorem Inv.Ny {X:Cx}{pins:List (Addr×Obj)}{σ:St}{H H':Hp}{s:Shared}{b:Addr}(I:Inv X pins σ H s)(hb:s.heap.objs.size≤b)(hn:H' b=none):Ga X pins H' b:=by
 refine⟨hn,Nat.ne_of_gt (Nat.lt_of_lt_of_le I.lt hb),I.lQ hb,.inr (Nat.le_trans I.sz hb),fun x c e z=>?_,fun p hp z=>?_⟩
 ·obtain⟨v,q⟩:=I.cell x c e
  exact absurd (Nat.lt_of_lt_of_le q.lt (by rw[z];exact hb)) (Nat.lt_irrefl _)
 ·exact absurd (Nat.lt_of_lt_of_le (Heap.lt_size (I.pin p hp).1) (by rw[z];exact hb)) (Nat.lt_irrefl _)
structure Turn (P:Program)(w:World)(K:Frag)(tg:Expr)(J:It)(fp:List Addr)(it:Addr)(tn:Nat→Heap→Prop):Prop where
 mem:it∈fp
 obj:∀ i h,tn i h→∀ b∈fp,∃ o,h.get? b=some o∧∀ v,o.data≠.cell v
 keep:∀ i h h',tn i h→(∀ b∈fp,∀ o,h.get? b=some o→h'.get? b=some o)→tn i h'
 item:∀ (X:Cx),X.prog=P→X.w=w→X.K=K→X.calm=true→∀ (i:Nat) (pins:List (Addr×Obj)) (s:Shared) (σ:St) (H:Hp) (E:Value→Shared→Prop),Inv X pins σ H s→(∀ b∈fp,Ga X pins H b)→tn i s.heap→J.go i H →
  wpAny (model P w) X.A (pyNext (.ref it)) (fun r s1=>∃ u,r=some u ∧
   wpAny (model P w) X.A (letOwnedTupleGo tg (.ref it) u) (fun _ s2=>∃ x H',Inv X pins σ H' s2∧RelV x u∧J.yld i H x H'∧tn (i+1) s2.heap∧∀ b∈fp,H' b=none) E s1) E s
 done:∀ (X:Cx),X.prog=P→X.w=w→X.K=K→X.calm=true→∀ (i:Nat) (pins:List (Addr×Obj)) (s:Shared) (σ:St) (H:Hp) (E:Value→Shared→Prop),Inv X pins σ H s→(∀ b∈fp,Ga X pins H b)→tn i s.heap→J.stop i H →
  wpAny (model P w) X.A (pyNext (.ref it)) (fun r s1=>r=none∧Inv X pins σ H s1) E s
 self:∀ (A:Around) (i:Nat) (s:Shared) (Q:Value→Shared→Prop) (E:Value→Shared→Prop),tn i s.heap→Q (.ref it) s→wpAny (model P w) A (pyIter (.ref it)) Q E s
noncomputable abbrev TI:=St→Hp→(It→Hp→Prop)→Prop
noncomputable def cB (X:Cx)(pins:List (Addr×Obj))(σ:St)(tg:Expr)(R:It→Hp→Prop)(itv:Value)(s2:Shared):Prop :=
 ∃ (it:Addr) (fp:List Addr) (tn:Nat→Heap→Prop) (J:It) (H':Hp),itv=.ref it∧Inv X pins σ H' s2∧Turn X.prog X.w X.K tg J fp it tn∧tn 0 s2.heap∧(∀ b∈fp,Ga X pins H' b)∧R J H'
noncomputable def PI (X:Cx)(tg iter:Expr)(wi:TI):Prop :=
 ∀ (pins:List (Addr×Obj)) (s:Shared) (σ:St) (H:Hp) (R:It→Hp→Prop),Inv X pins σ H s→wi σ H R →
  wpAny (model X.prog X.w) X.A (eval iter X.env) (fun v s1=>wpAny (model X.prog X.w) X.A (pyIter v) (cB X pins σ tg R) X.xe s1) X.xe s
theorem Y7 {M:Model}{A:Around}{E:Value→Shared→Prop}{s:Shared}{tg:Expr}{it:Addr}{u:Value}{o:Obj}{n:String}{vs:Array Value}{Q:Unit→Shared→Prop}(ho:s.heap.get? it=some o)(hc:o.cls=.type n)(hd:o.data=.fields vs)(hn:["enumerate","zip","dict_itemiterator","dict_reverseitemiterator","odict_iterator","itertools.zip_longest","itertools.pairwise"].contains n=false)(hQ:Q () s):wpAny M A (letOwnedTupleGo tg (.ref it) u) Q E s:=by
 unfold letOwnedTupleGo
 cases tg<;>first
  | exact wpAny_pure hQ
  | (cases u<;>first
    | exact wpAny_pure hQ
    | (refine wpAny_bind (wpAny_load ho ?_)
       rw[hc,hd]
       show wpAny M A (if (["enumerate","zip","dict_itemiterator","dict_reverseitemiterator","odict_iterator","itertools.zip_longest","itertools.pairwise"].contains n && vs[0]? == some (rawInt _))=true then _ else _) Q E s
       rw[if_neg (by intro h;rw[hn,Bool.false_and] at h;cases h)]
       exact wpAny_pure hQ))
noncomputable def V4 (K:Frag)(a:Addr):It :=
 ⟨fun i H=>∃ xs x,BP K H a xs∧xs[i]?=some x,fun i H x H'=>H'=H∧∀ xs,BP K H a xs→xs[i]?=some x,fun i H=>∃ xs,BP K H a xs∧xs.length≤i⟩
noncomputable def Pj (lo:Int)(n:Nat):It:=⟨fun i _=>i<n,fun i H x H'=>H'=H∧x=.int (lo+i),fun i _=>n≤i⟩
theorem AHW {P:Program}{w:World}{K:Frag}{tg:Expr}(a it:Addr):Turn P w K tg (V4 K a) [it] it (fun i h=>h.IsListIter it a i) where
 mem:=by simp
 obj:=fun i h st b hb=>by
  have e:b=it:=by simpa using hb
  subst e
  obtain⟨o,e,c,d⟩:=st
  exact⟨o,e,fun v z=>by rw[d] at z;cases z⟩
 keep:=fun i h h' st k=>st.at fun o e=>k it (by simp) o e
 item:=by
  intro X hP hw hK hc i pins s σ H E I hf st hg
  subst hP hw hK
  obtain⟨xs,x,hq,hx⟩:=hg
  obtain⟨its,rv,p,hz⟩:=I.list hq
  obtain⟨u,hu,ru⟩:=rv.get hx
  obtain⟨f0,f1,f2,f3,f4,f5⟩:=hf it (by simp)
  refine wpAny_pyNext_list_item st p.isList (x:=u) (by simpa using hu) fun h' st' sb=>?_
  have I1:Inv X pins σ H { s with heap:=h' }:=I.turned (t':=s.toks) (fun b o hb e=>(sb.2 b hb).trans e) f0 f1 f3 f4 f5
  obtain⟨o,e,c,d⟩:=id st'
  exact⟨u,rfl,Y7 (s:={ s with heap:=h' }) e c d (by decide) ⟨x,H,I1,ru,⟨rfl,fun ys hy=>by rw[I.Ul hy hq];exact hx⟩,st',fun b hb=>(hf b hb).1⟩⟩
 done:=by
  intro X hP hw hK hc i pins s σ H E I hf st hg
  subst hP hw hK
  obtain⟨xs,hq,hx⟩:=hg
  obtain⟨its,rv,p,hz⟩:=I.list hq
  obtain⟨f0,f1,f2,f3,f4,f5⟩:=hf it (by simp)
  have hl:=rv.length
  exact wpAny_pyNext_list_end (I.ok.hd hc) st p.isList (by simp;omega) fun h' eb=>⟨rfl,I.turned (t':=s.toks) (fun b o hb e=>eb b o hb e) f0 f1 f3 f4 f5⟩
 self:=fun _ _ _ _ _ st h=>wpAny_pyIter_listiter st h
theorem ACH {P:Program}{w:World}{K:Frag}{tg:Expr}(it:Addr)(lo:Int)(n:Nat):Turn P w K tg (Pj lo n) [it] it (fun i h=>IsRangeIter h it (lo+(i:Nat)*1) ((n:Int)-(i:Nat)) 1) where
 mem:=by simp
 obj:=fun i h st b hb=>by
  have e:b=it:=by simpa using hb
  subst e
  exact⟨_,st,fun v z=>by
   have z':Data.fields _=Data.cell v:=z
   cases z'⟩
 keep:=fun i h h' st k=>k it (by simp) _ st
 item:=by
  intro X hP hw hK hc i pins s σ H E I hf st hg
  subst hP hw hK
  obtain⟨f0,f1,f2,f3,f4,f5⟩:=hf it (by simp)
  have W:=Walks.range (prog:=X.prog) (w:=X.w) (I.ok.hd hc) it lo 1 n
  refine W.item i s _ _ hg st fun v h' tk hv st' kk=>?_
  obtain⟨t,rfl⟩:=hv
  have I1:Inv X pins σ H { s with heap:=h',toks:=tk }:=I.turned (fun b o hb e=>kk b o (by simpa using hb) e) f0 f1 f3 f4 f5
  refine⟨_,rfl,Y7 (s:={ s with heap:=h',toks:=tk }) (n:="range_iterator") st' rfl rfl (by decide) ⟨.int (lo+i),H,I1,⟨t,?_⟩,⟨rfl,rfl⟩,st',fun b hb=>(hf b hb).1⟩⟩
  rw[Int.mul_one]
 done:=by
  intro X hP hw hK hc i pins s σ H E I hf st hg
  subst hP hw hK
  obtain⟨f0,f1,f2,f3,f4,f5⟩:=hf it (by simp)
  exact wpAny_pyNext_range_end (I.ok.hd hc) st (by have:n≤i:=hg;omega) fun h' eb=>⟨rfl,I.turned (t':=s.toks) (fun b o hb e=>eb b o hb e) f0 f1 f3 f4 f5⟩
 self:=fun _ _ _ _ _ st h=>wpAny_pyIter_rangeiter st h
section
variable {X:Cx}{tg:Expr}
noncomputable def jP (K:Frag)(tl:TE):TI:=fun σ H R=>tl σ H fun x H1=>∃ a,x=.ref a∧(∃ xs,BP K H1 a xs)∧R (V4 K a) H1
theorem yZ {l:Expr}{tl:TE}(hl:PE X l tl):PI X tg l (jP X.K tl):=by
 intro pins s σ H R I h
 refine BL (hl pins s σ H _ I h) fun v s1 ⟨x,H1,I1,r1,q1⟩=>?_
 obtain⟨a,e,⟨xs,hq⟩,q⟩:=q1
 subst e
 cases r1
 obtain⟨its,rv,p,hz⟩:=I1.list hq
 refine wpAny_pyIter_list p.isList ?_
 refine⟨s1.heap.objs.size,[s1.heap.objs.size],_,_,H1,rfl,I1.kept (t':=s1.toks) fun b o e=>Heap.get?_push_of_some _ e,AHW a _,⟨_,Heap.get?_push_size _ rfl,rfl,rfl⟩,fun b hb=>?_,q⟩
 have e:b=s1.heap.objs.size:=by simpa using hb
 subst e
 exact I1.Ny (Nat.le_refl _) (I1.hok.fresh (Nat.le_refl _))
theorem nD {pins:List (Addr×Obj)}{σ:St}{H:Hp}{s:Shared}{R:It→Hp→Prop}{E:Value→Shared→Prop}{lo hi:Int}{t u v:Tok}{tk:Nat}(I:Inv X pins σ H s)(h1:-(2 ^ 62)≤lo)(h2:lo<2 ^ 62)(h3:-(2 ^ 62)≤hi)(h4:hi<2 ^ 62)(q:R (Pj lo (hi-lo).toNat) H):wpAny (model X.prog X.w) X.A (pyIter (.ref s.heap.objs.size)) (cB X pins σ tg R) E { s with heap:=s.heap.push { cls:=.type "range",data:=.fields #[.int lo t,.int hi u,.int 1 v] },toks:=tk }:=by
 refine wpAny_pyIter_range (IsRange.new ..) (small_one h1 h2 h3 h4) ?_
 have I1:Inv X pins σ H { s with heap:=s.heap.push { cls:=.type "range",data:=.fields #[.int lo t,.int hi u,.int 1 v] },toks:=tk }:=I.kept fun b o e=>Heap.get?_push_of_some _ e
 refine⟨(s.heap.push { cls:=.type "range",data:=.fields #[.int lo t,.int hi u,.int 1 v] }).objs.size,[(s.heap.push { cls:=.type "range",data:=.fields #[.int lo t,.int hi u,.int 1 v] }).objs.size],_,_,H,rfl,
  I1.kept (t':=tk) fun b o e=>Heap.get?_push_of_some _ e,ACH _ lo (hi-lo).toNat,?_,fun b hb=>?_,q⟩
 ·have e1:lo+((0:Nat):Int)*1=lo:=by simp
  have e2:(((hi-lo).toNat:Nat):Int)-((0:Nat):Int)=Builtin.Range.rangeSize lo hi 1:=by rw[rangeSize_one];split<;>omega
  show IsRangeIter _ _ (lo+((0:Nat):Int)*1) ((((hi-lo).toNat:Nat):Int)-((0:Nat):Int)) 1
  rw[e1,e2]
  exact Heap.get?_push_size _ rfl
 ·have e:b=(s.heap.push { cls:=.type "range",data:=.fields #[.int lo t,.int hi u,.int 1 v] }).objs.size:=by simpa using hb
  subst e
  exact I1.Ny (Nat.le_refl _) (I1.hok.fresh (Nat.le_refl _))
noncomputable def Xo (ta:TA):TI:=fun σ H R=>ta σ H fun vs H1=>∃ j:Int,vs=[.int j]∧-(2 ^ 62)≤j∧j<2 ^ 62∧R (Pj 0 j.toNat) H1
noncomputable def j7 (ta:TA):TI:=fun σ H R=>ta σ H fun vs H1=>∃ i j:Int,vs=[.int i,.int j]∧(-(2 ^ 62)≤i∧i<2 ^ 62∧-(2 ^ 62)≤j∧j<2 ^ 62)∧R (Pj i (j-i).toNat) H1
theorem cI {a:Expr}{ta:TA}{p pos:Pos}(hg:Gl X "range")(hm:X.mg "range"=none)(ha:PA X [a] ta)(hs:starEach [a] X.env=[(false,eval a X.env)]:=by rfl):PI X tg (.Call (.Name "range" p) [a] [] pos) (Xo ta):=by
 intro pins s σ H R I h
 refine Call_ (KH I hg hm boot_range (PyProof.Rows.callWith_type1 (BL (ha pos pins s σ H _ I h) fun us s1 ⟨vs,H1,I1,r1,q1⟩=>?_) hs rfl))
 obtain⟨j,e,q1,q2,q⟩:=q1
 subst e
 cases r1 with
 | cons r rr =>
  cases rr
  obtain⟨t,rfl⟩:=r
  exact call_range_1 (nD I1 (by omega) (by omega) q1 q2 (by simpa using q))
theorem yE {a b:Expr}{ta:TA}{p pos:Pos}(hg:Gl X "range")(hm:X.mg "range"=none)(ha:PA X [a,b] ta)(hs:starEach [a,b] X.env=[(false,eval a X.env),(false,eval b X.env)]:=by rfl)(hs2:starEach [b] X.env=[(false,eval b X.env)]:=by rfl) :
  PI X tg (.Call (.Name "range" p) [a,b] [] pos) (j7 ta):=by
 intro pins s σ H R I h
 refine Call_ (KH I hg hm boot_range (PyProof.Rows.callWith_type1 (BL (ha pos pins s σ H _ I h) fun us s1 ⟨vs,H1,I1,r1,q1⟩=>?_) (by rw[hs,hs2]) (by rw[hs2];rfl)))
 obtain⟨i,j,e,⟨q1,q2,q3,q4⟩,q⟩:=q1
 subst e
 cases r1 with
 | cons r rr =>
  cases rr with
  | cons r' rr =>
   cases rr
   obtain⟨t,rfl⟩:=r
   obtain⟨t',rfl⟩:=r'
   exact call_range_2 (nD I1 q1 q2 q3 q4 q)
noncomputable def VJ (wi:TI)(g:TG)(tb:TS):TS:=fun D σ H=>wi σ H fun J H1=>∃ W:Nat→Nat→St→Hp→Prop,(∃ m,W 0 m σ H1)∧∀ i m σ H,W i m σ H →
 (J.stop i H∧D.nx σ H)∨(J.go i H∧∃ N:St→Hp→Prop,(∀ σ' H',N σ' H'→∃ m',m'<m∧W (i+1) m' σ' H')∧∀ x H',J.yld i H x H'→g x σ H' fun σ2 H2=>tb { D with nx:=N,ct:=N,bk:=D.nx } σ2 H2)
noncomputable def Ql (fp:List Addr)(h:Heap):List (Addr×Obj):=fp.filterMap fun b=>(h.get? b).map fun o=>(b,o)
theorem Uq {fp:List Addr}{h:Heap}{b:Addr}{o:Obj}(hb:b∈fp)(e:h.get? b=some o):(b,o)∈Ql fp h:=List.mem_filterMap.mpr ⟨b,hb,by rw[e];rfl⟩
theorem AGJ {fp:List Addr}{h:Heap}{p:Addr×Obj}(hp:p∈Ql fp h):p.1∈fp∧h.get? p.1=some p.2:=by
 obtain⟨b,hb,e⟩:=List.mem_filterMap.mp hp
 cases q:h.get? b with
 | none=>rw[q] at e;cases e
 | some o =>
  rw[q] at e
  have e':(b,o)=p:=Option.some.inj e
  subst e'
  exact⟨hb,q⟩
theorem Inv.pinned {pins:List (Addr×Obj)}{σ:St}{H:Hp}{s:Shared}{fp:List Addr}(I:Inv X pins σ H s)(hf:∀ b∈fp,Ga X pins H b)(ho:∀ b∈fp,∃ o,s.heap.get? b=some o∧∀ v,o.data≠.cell v):Inv X (pins++Ql fp s.heap) σ H s :=
 I.YW fun p hp=>(List.mem_append.mp hp).elim (fun z=>I.pin p (Bc z)) fun z=>by
  obtain⟨hb,e⟩:=AGJ z
  obtain⟨f0,f1,f2,_⟩:=hf p.1 hb
  obtain⟨o,e',d⟩:=ho p.1 hb
  rw[e] at e';cases e'
  exact⟨e,f0,f1,f2,d⟩
theorem Inv.Px {pins pl:List (Addr×Obj)}{σ:St}{H:Hp}{s:Shared}(I:Inv X (pins++pl) σ H s):Inv X pins σ H s:=I.YW fun p hp=>I.pin p (Bc (Cw hp))
theorem vH {iter:Expr}{body:List Stmt}{wi:TI}{g:TG}{tb:TS}{pos:Pos}(hp:PassesOwn (model X.prog X.w) X.A X.env X.xe)(hc:X.calm=true)(hi:PI X tg iter wi)(hg:PG X tg g)(hb:Gh X body tb)(hs:∀ x,foldedSetIterable iter X.env x=pure x:=by intro _;rfl):PS X (.For tg iter body [] pos) (VJ wi g tb):=by
 intro pins s σ H D I h
 refine wpAny_For (BL (hi pins s σ H _ I h) fun v s1 h1=>BL h1 fun itv s2 h2=>?_) hs
 obtain⟨it,fp,tn,J,H2,e,I2,T,st2,f2,W,⟨m0,w0⟩,turn⟩:=h2
 subst e
 have stat:∀ {H':Hp},(∀ b∈fp,H' b=none)→∀ b∈fp,Ga X pins H' b:=fun hn b hb=>⟨hn b hb,(f2 b hb).2⟩
 refine codeAny_forLoop_any (fun n s'=>∃ i σ' H',Inv X pins σ' H' s'∧tn i s'.heap∧(∀ b∈fp,H' b=none)∧W i n σ' H') ?_ m0 ⟨0,σ,H2,I2,st2,fun b hb=>(f2 b hb).1,w0⟩
 rintro n s3 ⟨i,σ3,H3,I3,st3,fr3,w3⟩
 rcases turn i n σ3 H3 w3 with⟨stop,qn⟩ | ⟨go,N,hN,step⟩
 ·refine wpAny_passesOwn hp (BL (T.done X rfl rfl rfl hc i pins s3 σ3 H3 X.xe I3 (stat fr3) st3 stop) fun r s4 ⟨hr,I4⟩=>?_)
  subst hr
  exact wpAny_execs_nil ⟨σ3,H3,I4,qn⟩
 ·refine wpAny_passesOwn hp (BL (T.item X rfl rfl rfl hc i pins s3 σ3 H3 X.xe I3 (stat fr3) st3 go) fun r s4 ⟨u,hr,h4⟩=>?_)
  subst hr
  refine wpAny_passesOwn hp (BL h4 fun _ s5 ⟨x,H5,I5,r5,y5,st5,fr5⟩=>?_)
  have I5':=I5.pinned (stat fr5) (T.obj _ _ st5)
  refine wpAny_passesOwn hp (BL (hg _ s5 σ3 H5 x u _ I5' r5 (step x H5 y5)) fun _ s6 ⟨σ6,H6,I6,q6⟩=>?_)
  refine wpAny_passesOwn hp (BL (hb _ s6 σ6 H6 _ I6 q6) fun f s7 q7=>?_)
  have again:∀ {σ7:St}{H7:Hp},Inv X (pins++Ql fp s5.heap) σ7 H7 s7→N σ7 H7→∃ m,m<n∧∃ i σ' H',Inv X pins σ' H' s7∧tn i s7.heap∧(∀ b∈fp,H' b=none)∧W i m σ' H':=fun {σ7 H7} I7 n7=>by
   obtain⟨m',hm,w7⟩:=hN σ7 H7 n7
   refine⟨m',hm,i+1,σ7,H7,I7.Px,T.keep _ _ _ st5 fun b hb o e=>(I7.pin (b,o) (Bc (Bc (Uq hb e)))).1,fun b hb=>?_,w7⟩
   obtain⟨o,e,d⟩:=T.obj _ _ st5 b hb
   exact (I7.pin (b,o) (Bc (Bc (Uq hb e)))).2.1
  cases f with
  | next=>obtain⟨σ7,H7,I7,n7⟩:=q7;exact again I7 n7
  | cont=>obtain⟨σ7,H7,I7,n7⟩:=q7;exact again I7 n7
  | brk=>obtain⟨σ7,H7,I7,q7⟩:=q7;exact⟨σ7,H7,I7.Px,q7⟩
  | ret v=>obtain⟨x7,σ7,H7,I7,r7,q7⟩:=q7;exact⟨x7,σ7,H7,I7.Px,r7,q7⟩
end
noncomputable abbrev R2:=V→V→Hp→VK→Prop
noncomputable def EY (X:Cx)(f:Value→Value→Sem Value)(r:R2):Prop :=
 ∀ (pins:List (Addr×Obj)) (s:Shared) (σ:St) (H:Hp) (x y:V) (v u:Value) (Q:VK),Inv X pins σ H s→RelV x v→RelV y u→r x y H Q →
  wpAny (model X.prog X.w) X.A (f v u) (EP X pins σ Q) X.xe s
noncomputable def XX (X:Cx)(f:Value→Sem Value)(r:V→Hp→VK→Prop):Prop :=
 ∀ (pins:List (Addr×Obj)) (s:Shared) (σ:St) (H:Hp) (x:V) (v:Value) (Q:VK),Inv X pins σ H s→RelV x v→r x H Q →
  wpAny (model X.prog X.w) X.A (f v) (EP X pins σ Q) X.xe s
noncomputable def Gw (X:Cx)(f:Value)(r:List V→Hp→VK→Prop):Prop :=
 ∀ (pins:List (Addr×Obj)) (s:Shared) (σ:St) (H:Hp) (xs:List V) (us:List Value) (Q:VK),Inv X pins σ H s→Vals xs us→r xs H Q →
  wpAny (model X.prog X.w) X.A (call f us) (EP X pins σ Q) X.xe s
noncomputable def Fq (r:R2)(ta tb:TE):TE:=fun σ H Q=>ta σ H fun x H1=>tb σ H1 fun y H2=>r x y H2 Q
noncomputable def jE (r:V→Hp→VK→Prop)(ta:TE):TE:=fun σ H Q=>ta σ H fun x H1=>r x H1 Q
noncomputable def rI (C:Int→Int→Prop)(g:Int→Int→V):R2:=fun x y H Q=>∃ i j,x=.int i∧y=.int j∧C i j∧Q (g i j) H
noncomputable def Gp (g:Int→Int→V):R2:=fun x y H Q=>∃ i j,x=.int i∧y=.int j∧Q (g i j) H
noncomputable def rU (g:Int→V):V→Hp→VK→Prop:=fun x H Q=>∃ i,x=.int i∧Q (g i) H
section
variable {X:Cx}{a b c:Expr}{ta tb tc:TE}{pos:Pos}
theorem Vv (ha:PE X a ta)(hb:PE X b tb){pins:List (Addr×Obj)}{s:Shared}{σ:St}{H:Hp}{R:V→V→Hp→Prop}(I:Inv X pins σ H s)(h:ta σ H fun x H1=>tb σ H1 fun y H2=>R x y H2){Q:Value→Shared→Prop}{f:Value→Value→Sem Value}(hf:∀ v u s2 x y H2,Inv X pins σ H2 s2→RelV x v→RelV y u→R x y H2→wpAny (model X.prog X.w) X.A (f v u) Q X.xe s2) :
  wpAny (model X.prog X.w) X.A (eval a X.env) (fun v s₁=>wpAny (model X.prog X.w) X.A (eval b X.env) (fun u s₂=>wpAny (model X.prog X.w) X.A (f v u) Q X.xe s₂) X.xe s₁) X.xe s:=by
 refine BL (ha pins s σ H _ I h) fun v s1 ⟨x,H1,I1,r1,q1⟩=>?_
 refine BL (hb pins s1 σ H1 _ I1 q1) fun u s2 ⟨y,H2,I2,r2,q2⟩=>?_
 exact hf v u s2 x y H2 I2 r1 r2 q2
theorem jL {op:Operator}{r:R2}(ho:EY X (binaryOp op) r)(ha:PE X a ta)(hb:PE X b tb):PE X (.BinOp a op b pos) (Fq r ta tb):=by
 intro pins s σ H Q I h
 exact wpAny_BinOp (Vv ha hb I h fun v u s2 x y H2 I2 rx ry q=>ho pins s2 σ H2 x y v u Q I2 rx ry q)
theorem AIf {op:UnaryOp}{r:V→Hp→VK→Prop}(ho:XX X (unaryOp op) r)(ha:PE X a ta):PE X (.UnaryOp op a pos) (jE r ta):=by
 intro pins s σ H Q I h
 exact UnaryOp_ (BL (ha pins s σ H _ I h) fun v s1 ⟨x,H1,I1,r1,q1⟩=>ho pins s1 σ H1 x v Q I1 r1 q1)
theorem Vg {f:Value→Value→Sem Value}{C:Int→Int→Prop}{g:Int→Int→Int}(rule:∀ (i j:Int) (t u:Tok) (s:Shared) (Q:Value→Shared→Prop) (E:Value→Shared→Prop),C i j→Q (.int (g i j) s.toks) { s with toks:=s.toks+1 }→wpAny (model X.prog X.w) X.A (f (.int i t) (.int j u)) Q E s) :
  EY X f (rI C fun i j=>.int (g i j)):=by
 intro pins s σ H x y v u Q I rx ry h
 obtain⟨i,j,rfl,rfl,hc,q⟩:=h
 obtain⟨t,rfl⟩:=rx
 obtain⟨t',rfl⟩:=ry
 exact rule i j t t' s _ _ hc ⟨.int (g i j),H,I.tok _,⟨_,rfl⟩,q⟩
theorem lC {f:Value→Value→Sem Value}{g:Int→Int→Int}(rule:∀ (i j:Int) (t u:Tok) (s:Shared) (Q:Value→Shared→Prop) (E:Value→Shared→Prop),Q (.int (g i j) s.toks) { s with toks:=s.toks+1 }→wpAny (model X.prog X.w) X.A (f (.int i t) (.int j u)) Q E s) :
  EY X f (Gp fun i j=>.int (g i j)):=by
 intro pins s σ H x y v u Q I rx ry h
 obtain⟨i,j,rfl,rfl,q⟩:=h
 obtain⟨t,rfl⟩:=rx
 obtain⟨t',rfl⟩:=ry
 exact rule i j t t' s _ _ ⟨.int (g i j),H,I.tok _,⟨_,rfl⟩,q⟩
theorem Tv {f:Value→Value→Sem Value}{g:Int→Int→Bool}(rule:∀ (i j:Int) (t u:Tok) (s:Shared) (Q:Value→Shared→Prop) (E:Value→Shared→Prop),Q (.bool (g i j)) s→wpAny (model X.prog X.w) X.A (f (.int i t) (.int j u)) Q E s) :
  EY X f (Gp fun i j=>.bl (g i j)):=by
 intro pins s σ H x y v u Q I rx ry h
 obtain⟨i,j,rfl,rfl,q⟩:=h
 obtain⟨t,rfl⟩:=rx
 obtain⟨t',rfl⟩:=ry
 exact rule i j t t' s _ _ ⟨.bl (g i j),H,I,rfl,q⟩
noncomputable def fL (i j:Int):Prop:=0≤j∧j≤1000000∧i.natAbs<2 ^ 64
noncomputable def Uv (i j:Int):Prop:=(-(2 ^ 64)<i∧i<2 ^ 64)∨(-(2 ^ 64)<j∧j<2 ^ 64)
theorem Uv.ok {i j:Int}(h:Uv i j):IntMulOk i j:=by
 rcases h with⟨h1,h2⟩ | ⟨h1,h2⟩
 ·exact .of_left (intBits_le_64 h1 h2)
 ·exact .of_right (intBits_le_64 h1 h2)
theorem AEy:EY X (binaryOp .Add) (Gp fun i j=>.int (i+j)):=lC fun _ _ _ _ _ _ _ q=>add_int q
theorem AFU:EY X (binaryOp .Sub) (Gp fun i j=>.int (i-j)):=lC fun _ _ _ _ _ _ _ q=>sub_int q
theorem AEH:EY X (binaryOp .Mult) (rI Uv fun i j=>.int (i*j)):=Vg fun _ _ _ _ _ _ _ hc q=>mul_int q hc.ok
theorem AHU:EY X (binaryOp .Mod) (rI (fun _ j=>0<j) fun i j=>.int (i % j)):=Vg fun i j _ _ _ _ _ hc q=>by
 have h1:(0:Int)<j:=hc
 exact mod_int' (by omega) (by rw[Int.fmod_eq_emod_of_nonneg i (by omega)];exact q)
theorem AEf:EY X (binaryOp .Pow) (rI fL fun i j=>.int (i ^ j.toNat)):=Vg fun _ _ _ _ _ _ _ hc q=>pow_int_small hc.1 hc.2.1 hc.2.2 q
theorem unI {f:Value→Sem Value}{g:Int→Int}(rule:∀ (i:Int) (t:Tok) (s:Shared) (Q:Value→Shared→Prop) (E:Value→Shared→Prop),Q (.int (g i) s.toks) { s with toks:=s.toks+1 }→wpAny (model X.prog X.w) X.A (f (.int i t)) Q E s) :
  XX X f (rU fun i=>.int (g i)):=by
 intro pins s σ H x v Q I rx h
 obtain⟨i,rfl,q⟩:=h
 obtain⟨t,rfl⟩:=rx
 exact rule i t s _ _ ⟨.int (g i),H,I.tok _,⟨_,rfl⟩,q⟩
theorem AAT:XX X (unaryOp .USub) (rU fun i=>.int (-i)):=unI fun _ _ _ _ _ q=>neg_int q
end
section
variable {X:Cx}{a b c:Expr}{ta tb tc:TE}{pos:Pos}
theorem oG {pins:List (Addr×Obj)}{σ:St}{H:Hp}{s:Shared}{Q:VK}{k k':Bool}(I:Inv X pins σ H s)(q:Q (.bl k) H)(e:k=k'):EP X pins σ Q (.bool k') s:=by
 subst e
 exact⟨.bl k,H,I,rfl,q⟩
theorem ADR:EY X (compareOp .Lt) (Gp fun i j=>.bl (decide (i<j))):=Tv fun _ _ _ _ _ _ _ q=>lt_int q
theorem ABr:EY X (compareOp .LtE) (Gp fun i j=>.bl (decide (i≤j))):=Tv fun _ _ _ _ _ _ _ q=>le_int q
theorem ABV:EY X (compareOp .Gt) (Gp fun i j=>.bl (decide (j<i))):=Tv fun _ _ _ _ _ _ _ q=>gt_int q
theorem AFy:EY X (compareOp .GtE) (Gp fun i j=>.bl (decide (j≤i))):=Tv fun _ _ _ _ _ _ _ q=>ge_int q
theorem AAn:EY X (compareOp .Is) (fun x y H Q=>y=.non∧Q (.bl (decide (x=.non))) H):=by
 intro pins s σ H x y v u Q I rx ry h
 obtain⟨rfl,q⟩:=h
 cases ry
 refine is_none_gen (oG I q ?_)
 cases x<;>first
  | (cases rx;rfl)
  | (obtain⟨t,rfl⟩:=rx;rfl)
theorem AGI:EY X (compareOp .IsNot) (fun x y H Q=>y=.non∧Q (.bl (!decide (x=.non))) H):=by
 intro pins s σ H x y v u Q I rx ry h
 obtain⟨rfl,q⟩:=h
 cases ry
 refine isnot_none_gen (oG I q ?_)
 cases x<;>first
  | (cases rx;rfl)
  | (obtain⟨t,rfl⟩:=rx;rfl)
theorem ADH (b:Expr){op:CmpOp}(h:op≠.In:=by decide)(h2:op≠.NotIn:=by decide):behindInMarks op b=false:=by
 have e1:(op == CmpOp.In)=false:=by cases op<;>first | rfl | exact absurd rfl h
 have e2:(op == CmpOp.NotIn)=false:=by cases op<;>first | rfl | exact absurd rfl h2
 cases b<;>simp [behindInMarks,e1,e2]
theorem AEl {op:CmpOp}{r:R2}(ho:EY X (compareOp op) r)(ha:PE X a ta)(hb:PE X b tb)(hm:behindInMarks op b=false):PE X (.Compare a [op] [b] pos) (Fq r ta tb):=by
 intro pins s σ H Q I h
 exact wpAny_Compare1 (Vv ha hb I h fun v u s2 x y H2 I2 rx ry q=>ho pins s2 σ H2 x y v u Q I2 rx ry q) hm
noncomputable def Pb (t:TE):TT:=fun σ H Q=>t σ H fun x H'=>∃ k,x=.bl k∧Q k H'
theorem AGf {op:CmpOp}{r:R2}(ho:EY X (compareOp op) r)(ha:PE X a ta)(hb:PE X b tb)(hm:behindInMarks op b=false):PT X (.Compare a [op] [b] pos) (Pb (Fq r ta tb)):=by
 intro pins s σ H Q I h
 refine wpAny_isTrue_Compare1 (BL (ha pins s σ H _ I h) fun v s1 ⟨x,H1,I1,r1,q1⟩=>BL (hb pins s1 σ H1 _ I1 q1) fun u s2 ⟨y,H2,I2,r2,q2⟩ =>
  BL (ho pins s2 σ H2 x y v u _ I2 r1 r2 q2) fun c s3 ⟨z,H3,I3,r3,k,e,q3⟩=>?_) hm
 subst e
 cases r3
 exact wpAny_truthy_bool ⟨H3,I3,q3⟩
noncomputable def X8 (r r':R2)(ta tb tc:TE):TE:=fun σ H Q=>ta σ H fun x H1=>tb σ H1 fun y H2=>r x y H2 fun z H3=>∃ k,z=.bl k ∧
 (if k=true then tc σ H3 fun w' H4=>r' y w' H4 Q else Q (.bl false) H3)
theorem AHu {op op':CmpOp}{r r':R2}(ho:EY X (compareOp op) r)(ho':EY X (compareOp op') r')(ha:PE X a ta)(hb:PE X b tb)(hc:PE X c tc)(hm:lastMarks [op,op'] [b,c]=false:=by with_unfolding_all rfl):PT X (.Compare a [op,op'] [b,c] pos) (Pb (X8 r r' ta tb tc)):=by
 intro pins s σ H Q I h
 refine isTrue_chain (BL (ha pins s σ H _ I h) fun v s1 ⟨x,H1,I1,r1,q1⟩=>test_link (BL (hb pins s1 σ H1 _ I1 q1) fun u s2 ⟨y,H2,I2,r2,q2⟩ =>
  BL (ho pins s2 σ H2 x y v u _ I2 r1 r2 q2) fun d s3 ⟨z,H3,I3,r3,k,e,q3⟩=>?_)) hm
 subst e
 cases r3
 refine wpAny_truthy_bool ?_
 cases k with
 | false =>
  obtain⟨k',e',q'⟩:=q3
  cases e'
  exact ite_ff ⟨H3,I3,q'⟩
 | true =>
  refine ite_tt (test_last (BL (hc pins s3 σ H3 _ I3 q3) fun w' s4 ⟨z',H4,I4,r4,q4⟩=>BL (ho' pins s4 σ H4 y z' u w' _ I4 r2 r4 q4) fun d' s5 ⟨z2,H5,I5,r5,k2,e2,q5⟩=>?_))
  subst e2
  cases r5
  exact wpAny_truthy_bool ⟨H5,I5,q5⟩
theorem QT:(sizeLine:Nat)<2 ^ 63:=by rw[sizeLine_eq];decide
theorem vals1 {x:V}{us:List Value}(r:Vals [x] us):∃ u,us=[u]∧RelV x u:=by
 cases r with
 | cons r1 r2=>cases r2;exact⟨_,rfl,r1⟩
theorem vals2 {x y:V}{us:List Value}(r:Vals [x,y] us):∃ u w',us=[u,w']∧RelV x u∧RelV y w':=by
 cases r with
 | cons r1 r2 =>
  cases r2 with
  | cons r3 r4=>cases r4;exact⟨_,_,rfl,r1,r3⟩
theorem AG0 (hc:X.calm=true):Gw X (.builtin "max") (fun xs H Q=>∃ i j,xs=[.int i,.int j]∧Q (.int (if j > i then j else i)) H):=by
 intro pins s σ H xs us Q I r h
 obtain⟨i,j,rfl,q⟩:=h
 obtain⟨u,w',rfl,⟨t,rfl⟩,⟨t',rfl⟩⟩:=vals2 r
 refine max_two_ints (I.ok.hd hc) fun h' tk k=>⟨_,H,I.kept k,?_,q⟩
 by_cases hj:j > i
 ·rw[if_pos hj,if_pos hj];exact⟨_,rfl⟩
 ·rw[if_neg hj,if_neg hj];exact⟨_,rfl⟩
theorem AHS (hc:X.calm=true):Gw X (.builtin "min") (fun xs H Q=>∃ i j,xs=[.int i,.int j]∧Q (.int (if j<i then j else i)) H):=by
 intro pins s σ H xs us Q I r h
 obtain⟨i,j,rfl,q⟩:=h
 obtain⟨u,w',rfl,⟨t,rfl⟩,⟨t',rfl⟩⟩:=vals2 r
 refine min_two_ints (I.ok.hd hc) fun h' tk k=>⟨_,H,I.kept k,?_,q⟩
 by_cases hj:j<i
 ·rw[if_pos hj,if_pos hj];exact⟨_,rfl⟩
 ·rw[if_neg hj,if_neg hj];exact⟨_,rfl⟩
theorem AGR:Gw X (.type "int") (fun xs H Q=>(∃ i,xs=[.int i]∧Q (.int i) H)∨∃ k,xs=[.bl k]∧Q (.int (if k then 1 else 0)) H):=by
 intro pins s σ H xs us Q I r h
 rcases h with⟨i,rfl,q⟩ | ⟨k,rfl,q⟩
 ·obtain⟨u,rfl,t,rfl⟩:=vals1 r
  exact call_int_int ⟨.int i,H,I,⟨_,rfl⟩,q⟩
 ·obtain⟨u,rfl,r1⟩:=vals1 r
  cases r1
  exact call_int_bool ⟨.int (if k then 1 else 0),H,I.tok _,⟨_,rfl⟩,q⟩
end
structure WN (h:Heap)(x dx C:Addr)(mA:Str→Option Value):Prop where
 obj:h.get? x=some (PySem.W.instObj C dx)
 ns:h.Ns1 dx mA
 ne:dx≠x
theorem AHZ {h:Heap}{dx:Addr}{mA:Str→Option Value}(n:h.Ns1 dx mA):∃ od,h.get? dx=some od∧∀ name,PySem.W.lookIn name od=some (mA name):=by
 obtain⟨o,es,ep,ho,hd,hk,_,hm⟩:=n
 refine⟨o,ho,fun name=>?_⟩
 have e:=hm name
 unfold nsFind findBy at e
 rw[← Array.find?_toList] at e
 unfold PySem.W.lookIn
 rw[hd]
 dsimp only
 split
 ·rename_i y q
  rw[q] at e
  exact congrArg some e
 ·rename_i q
  rw[q] at e
  have a:es.toList.any (·.refKey)=false:=by
   rw[List.any_eq_false]
   intro y hy
   obtain⟨z,t,hkey⟩:=hk y (Array.mem_toList_iff.mp hy)
   simp [DictEntry.refKey,hkey]
  have a':¬ es.toList.any (·.refKey)=true:=by rw[a];exact Bool.false_ne_true
  rw[if_neg a']
  exact congrArg some e
theorem WN.look {h:Heap}{x dx C:Addr}{mA:Str→Option Value}(I:WN h x dx C mA):∃ od,PySem.W.InstAt h x (PySem.W.instObj C dx) C (some od)∧∀ name,PySem.W.lookIn name od=some (mA name) :=
 let ⟨od,ho,hl⟩:=AHZ I.ns
 ⟨od,⟨I.obj,rfl,rfl,ho⟩,hl⟩
theorem Ha.some_of {v:V}{o:Option Value}(r:Ha (some v) o):∃ u,o=some u∧RelV v u:=by
 cases o with
 | none=>exact (show False from r).elim
 | some u=>exact⟨u,rfl,r⟩
section
variable {P:Program}{w:World}{H H':Hp}{h h':Heap}{a C dx:Addr}{fs fs':List (Str×V)}
theorem AJm (hok:Ck P w H h)(e:H a=some (.ins C dx fs)):∃ mA,WN h a dx C mA∧(∀ f,Ha (fs.lookup f) (mA f))∧PySem.Within mA (fs.map (·.1))∧fs.length≤1000∧H dx=some (.own a):=by
 obtain⟨d,z,ne,ob,mA,n,r,q⟩:=(show Ej P w H h a (.ins C dx fs) from hok a _ e)
 exact⟨mA,⟨ob,n,ne⟩,r,q,z,d⟩
end
structure rR (K:Frag)(C:Addr):Prop where
 pg:PySem.W.plainGet K C Str.empty=true
 hd:PySem.W.hasDictIn K C=true
 po:PySem.W.plainOver K C=true
 sa:findIn K (.ref C) "__setattr__"=some (some (.builtin "object.__setattr__"))
structure Con (K:Frag)(C:Addr)(f:Str)(v:V)(u:Value):Prop where
 at_:findIn K (.ref C) f=some (some u)
 rel:RelV v u
 get:PySem.W.specialIn K u "__get__"=some none
 cp:PySem.W.copiedNames.contains f=false
structure Meth (K:Frag)(C:Addr)(m:Str)(f:Addr):Prop where
 at_:findIn K (.ref C) m=some (some (.ref f))
 fn:PySem.W.isFn K (.ref f)=true
 kp:keepIn K (.ref f)=true
section
variable {X:Cx}{pins:List (Addr×Obj)}{σ:St}{H:Hp}{s:Shared}{A:Around}{E:Value→Shared→Prop}{Q:Value→Shared→Prop}{c:Value}{b:Bool}
inductive Hw (K:Frag)(H:Hp):V→Value→Prop where
 | non:Hw K H .non (.type "NoneType")
 | bl (x:Bool):Hw K H (.bl x) (.type "bool")
 | int (i:Int):Hw K H (.int i) (.type "int")
 | str (x:Str):Hw K H (.str x) (.type "str")
 | flt (x:UInt64):Hw K H (.flt x) (.type "float")
 | lst {a:Addr}{xs:List V} (e:H a=some (.lst xs)):Hw K H (.ref a) (.type "list")
 | frz {a:Addr}{o:Obj}{xs:List V} (e:H a=some (.frz o (.lst xs))):Hw K H (.ref a) (.type "list")
 | tup {a:Addr}{xs:List V} (e:H a=some (.tup xs)):Hw K H (.ref a) (.type "tuple")
 | dK {a:Addr}{kvs:List (Key×V)} (e:H a=some (.dK kvs)):Hw K H (.ref a) (.type "dict")
 | dT {a:Addr}{kvs:List (List Key×V)} (e:H a=some (.dT kvs)):Hw K H (.ref a) (.type "dict")
 | ins {a C dx:Addr}{fs:List (Str×V)} (e:H a=some (.ins C dx fs)) (cl:rR K C) (ha:findIn K (.ref C) "__class__"=some (some (.builtin "object.__class__")))
   (hn:PySem.W.specialIn K (.builtin "object.__class__") "__get__"=some (some (.builtin "getset_descriptor.__get__"))) (htk:PySem.W.takesIn K (.builtin "object.__class__")=some true)
   (hm:mroIn K C (.type "object")=some true):Hw K H (.ref a) (.ref C)
end
structure Cy (k:Nat)(A:Around):Prop where
 hd:A.handled=none
 dp:A.depth+3*k+5<recursionLimit
 un:A.units+16*k+200<cLine
theorem Cy.mono {j k:Nat}{A:Around}(r:Cy k A)(h:j≤k):Cy j A:=⟨r.hd,by have:=r.dp;omega,by have:=r.un;omega⟩
theorem Cy.deeper {k:Nat}{A:Around}(r:Cy (k+1) A)(env:Env):Cy k (A.deeper env) :=
 ⟨r.hd,by have:=r.dp;show A.depth+1+3*k+5<_;omega,by have:=r.un;show A.units+3+16*k+200<_;omega⟩
theorem Cy.depth {k:Nat}{A:Around}(r:Cy k A):A.depth<recursionLimit:=by have:=r.dp;omega
theorem Cy.units {k:Nat}{A:Around}(r:Cy k A):A.units+64<cLine:=by have:=r.un;omega
noncomputable def Fw:TA:=fun _ H Q=>Q [] H
noncomputable def Dz (ta:TE)(tr:TA):TA:=fun σ H Q=>ta σ H fun x H1=>tr σ H1 fun xs H2=>Q (x::xs) H2
section
variable {X:Cx}{e:Expr}{es:List Expr}{te:TE}{t:TA}{pos:Pos}
theorem Ho:PA X [] Fw:=fun _ _ _ _ H Q I h=>Calls.spliced_nil ⟨[],H,I,.nil,h⟩
theorem GK (ha:PE X e te)(hr:PA X es t)(hs:starEach (e::es) X.env=(false,eval e X.env)::starEach es X.env:=by rfl):PA X (e::es) (Dz te t):=by
 intro pos pins s σ H Q I h
 rw[hs]
 show wpAny _ _ (spliced ((false,eval e X.env)::backTo pos (starEach es X.env))) _ _ s
 refine Calls.spliced_cons (BL (ha pins s σ H _ I h) fun u s1 ⟨x,H1,I1,r1,q1⟩=>?_)
 exact BL (hr pos pins s1 σ H1 _ I1 q1) fun us s2 ⟨xs,H2,I2,r2,q2⟩=>⟨x::xs,H2,I2,.cons r1 r2,q2⟩
noncomputable def mX (t:TA):TE:=fun σ H Q=>t σ H fun xs H1=>xs.length≤sizeLine∧∀ p,H1 p=none→Q (.ref p) (upd H1 p (.tup xs))
noncomputable def Xz (t:TA):TE:=fun σ H Q=>t σ H fun xs H1=>xs.length≤sizeLine∧∀ p,H1 p=none→Q (.ref p) (upd H1 p (.lst xs))
theorem zL {x1}(h:PA X es t):PE X (.Tuple es x1 pos) (mX t):=by
 intro pins s σ H Q I hq
 refine wpAny_Tuple_spliced (BL (h pos pins s σ H _ I hq) fun us s1 ⟨xs,H1,I1,r,z,q⟩=>⟨by rw[← r.length];exact z,?_⟩)
 have hf:H1 s1.heap.objs.size=none:=I1.hok.fresh (Nat.le_refl _)
 refine⟨.ref s1.heap.objs.size,upd H1 s1.heap.objs.size (.tup xs),I1.laid (t':=s1.toks) (fun b u e=>Heap.get?_push_of_some _ e) (Nat.le_refl _) ?_,rfl,q _ hf⟩
 exact⟨z,us,r,⟨_,Heap.get?_push_size _ rfl,rfl,_,rfl⟩⟩
theorem fM (h:PA X es t):PE X (.List es pos) (Xz t):=by
 intro pins s σ H Q I hq
 refine wpAny_List_spliced (BL (h pos pins s σ H _ I hq) fun us s1 ⟨xs,H1,I1,r,z,q⟩=>⟨by rw[← r.length];exact z,?_⟩)
 have hf:H1 s1.heap.objs.size=none:=I1.hok.fresh (Nat.le_refl _)
 refine⟨.ref s1.heap.objs.size,upd H1 s1.heap.objs.size (.lst xs),I1.laid (t':=s1.toks) (fun b u e=>Heap.get?_push_of_some _ e) (Nat.le_refl _) ?_,rfl,q _ hf⟩
 exact⟨z,us,0,r,Heap.get?_push_size _ rfl⟩
end
noncomputable abbrev Sp:=List V→Hp→VK→XK→Prop
noncomputable abbrev Gx:=List Env→Hp→Shared→XK→Value→Shared→Prop
structure SX (P:Program)(w:World)(K:Frag)(mg:Str→Option Value)(base:Heap)(A:Around)(outer:List Env)(s:Shared)(H:Hp):Prop where
 frames:A.frames=some outer
 mod:Mod K mg base
 bs:∀ b o,base.get? b=some o→s.heap.get? b=some o∧H b=none
 bsz:base.objs.size≤s.heap.objs.size
 Hh:s.heap.FunFrames base outer
 frf:∀ b∈Ie outer,H b=none
 hok:Ck P w H s.heap
 bare:AllBare s.gens
noncomputable def CE (outer:List Env)(P:Program)(w:World)(H:Hp)(s:Shared)(Q:VK)(u:Value)(s':Shared):Prop :=
 ∃ v H',s'.os=s.os∧AllBare s'.gens∧Un (Ie outer) [] H H' s.heap s'.heap∧Ck P w H' s'.heap∧RelV v u∧Q v H'
noncomputable def CR (CX:Gx)(outer:List Env)(P:Program)(w:World)(H:Hp)(s:Shared)(Q:VK)(E:XK)(r:Result)(s':Shared):Prop :=
 match r with
 | .ok (.ret u)=>CE outer P w H s Q u s'
 | .ok _=>False
 | .error e=>CX outer H s E e s'
structure Gd (P:Program)(w:World)(K:Frag)(mg:Str→Option Value)(base:Heap)(CX:Gx)(k:Nat)(f:Addr)(fd:FuncData)(ps:List Str)(sp:Sp):Prop where
 len:∀ vs H Q E,sp vs H Q E→vs.length=ps.length
 run:∀ (A:Around) (outer:List Env) (s:Shared) (H:Hp) (args:Args) (us:List Value) (vs:List V) (Q:VK) (E:XK),Cy k A→SX P w K mg base A outer s H→BindsTo s fd args (ps.zip us)→Vals vs us→sp vs H Q E →
  codeAny (model P w) A (.call (.ref f) args) (CR CX outer P w H s Q E) s
theorem Gd.mono {P:Program}{w:World}{K:Frag}{mg:Str→Option Value}{base:Heap}{CX:Gx}{j k:Nat}{f:Addr}{fd:FuncData}{ps:List Str}{sp:Sp}(F:Gd P w K mg base CX j f fd ps sp)(h:j≤k) :
  Gd P w K mg base CX k f fd ps sp:=⟨F.len,fun A outer s H args us vs Q E hr=>F.run A outer s H args us vs Q E (hr.mono h)⟩
theorem Gd.imp {P:Program}{w:World}{K:Frag}{mg:Str→Option Value}{base:Heap}{CX:Gx}{k:Nat}{f:Addr}{fd:FuncData}{ps:List Str}{sp sp':Sp}(F:Gd P w K mg base CX k f fd ps sp)(h:∀ vs H Q E,sp' vs H Q E→sp vs H Q E):Gd P w K mg base CX k f fd ps sp' :=
 ⟨fun vs H Q E q=>F.len vs H Q E (h _ _ _ _ q),fun A outer s H args us vs Q E hr he hb hv hs=>F.run A outer s H args us vs Q E hr he hb hv (h _ _ _ _ hs)⟩
section
variable {X:Cx}{pins:List (Addr×Obj)}{σ:St}{H:Hp}{s s':Shared}
theorem Inv.ADb (I:Inv X pins σ H s):SX X.prog X.w X.K X.mg X.base X.A X.stack s H :=
 ⟨I.ok.frames,I.ok.mod,I.bs,Nat.le_trans I.ok.bsz I.sz,I.stack,I.tH,I.hok,I.bare⟩
theorem Inv.after {Q:VK}{u:Value}(I:Inv X pins σ H s)(h:CE X.stack X.prog X.w H s Q u s'):EP X pins σ Q u s':=by
 obtain⟨v,H',os,bare,un,hok,r,q⟩:=h
 obtain⟨hh,g,d,t,os'⟩:=s'
 obtain rfl:os'=s.os:=os
 exact⟨v,H',I.call (h':=hh) (g':=g) (d':=d) (t':=t) (ch:=[]) un hok bare (fun b z=>absurd z (by simp)),r,q⟩
end
noncomputable def JH (sp:Sp)(dvs:List V)(E:XK)(t:TA):TE:=fun σ H Q=>t σ H fun vs H1=>sp (vs++dvs) H1 Q E
noncomputable def Binds (K:Frag)(fd:FuncData)(ps:List Str)(ds:List Value):Prop :=
 ∀ (s:Shared) (us:List Value),K.In s.heap→(us++ds).length=ps.length→BindsTo s fd ⟨us,[]⟩ (ps.zip (us++ds))
theorem Binds.all {K:Frag}{fd:FuncData}{ps:List Str}(h:∀ us:List Value,us.length=ps.length→bindArgs fd ⟨us,[]⟩=pure (ps.zip us)):Binds K fd ps []:=fun s us _ hl=>by
 rw[List.append_nil] at hl ⊢
 exact .of_eq (h us hl)
noncomputable def Passes (CX:Gx)(X:Cx)(E:XK):Prop:=∀ (pins:List (Addr×Obj)) (σ:St) (H:Hp) (s:Shared) (e:Value) (s':Shared),Inv X pins σ H s→CX X.stack H s E e s'→X.xe e s'
section
variable {X:Cx}{CX:Gx}{k:Nat}{f C:Addr}{fd:FuncData}{ps:List Str}{sp:Sp}{dvs:List V}{ds:List Value}{E:XK}{x m:Str}{p pos apos:Pos}{e o:Expr}{es:List Expr}{ta:TE}{t:TA}
theorem AFJ {pins:List (Addr×Obj)}{σ:St}{H:Hp}{s:Shared}{Q:VK}{us:List Value}{vs:List V}(F:Gd X.prog X.w X.K X.mg X.base CX k f fd ps sp)(hr:Cy k X.A)(hb:Binds X.K fd ps ds)(hd:Vals dvs ds)(hx:Passes CX X E)(I:Inv X pins σ H s)(r:Vals vs us)(h:sp (vs++dvs) H Q E):wpAny (model X.prog X.w) X.A (call (.ref f) us) (EP X pins σ Q) X.xe s:=by
 have r2:Vals (vs++dvs) (us++ds):=r.append hd
 have hl:(us++ds).length=ps.length:=by rw[← r2.length];exact F.len _ _ _ _ h
 refine wpAny_call (codeAny_mono (F.run X.A X.stack s H ⟨us,[]⟩ (us++ds) (vs++dvs) Q E hr I.ADb (hb s us I.NT hl) r2 h) fun r s' hq=>?_)
 cases r with
 | error e=>exact hx pins σ H s e s' I hq
 | ok fl =>
  cases fl with
  | ret u=>exact I.after hq
  | next=>exact False.elim hq
  | brk=>exact False.elim hq
  | cont=>exact False.elim hq
theorem AI0 (F:Gd X.prog X.w X.K X.mg X.base CX k f fd ps sp)(hr:Cy k X.A)(hg:Gl X x)(hm:X.mg x=some (.ref f))(hk:keepIn X.K (.ref f)=true)(hb:Binds X.K fd ps ds)(hd:Vals dvs ds)(hx:Passes CX X E)(ha:PA X (e::es) t)(hdb:(x == ("__debug__":Str))=false:=by decide)(he:starEach (e::es) X.env=(false,eval e X.env)::starEach es X.env:=by rfl)(hpl:(backTo pos (starEach es X.env)).any (·.1)=false:=by rfl) :
  PE X (.Call (.Name x p) (e::es) [] pos) (JH sp dvs E t):=by
 intro pins s σ H Q I h
 refine wpAny_Call_Name_kw (m7 I hg hm ?_ hdb)
 refine PySem.W.callWith_K (h₀:=X.base) I.ok.mod.kin hk (BL (ha pos pins s σ H _ I h) fun us s1 ⟨vs,H1,I1,r,q⟩=>⟨I1.NT,?_⟩) he hpl
 exact AFJ F hr hb hd hx I1 r q
structure Mk (K:Frag)(C f:Addr):Prop where
 makes:makesIn K C=true
 init:findIn K (.ref C) "__init__"=some (some (.ref f))
 fn:PySem.W.isFn K (.ref f)=true
 kp:keepIn K (.ref C)=true
end
section
variable {X:Cx}{CX:Gx}{k:Nat}{f C:Addr}{fd:FuncData}{ps ks:List Str}{sp:Sp}{E:XK}{x m:Str}{p pos apos kpos:Pos}{e o:Expr}{es:List Expr}{kws:List Keyword}{te ta:TE}{t tk:TA}{nm:Option Str}
structure AKi (K:Frag)(fd:FuncData)(ps ks:List Str)(g:List Value→List Value→List Value)(gV:List V→List V→List V):Prop where
 to:∀ (s:Shared) (us ws:List Value),K.In s.heap→(g us ws).length=ps.length→BindsTo s fd ⟨us,ks.zip ws⟩ (ps.zip (g us ws))
 rel:∀ {vs:List V}{us:List Value}{zs:List V}{ws:List Value},Vals vs us→Vals zs ws→Vals (gV vs zs) (g us ws)
variable {g:List Value→List Value→List Value}{gV:List V→List V→List V}
end
structure K1 (N P:List Str)(sc:Scope):Prop where
 kind:sc.kind=.function
 co:sc.isCoroutine=false
 gen:sc.isGenerator=false
 nd:N.Nodup
 pre:N.take P.length=P
 par:∀ x∈P,sc.names.lookup x=some .local∨sc.names.lookup x=some .cell
 X7:∀ y∈sc.names,y.2≠.free
theorem pJ {kindOf:Str→Option NameKind}{x:Str}:∀ {binds:List (Str×Value)}{m:Str→Option Value},(∀ v,(x,v) ∉ binds)→bindL kindOf binds m x=m x
 | [],_,_=>rfl
 | (n,v)::r,m,h=>by
  unfold bindL
  rw[pJ fun w hw=>h w (Bt hw)]
  split
  ·have:x≠n:=by rintro rfl;exact h v Bf
   simp [this]
  ·rfl
theorem tZ {kindOf:Str→Option NameKind}{x:Str}:∀ {binds:List (Str×Value)}{m:Str→Option Value},(∀ v,(x,v) ∉ binds)→bindC kindOf binds m x=m x
 | [],_,_=>rfl
 | (n,v)::r,m,h=>by
  unfold bindC
  rw[tZ fun w hw=>h w (Bt hw)]
  split
  ·rfl
  ·have:x≠n:=by rintro rfl;exact h v Bf
   simp [this]
theorem qT {kindOf:Str→Option NameKind}{x:Str}{v:Value}:∀ {P:List Str}{vs:List Value}{i:Nat}{m:Str→Option Value},P.Nodup→P[i]?=some x→vs[i]?=some v→kindOf x=some .local →
  bindL kindOf (P.zip vs) m x=some v
 | [],_,_,_,_,h,_,_=>by simp at h
 | _::_,[],_,_,_,_,h,_=>by simp at h
 | p::P,w::vs,0,m,nd,h1,h2,hk=>by
  simp at h1 h2;subst h1;subst h2
  show bindL kindOf ((p,w)::P.zip vs) m p=_
  unfold bindL
  rw[pJ fun v hv=>(List.nodup_cons.mp nd).1 (List.of_mem_zip hv).1,if_pos hk]
  simp
 | p::P,w::vs,i+1,m,nd,h1,h2,hk=>by
  show bindL kindOf ((p,w)::P.zip vs) m x=_
  unfold bindL
  exact qT (i:=i) (List.nodup_cons.mp nd).2 (by simpa using h1) (by simpa using h2) hk
theorem rF {kindOf:Str→Option NameKind}{x:Str}{v:Value}:∀ {P:List Str}{vs:List Value}{i:Nat}{m:Str→Option Value},P.Nodup→P[i]?=some x→vs[i]?=some v→kindOf x≠some .local →
  bindC kindOf (P.zip vs) m x=some v
 | [],_,_,_,_,h,_,_=>by simp at h
 | _::_,[],_,_,_,_,h,_=>by simp at h
 | p::P,w::vs,0,m,nd,h1,h2,hk=>by
  simp at h1 h2;subst h1;subst h2
  show bindC kindOf ((p,w)::P.zip vs) m p=_
  unfold bindC
  rw[tZ fun v hv=>(List.nodup_cons.mp nd).1 (List.of_mem_zip hv).1,if_neg hk]
  simp
 | p::P,w::vs,i+1,m,nd,h1,h2,hk=>by
  show bindC kindOf ((p,w)::P.zip vs) m x=_
  unfold bindC
  exact rF (i:=i) (List.nodup_cons.mp nd).2 (by simpa using h1) (by simpa using h2) hk
noncomputable def start (N:List Str)(vs:List V):St:=vs.map some++List.replicate (N.length-vs.length) none
noncomputable def IW (CX:Gx)(P:Program)(w:World)(K:Frag)(mg:Str→Option Value)(base:Heap)(N:List Str)(qual:Str)(scope:Scope)(f:Addr)(cd:Value)(A:Around)(outer:List Env)(s:Shared)(H:Hp)(E:XK):Cx where
 prog:=P
 w:=w
 K:=K
 mg:=mg
 base:=base
 A:=A.deeper (envOfC qual scope s.heap.objs.size f cd)
 N:=N
 s₀:=s
 H₀:=H
 env:=envOfC qual scope s.heap.objs.size f cd
 outer:=outer
 stack:=envOfC qual scope s.heap.objs.size f cd::outer
 ex:=[]
 calm:=true
 fn:=fun _=>true
 pn:=[]
 xe:=fun e s'=>wpAny (model P w) (A.deeper (envOfC qual scope s.heap.objs.size f cd)) (leaving (envOfC qual scope s.heap.objs.size f cd) e) (fun _ s''=>CX outer H s E e s'') (fun e' s''=>CX outer H s E e' s'') s'
theorem jO {sc:Scope}{n:Nat}{x:Str}(h:sc.names.lookup x=some .cell):∃ c,(cellsFrom n sc.names []).lookup x=some c:=by
 have q:=PySem.W.cellsFrom_some sc.names n [] (.inl h)
 exact Option.isSome_iff_exists.mp q
theorem AIA {CX:Gx}{P:Program}{w:World}{K:Frag}{mg:Str→Option Value}{base:Heap}{N ps:List Str}{qual:Str}{scope:Scope}{f:Addr}{cd:Value}{A:Around}{outer:List Env}{s s1:Shared}{H:Hp}{E:XK}{us:List Value}{vs:List V}(S:K1 N ps scope)(hd:A.handled=none)(e0:SX P w K mg base A outer s H)(hl:vs.length=ps.length)(r:Vals vs us)(x:InCallC s s.heap.objs.size (bindL (envOfC qual scope s.heap.objs.size f cd).kindOf (ps.zip us) fun _=>none) (cellsFrom (s.heap.objs.size+1) scope.names []) (bindC (envOfC qual scope s.heap.objs.size f cd).kindOf (ps.zip us) fun _=>none) s1) :
  Inv (IW CX P w K mg base N qual scope f cd A outer s H E) [] (start N vs) H s1:=by
 have hpl:ps.length≤N.length:=by have:=congrArg List.length S.pre;rw[List.length_take] at this;omega
 obtain⟨h1,tk,rfl,hk⟩:=x.done
 have noA:∀ b:Addr,b ∉ (IW CX P w K mg base N qual scope f cd A outer s H E).ex:=fun b z=>absurd (show b∈([]:List Addr) from z) (by simp)
 refine⟨⟨e0.mod,S.kind,rfl,rfl,Nat.le_refl _,fun y z c h1 h2=>?_,fun y hy=>?_,fun y c _ h=>?_,fun _=>hd,Around.frames_deeper e0.frames,.inr ⟨rfl,rfl⟩,fun b z=>absurd z (noA b),e0.bs,e0.bsz,fun b _ _=>noA b,fun b z=>absurd z (noA b),e0.Hh,e0.frf⟩,
  rfl,e0.bare,Un.kept hk,⟨_,x.toInCall.ns,fun i y v h1 h2 h3=>?_⟩,fun y c h=>⟨_,x.cell y c h⟩,e0.hok.fresh (Nat.le_refl _),fun y c h=>?_,fun p hp=>absurd (show p∈([]:List (Addr×Obj)) from hp) (by simp),e0.hok.kept hk,?_⟩
 ·exact name_of_addr x.apart (PySem.mem_of_lookup h1) (PySem.mem_of_lookup h2)
 ·have hy:scope.names.lookup y=some .cell∨scope.names.lookup y=some .free:=hy
  rcases hy with hy | hy
  ·exact jO hy
  ·exact absurd rfl (S.X7 _ (PySem.mem_of_lookup hy))
 ·exact Nat.le_of_lt (x.above y c (PySem.mem_of_lookup h))
 ·have hi:i<vs.length:=by
   unfold start at h2
   by_cases hi:i<vs.length
   ·exact hi
   ·rw[List.getElem?_append_right (by simpa using hi)] at h2
    rw[List.getElem?_replicate] at h2
    split at h2<;>cases h2
  have ha:vs[i]?=some v:=by
   unfold start at h2
   rw[List.getElem?_append_left (by simpa using hi),List.getElem?_map] at h2
   cases e:vs[i]? with
   | none=>rw[e] at h2;cases h2
   | some a=>rw[e] at h2;cases h2;rfl
  obtain⟨u,hu,rv⟩:=r.get ha
  have hp:ps[i]?=some y:=by
   rw[← S.pre,List.getElem?_take_of_lt (by omega)];exact h1
  have ndP:ps.Nodup:=by rw[← S.pre];exact S.nd.sublist (List.take_sublist _ _)
  refine⟨u,rv,?_⟩
  rcases S.par y (List.mem_of_getElem? hp) with k | k
  ·exact .inl ⟨k,qT ndP hp hu k⟩
  ·obtain⟨c,e⟩:=jO (n:=s.heap.objs.size+1) k
   refine .inr ⟨.inl k,c,e,?_⟩
   have q:=x.cell y c e
   rw[rF ndP hp hu (by show scope.names.lookup y≠_;rw[k];decide)] at q
   exact q
 ·exact e0.hok.fresh (Nat.le_of_lt (x.above y c (PySem.mem_of_lookup h)))
 ·unfold start
  show _=N.length
  rw[List.length_append,List.length_map,List.length_replicate]
  omega
theorem ACy {CX:Gx}{P:Program}{w:World}{K:Frag}{mg:Str→Option Value}{base:Heap}{k:Nat}{f:Addr}{name qual:Str}{params:Arguments}{body:List Stmt}{scope:Scope}{dV kV doc pm cdv ct oc:Value}{an od:Option Addr}{osl:Array (Option Value)}{N ps:List Str}{sp:Sp}(lk:K.lookup f=some ⟨oc,od,.func (fnOf name qual params body scope dV kV doc pm an cdv ct),osl⟩)(hcd:codeIn K cdv qual=true)(S:K1 N ps scope)(len:∀ vs H Q E,sp vs H Q E→vs.length=ps.length) (hbody:∀ (A:Around) (outer:List Env) (s:Shared) (H:Hp) (vs:List V) (Q:VK) (E:XK),Cy k (A.deeper (envOfC qual scope s.heap.objs.size f cdv))→sp vs H Q E →
   ∃ t,Gh (IW CX P w K mg base N qual scope f cdv A outer s H E) body t∧t { nx:=fun _ H'=>Q .non H',rt:=Q } (start N vs) H) :
  Gd P w K mg base CX (k+1) f (fnOf name qual params body scope dV kV doc pm an cdv ct) ps sp:=by
 refine⟨len,fun A outer s H args us vs Q E hr e0 hb r hsp=>?_⟩
 have hl:=len _ _ _ _ hsp
 have KX:K.In s.heap:=e0.mod.kin.keeps fun b o e=>(e0.bs b o e).1
 have lim:s.heap.NoLimit:=e0.mod.nolimit.keeps fun b o e=>(e0.bs b o e).1
 have hkind:∀ y∈ps.zip us,scope.names.lookup y.1=some .local∨(scope.names.lookup y.1=some .cell∧((cellsFrom (s.heap.objs.size+1) scope.names []).lookup y.1).isSome=true):=fun ⟨n,v⟩ hy=>by
  rcases S.par n (List.of_mem_zip hy).1 with q | q
  ·exact .inl q
  ·exact .inr ⟨q,PySem.W.cellsFrom_some _ _ _ (.inl q)⟩
 refine codeAny_call_function hr.depth (KX _ _ lk) rfl S.co S.gen rfl (PySem.W.codeRec_of KX hcd) (hb _ _ _ _ ?_)
 refine wpAny_newFunctionEnv_cells S.kind hkind fun env he s1 x=>?_
 subst he
 refine⟨lim.keeps x.toInCall.keep,codeAny_func ?_⟩
 obtain⟨t,ht,hq⟩:=hbody A outer s H vs Q E (hr.deeper _) hsp
 have I:Inv (IW CX P w K mg base N qual scope f cdv A outer s H E) [] (start N vs) H s1:=AIA S hr.hd e0 hl r x
 refine wpAny_mono (ht [] s1 (start N vs) H _ I hq) (fun fl s' hs=>?_) fun e s' hs=>hs
 have fin:∀ {σ':St}{H':Hp}{v:V}{u:Value},Inv (IW CX P w K mg base N qual scope f cdv A outer s H E) [] σ' H' s'→RelV v u→Q v H'→CE outer P w H s Q u s' :=
  fun {σ' H' v u} J rv q=>⟨v,H',J.os,J.bare,J.base,J.hok,rv,q⟩
 cases fl with
 | ret u =>
  obtain⟨v,σ',H',J,rv,q⟩:=hs
  exact fin J rv q
 | next =>
  obtain⟨σ',H',J,q⟩:=hs
  exact fin (v:=V.non) (u:=Value.none) J rfl q
 | brk =>
  obtain⟨_,_,_,q⟩:=hs
  exact False.elim q
 | cont =>
  obtain⟨_,_,_,q⟩:=hs
  exact False.elim q
section
variable {X:Cx}{x:Str}{p pos:Pos}{e:Expr}{es:List Expr}{t:TA}{id T:String}{r:List V→Hp→VK→Prop}
noncomputable def Ht (r:List V→Hp→VK→Prop)(t:TA):TE:=fun σ H Q=>t σ H fun vs H1=>r vs H1 Q
theorem bQ (hc:Gw X (.builtin id) r)(hg:Gl X x)(hm:X.mg x=none)(hv:bootBuiltins x=some (.builtin id))(ha:PA X (e::es) t)(hn:x≠"__name__":=by decide)(hdb:(x == ("__debug__":Str))=false:=by decide)
  (he:starEach (e::es) X.env=(false,eval e X.env)::starEach es X.env:=by rfl) (hpl:(backTo pos (starEach es X.env)).any (·.1)=false:=by rfl):PE X (.Call (.Name x p) (e::es) [] pos) (Ht r t):=by
 intro pins s σ H Q I h
 refine wpAny_Call_Name_kw (KH I hg hm hv ?_ hn hdb)
 exact PyProof.Rows.callWith_builtin1 (BL (ha pos pins s σ H _ I h) fun us s1 ⟨vs,H1,I1,r1,q1⟩=>hc pins s1 σ H1 vs us Q I1 r1 q1) he hpl
theorem Pk (hc:Gw X (.type T) r)(hg:Gl X x)(hm:X.mg x=none)(hv:bootBuiltins x=some (.type T))(ha:PA X (e::es) t)(hn:x≠"__name__":=by decide)(hdb:(x == ("__debug__":Str))=false:=by decide)
  (he:starEach (e::es) X.env=(false,eval e X.env)::starEach es X.env:=by rfl) (hpl:(backTo pos (starEach es X.env)).any (·.1)=false:=by rfl):PE X (.Call (.Name x p) (e::es) [] pos) (Ht r t):=by
 intro pins s σ H Q I h
 refine wpAny_Call_Name_kw (KH I hg hm hv ?_ hn hdb)
 exact PyProof.Rows.callWith_type1 (BL (ha pos pins s σ H _ I h) fun us s1 ⟨vs,H1,I1,r1,q1⟩=>hc pins s1 σ H1 vs us Q I1 r1 q1) he hpl
end
end L2
namespace HT
open PySem PyProof.Rows
section
open PySem.SeqAt
open PySem.AutoSeq1 (wpAny_loadPart')
open PySem.MeetsSeq PySem.MeetsSeq2 PySem.MeetsSeq3
end
section
variable {prog:Program}{w:World}{A:Around}{E:Value→Shared→Prop}{s:Shared}
noncomputable def DY (n d:Nat):Option Int→Nat
 | none=>d
 | some v=>if v<0 then (v+(n:Int)).toNat else min v.toNat n
theorem cX (n d k:Nat):DY n d (some (k:Int))=min k n:=by
 show (if (k:Int)<0 then ((k:Int)+(n:Int)).toNat else min (k:Int).toNat n)=min k n
 rw[if_neg (by omega),Int.toNat_natCast]
end
end HT
namespace L2
open PySem PySem.Spec PyProof.Rows
noncomputable abbrev TO:=St→Hp→(Option Int→Hp→Prop)→Prop
noncomputable def PO (X:Cx)(e:Option Expr)(t:TO):Prop :=
 ∀ (pins:List (Addr×Obj)) (s:Shared) (σ:St) (H:Hp) (Q:Option Int→Hp→Prop),Inv X pins σ H s→t σ H Q →
  wpAny (model X.prog X.w) X.A (evalPart e X.env) (fun u s'=>∃ o H',Inv X pins σ H' s'∧IsPart u o∧Q o H') X.xe s
noncomputable def uP:TO:=fun _ H Q=>Q none H
noncomputable def gA (t:TE):TO:=fun σ H Q=>t σ H fun x H1=>∃ i,x=.int i∧Q (some i) H1
section
variable {X:Cx}{e:Expr}{te:TE}{lo hi:Option Expr}{tl th:TO}{pos p2:Pos}
theorem xH:PO X none uP:=by
 intro pins s σ H Q I h
 rw[evalPart_none]
 exact wpAny_pure ⟨none,H,I,.none,h⟩
theorem AFd (h:PE X e te):PO X (some e) (gA te):=by
 intro pins s σ H Q I hw
 rw[evalPart_some]
 refine BL (h pins s σ H _ I hw) fun u s1 ⟨x,H1,I1,r1,q1⟩=>?_
 obtain⟨i,rfl,q⟩:=q1
 obtain⟨t,rfl⟩:=r1
 exact⟨some i,H1,I1,.int i t,q⟩
noncomputable def sV (X:Cx)(r:V→Option Int→Option Int→Hp→VK→Prop):Prop :=
 ∀ (pins:List (Addr×Obj)) (s:Shared) (σ:St) (H:Hp) (x:V) (v vl vu:Value) (lo hi:Option Int) (sl:Addr) (Q:VK),Inv X pins σ H s→RelV x v→s.heap.IsSliceOf sl vl vu .none→IsPart vl lo→IsPart vu hi→r x lo hi H Q →
  ∃ T id,typeLookup (.type T) "__getitem__"=pure (some (.builtin id))∧s.TypeIs v T∧wpAny (model X.prog X.w) X.A (getItem v (.ref sl)) (EP X pins σ Q) X.xe s
noncomputable def eF (r:V→Option Int→Option Int→Hp→VK→Prop)(te:TE)(tl th:TO):TE:=fun σ H Q=>te σ H fun x H1=>tl σ H1 fun l H2=>th σ H2 fun u H3=>r x l u H3 Q
theorem ABJ {r:V→Option Int→Option Int→Hp→VK→Prop}(hr:sV X r)(he:PE X e te)(hl:PO X lo tl)(hu:PO X hi th):PE X (.Subscript e (.Slice lo hi none p2) pos) (eF r te tl th):=by
 intro pins s σ H Q I h
 refine Subscript_ (BL (he pins s σ H _ I h) fun v s1 ⟨x,H1,I1,r1,q1⟩=>?_)
 refine wpAny_Slice (BL (hl pins s1 σ H1 _ I1 q1) fun vl s2 ⟨l,H2,I2,pl,q2⟩=>BL (hu pins s2 σ H2 _ I2 q2) fun vu s3 ⟨u,H3,I3,pu,q3⟩=>?_)
 rw[evalPart_none]
 refine wpAny_pure ?_
 have I4:Inv X pins σ H3 { s3 with heap:=s3.heap.push { cls:=.type "slice",data:=.fields #[vl,vu,.none] } }:=I3.kept (t':=s3.toks) fun b ob q=>Heap.get?_push_of_some _ q
 obtain⟨T,id,hT,ht,hg⟩:=hr pins { s3 with heap:=s3.heap.push { cls:=.type "slice",data:=.fields #[vl,vu,.none] } } σ H3 x v vl vu l u s3.heap.objs.size Q I4 r1 (Heap.IsSliceOf.new ..) pl pu q3
 show wpAny (model X.prog X.w) X.A (subscriptTail e (.Slice lo hi none p2) v (.ref s3.heap.objs.size)) (EP X pins σ Q) X.xe { s3 with heap:=s3.heap.push { cls:=.type "slice",data:=.fields #[vl,vu,.none] } }
 exact tail_any (ops:=[.ref s3.heap.objs.size,v]) ht hT hg (by with_unfolding_all rfl)
noncomputable def Nr (xs:List V)(lo hi:Option Int):List V:=(xs.drop (HT.DY xs.length 0 lo)).take (HT.DY xs.length xs.length hi-HT.DY xs.length 0 lo)
theorem AHF (xs:List V)(lo hi:Option Int):(Nr xs lo hi).length≤xs.length:=by
 unfold Nr
 rw[List.length_take,List.length_drop]
 omega
end
noncomputable def Ei (n:Nat)(i:Int):Option Nat:=if 0≤i then (if i<n then some i.toNat else none) else if -(n:Int)≤i then some (i+n).toNat else none
noncomputable def Bj {α:Type}(xs:List α)(i:Int):Option α:=(Ei xs.length i).bind fun j=>xs[j]?
theorem pY {n:Nat}{i:Int}{j:Nat}(h:Ei n i=some j):seqIndex? i n=some j∧j<n∧-(n:Int)≤i∧i<n:=by
 unfold Ei at h
 by_cases h0:0≤i
 ·rw[if_pos h0] at h
  by_cases h1:i<n
  ·rw[if_pos h1] at h
   have e:i.toNat=j:=Option.some.inj h
   exact⟨by rw[seqIndex_of h0 h1,e],by omega,by omega,h1⟩
  ·rw[if_neg h1] at h;cases h
 ·rw[if_neg h0] at h
  by_cases h1:-(n:Int)≤i
  ·rw[if_pos h1] at h
   have e:(i+n).toNat=j:=Option.some.inj h
   exact⟨by rw[seqIndex_neg (by omega) h1,e],by omega,h1,by omega⟩
  ·rw[if_neg h1] at h;cases h
theorem Yp {α:Type}{xs:List α}{i:Int}{v:α}(h:Bj xs i=some v):∃ j,seqIndex? i xs.length=some j∧xs[j]?=some v∧j<xs.length∧-(xs.length:Int)≤i∧i<xs.length:=by
 unfold Bj at h
 cases e:Ei xs.length i with
 | none=>rw[e] at h;cases h
 | some j =>
  rw[e] at h
  obtain⟨h1,h2,h3,h4⟩:=pY e
  exact⟨j,h1,h,h2,h3,h4⟩
theorem iD {α:Type}{xs:List α}{j:Nat}{v:α}(h:xs[j]?=some v):Bj xs (j:Int)=some v:=by
 have hj:j<xs.length:=(List.getElem?_eq_some_iff.mp h).1
 have e:Ei xs.length (j:Int)=some j:=by
  unfold Ei
  rw[if_pos (by omega),if_pos (by omega)];simp
 unfold Bj;rw[e];exact h
noncomputable def Kp (b:Expr):Prop:=∀ o i,subscripted b false o i=operate [o,i] (getItem o i)
noncomputable def Ju (X:Cx)(r:R2):Prop :=
 ∀ (value slice:Expr) (pins:List (Addr×Obj)) (s:Shared) (σ:St) (H:Hp) (x y:V) (v u:Value) (Q:VK),Inv X pins σ H s→RelV x v→RelV y u→r x y H Q →
  subscripted slice false v u=operate [v,u] (getItem v u)→wpAny (model X.prog X.w) X.A (subscriptTail value slice v u) (EP X pins σ Q) X.xe s
noncomputable def Om (X:Cx)(id:String)(r:V→List V→Hp→VK→Prop):Prop :=
 ∀ (pins:List (Addr×Obj)) (s:Shared) (σ:St) (H:Hp) (x:V) (xs:List V) (v:Value) (us:List Value) (Q:VK),Inv X pins σ H s→RelV x v→Vals xs us→r x xs H Q →
  wpAny (model X.prog X.w) X.A (call (.builtin id) (v::us)) (EP X pins σ Q) X.xe s
section
variable {X:Cx}{a b:Expr}{ta tb:TE}{pos:Pos}
theorem Ju.or {r r':R2}(h:Ju X r)(h':Ju X r'):Ju X (fun x y H Q=>r x y H Q∨r' x y H Q):=by
 intro value slice pins s σ H x y v u Q I rx ry q hs
 rcases q with q | q
 ·exact h value slice pins s σ H x y v u Q I rx ry q hs
 ·exact h' value slice pins s σ H x y v u Q I rx ry q hs
theorem Qd {r:R2}(hr:Ju X r)(ha:PE X a ta)(hb:PE X b tb)(hs:Kp b):PE X (.Subscript a b pos) (Fq r ta tb):=by
 intro pins s σ H Q I h
 exact Subscript_ (Vv ha hb I h fun v u s2 x y H2 I2 rx ry q=>hr a b pins s2 σ H2 x y v u Q I2 rx ry q (hs _ _))
noncomputable def iY (K:Frag):R2:=fun x y H Q=>∃ p xs i v,x=.ref p∧y=.int i∧BP K H p xs∧Bj xs i=some v∧Q v H
noncomputable def dO (K:Frag):R2:=fun x y H Q=>∃ p xs i v,x=.ref p∧y=.int i∧Ds K H p xs∧Bj xs i=some v∧Q v H
noncomputable def pN:R2:=fun x y H Q=>∃ z i c,x=.str z∧y=.int i∧z.length≤sizeLine∧Bj z.cps.toList i=some c∧Q (.str ⟨#[c]⟩) H
theorem zF:Ju X (iY X.K):=by
 intro value slice pins s σ H x y v u Q I rx ry h hs
 obtain⟨p,xs,i,z,rfl,rfl,hq,he,q⟩:=h
 cases rx
 obtain⟨t,rfl⟩:=ry
 obtain⟨its,r,pl,hz⟩:=I.list hq
 obtain⟨j,h1,h2,h3,h4,h5⟩:=Yp he
 obtain⟨w,ew,rw'⟩:=r.get h2
 have hl:=r.length
 have hn:=QT
 have fin:EP X pins σ Q w s:=⟨z,H,I,rw',q⟩
 by_cases h0:0≤i
 ·have hj:i.toNat=j:=by
   rw[seqIndex_of h0 h5] at h1
   exact Option.some.inj h1
  exact item_listR pl.isList h0 (by omega) (by rw[hj];simpa using ew) fin hs
 ·have hj:(i+(its.toArray.size:Int)).toNat=j:=by
   rw[seqIndex_neg (by omega) h4] at h1
   rw[List.size_toArray,← hl]
   exact Option.some.inj h1
  exact subscriptTail_builtinR (x:=w) pl.isList.typeIs slot_list_getitem.lookup
   (wpAny_getItem_list_neg (Q:=fun r s'=>r=w∧EP X pins σ Q r s') pl.isList (by omega) (by rw[List.size_toArray]<;>omega) (by omega) (by rw[hj];simpa using ew) ⟨rfl,fin⟩) hs
theorem AFZ:Ju X (dO X.K):=by
 intro value slice pins s σ H x y v u Q I rx ry h hs
 obtain⟨p,xs,i,z,rfl,rfl,hq,he,q⟩:=h
 cases rx
 obtain⟨t,rfl⟩:=ry
 obtain⟨its,r,pl,hz⟩:=I.tuple hq
 obtain⟨j,h1,h2,h3,h4,h5⟩:=Yp he
 obtain⟨w,ew,rw'⟩:=r.get h2
 have hl:=r.length
 have hn:=QT
 have fin:EP X pins σ Q w s:=⟨z,H,I,rw',q⟩
 exact subscriptTail_builtinR (x:=w) pl.typeIs slot_tuple_getitem.lookup
  (getItem_tuple (j:=j) (Q:=fun r s'=>r=w∧EP X pins σ Q r s') pl (by omega) (by omega) (by rw[List.size_toArray,← hl];exact h1) (by simpa using ew) ⟨rfl,fin⟩) hs
theorem zB:Ju X pN:=by
 intro value slice pins s σ H x y v u Q I rx ry h hs
 obtain⟨z,i,c,rfl,rfl,hz,he,q⟩:=h
 obtain⟨t,rfl⟩:=rx
 obtain⟨t',rfl⟩:=ry
 obtain⟨j,h1,h2,h3,h4,h5⟩:=Yp he
 have hl:z.cps.toList.length=z.length:=by simp [Str.length]
 rw[hl] at h1 h4 h5
 have hn:=QT
 exact tail_any (typeIs_str s z t) slot_str_getitem.lookup (getItem_str (c:=c) (by
  have e1:decide (i < -(2 ^ 63:Int))=false:=decide_eq_false (by omega)
  have e2:decide (i ≥ 2 ^ 63)=false:=decide_eq_false (by omega)
  rw[e1,e2,Bool.or_false]) (by rw[h1];simpa using h2) ⟨.str ⟨#[c]⟩,H,I.tok _,⟨_,rfl⟩,q⟩) hs
noncomputable def Ik (K:Frag):R2:=fun x y H Q=>iY K x y H Q∨dO K x y H Q∨pN x y H Q
theorem QG:Ju X (Ik X.K):=zF.or (AFZ.or zB)
theorem AAk (its:List Value)(n j:Nat)(u:Value):Obj.mapSeq (·.setIfInBounds j u) { cls:=.type "list",data:=.seq its.toArray n }={ cls:=.type "list",data:=.seq (its.set j u).toArray n }:=by
 simp [Obj.mapSeq]
theorem Inv.lst {pins:List (Addr×Obj)}{σ:St}{H:Hp}{s:Shared}{p:Addr}{xs:List V}(I:Inv X pins σ H s)(h:H p=some (.lst xs)) :
  ∃ (its:List Value) (n:Nat),Vals xs its∧s.heap.get? p=some { cls:=.type "list",data:=.seq its.toArray n }∧xs.length≤sizeLine:=by
 obtain⟨z,its,n,r,e⟩:=I.hok p _ h
 exact⟨its,n,r,e,z⟩
theorem Inv.AGO {pins:List (Addr×Obj)}{σ:St}{H:Hp}{s:Shared}{p:Addr}{xs ys:List V}{its its':List Value}{n n':Nat}{f:Obj→Obj}(I:Inv X pins σ H s)(h:H p=some (.lst xs))(ho:s.heap.get? p=some { cls:=.type "list",data:=.seq its.toArray n })(hf:f { cls:=.type "list",data:=.seq its.toArray n }={ cls:=.type "list",data:=.seq its'.toArray n' })(r:Vals ys its')(hz:ys.length≤sizeLine)(t:Nat) :
  Inv X pins σ (upd H p (.lst ys)) { s with heap:=s.heap.update p f,toks:=t }:=by
 have e:(s.heap.update p f).get? p=some { cls:=.type "list",data:=.seq its'.toArray n' }:=by
  rw[Heap.get?_update_self f ho (by rw[hf]<;>rfl),hf]
 refine I.write (x:=p) (e:=p) (by rw[h];trivial) (.inl rfl) (fun b u hb q=>(Heap.get?_update_other _ _ (Ne.symm hb)).trans q) ⟨_,e⟩ ?_
 exact⟨hz,its',n',r,e⟩
noncomputable def Ip:V→V→V→Hp→(Hp→Prop)→Prop:=fun o i v H Q=>∃ p xs k j,o=.ref p∧i=.int k∧H p=some (.lst xs)∧Ei xs.length k=some j∧Q (upd H p (.lst (xs.set j v)))
theorem set_list:tK X Ip:=by
 intro pins s σ H o i v ov iv u Q I ro ri rv h
 obtain⟨p,xs,k,j,rfl,rfl,hp,hj,q⟩:=h
 cases ro
 obtain⟨t,rfl⟩:=ri
 obtain⟨its,n,r,ho,hz⟩:=I.lst hp
 obtain⟨h1,h2,h3,h4⟩:=pY hj
 have hl:=r.length
 have hn:=QT
 have I':Inv X pins σ (upd H p (.lst (xs.set j v))) { s with heap:=s.heap.update p (Obj.mapSeq (·.setIfInBounds j u)) } :=
  I.AGO hp ho (AAk its n j u) (r.set rv j) (by rw[List.length_set];exact hz) s.toks
 by_cases h0:0≤k
 ·have hk:k.toNat=j:=by
   rw[seqIndex_of h0 h4] at h1
   exact Option.some.inj h1
  exact PySem.W.ki_setAt ho h0 (by omega) (by rw[List.size_toArray,← hl];exact h4) (by rw[hk];exact⟨_,I',q⟩)
 ·have hk:(k+(its.toArray.size:Int)).toNat=j:=by
   rw[seqIndex_neg (by omega) h3] at h1
   rw[List.size_toArray,← hl]
   exact Option.some.inj h1
  exact PySem.W.ki_setBack ho (by omega) (by rw[List.size_toArray,← hl];exact h3) (by omega) (by rw[hk];exact⟨_,I',q⟩)
theorem wL (lo hi:Option Int)(n:Nat):(sliceBounds lo hi none n).1=((HT.DY n 0 lo:Nat):Int)∧(sliceBounds lo hi none n).2.1=((HT.DY n n hi:Nat):Int)∧(sliceBounds lo hi none n).2.2=1:=by
 refine⟨?_,?_,rfl⟩
 ·cases lo with
  | none=>simp [sliceBounds,HT.DY]
  | some i =>
   simp only[sliceBounds,HT.DY,Option.getD_none,show (1:Int) > 0 by decide,if_true]
   by_cases h:i<0
   ·simp only[h,if_true]<;>omega
   ·simp only[h,if_false]<;>omega
 ·cases hi with
  | none=>simp [sliceBounds,HT.DY]
  | some i =>
   simp only[sliceBounds,HT.DY,Option.getD_none,show (1:Int) > 0 by decide,if_true]
   by_cases h:i<0
   ·simp only[h,if_true]<;>omega
   ·simp only[h,if_false]<;>omega
theorem AG6 (its:List Value)(lo hi:Option Int):slicePick its.toArray lo hi none=((its.drop (HT.DY its.length 0 lo)).take (HT.DY its.length its.length hi-HT.DY its.length 0 lo)).toArray:=by
 obtain⟨h1,h2,h3⟩:=wL lo hi its.toArray.size
 unfold slicePick
 rw[h1,h2,h3]
 simp only[sliceRange_one,pick_run,List.size_toArray]<;>rfl
noncomputable def mR (K:Frag):V→Option Int→Option Int→Hp→VK→Prop:=fun x lo hi H Q=>∃ a xs,x=.ref a∧BP K H a xs∧∀ p,H p=none→Q (.ref p) (upd H p (.lst (Nr xs lo hi)))
theorem AHE:sV X (mR X.K):=by
 intro pins s σ H x v vl vu lo hi sl Q I rx hs pl pu h
 obtain⟨a,xs,rfl,hx,q⟩:=h
 cases rx
 obtain⟨its,r,ht,hz⟩:=I.list hx
 have hlen:=r.length
 refine⟨"list",_,slot_list_getitem.lookup,ht.isList.typeIs,?_⟩
 refine wpAny_getItem_list_slice ht.isList hs pl pu .none (by simp) ?_ (by rw[List.size_toArray]<;>omega)
 rw[AG6,← hlen]
 refine⟨.ref s.heap.objs.size,_,I.laid (t':=s.toks) (o:=.lst (Nr xs lo hi)) (fun b ob q=>Heap.get?_push_of_some _ q) (Nat.le_refl _) ?_,rfl,q _ (I.hok.fresh (Nat.le_refl _))⟩
 exact⟨Nat.le_trans (AHF xs lo hi) hz,_,0,(r.drop (HT.DY xs.length 0 lo)).take (HT.DY xs.length xs.length hi-HT.DY xs.length 0 lo),Heap.get?_push_size _ rfl⟩
noncomputable def Jg:V→Bool
 | .non=>true
 | .bl _=>true
 | .int _=>true
 | .str _=>true
 | _=>false
noncomputable def Kc:V→V→Bool
 | .non,.non=>true
 | .bl a,.bl b=>a == b
 | .bl a,.int b=>(if a then 1 else 0) == b
 | .int a,.bl b=>a == (if b then 1 else 0)
 | .int a,.int b=>a == b
 | .str a,.str b=>a == b
 | _,_=>false
theorem zH {A:Around}{s:Shared}{y x:V}{u v:Value}(ry:RelV y u)(rx:RelV x v)(fy:Jg y=true)(fx:Jg x=true):SeqAt.EqAt A s u v (Kc y x):=by
 cases y with
 | non =>
  cases ry
  cases x with
  | non=>cases rx;exact SeqAt.EqAt.same _
  | bl b=>cases rx;exact SeqAt.EqAt.none_bool b
  | int b=>obtain⟨t,rfl⟩:=rx;exact SeqAt.EqAt.none_int b t
  | str b=>obtain⟨t,rfl⟩:=rx;exact SeqAt.EqAt.none_str b t
  | _=>exact absurd (show false=true from fx) Bool.false_ne_true
 | bl a =>
  cases ry
  cases x with
  | non=>cases rx;exact SeqAt.EqAt.bool_none a
  | bl b=>cases rx;exact SeqAt.EqAt.bool_bool a b
  | int b=>obtain⟨t,rfl⟩:=rx;exact SeqAt.EqAt.bool_int a b t
  | str b=>obtain⟨t,rfl⟩:=rx;exact SeqAt.EqAt.bool_str a b t
  | _=>exact absurd (show false=true from fx) Bool.false_ne_true
 | int a =>
  obtain⟨t',rfl⟩:=ry
  cases x with
  | non=>cases rx;exact SeqAt.EqAt.int_none a t'
  | bl b=>cases rx;exact SeqAt.EqAt.int_bool a t' b
  | int b=>obtain⟨t,rfl⟩:=rx;exact SeqAt.EqAt.int_int a t' b t
  | str b=>obtain⟨t,rfl⟩:=rx;exact SeqAt.EqAt.int_str a t' b t
  | _=>exact absurd (show false=true from fx) Bool.false_ne_true
 | str a =>
  obtain⟨t',rfl⟩:=ry
  cases x with
  | non=>cases rx;exact SeqAt.EqAt.str_none a t'
  | bl b=>cases rx;exact SeqAt.EqAt.str_bool a t' b
  | int b=>obtain⟨t,rfl⟩:=rx;exact SeqAt.EqAt.str_int a t' b t
  | str b=>obtain⟨t,rfl⟩:=rx;exact SeqAt.EqAt.str_str a t' b t
  | _=>exact absurd (show false=true from fx) Bool.false_ne_true
 | _=>exact absurd (show false=true from fy) Bool.false_ne_true
noncomputable def Jz (x:V)(u:Value):Bool:=match u with
 | .none=>Kc .non x
 | .bool b=>Kc (.bl b) x
 | .int i _=>Kc (.int i) x
 | .str z _=>Kc (.str z) x
 | _=>false
theorem vB {x y:V}{u:Value}(r:RelV y u)(f:Jg y=true):Jz x u=Kc y x:=by
 cases y with
 | non=>cases r;rfl
 | bl b=>cases r;rfl
 | int i=>obtain⟨t,rfl⟩:=r;rfl
 | str z=>obtain⟨t,rfl⟩:=r;rfl
 | _=>exact absurd (show false=true from f) Bool.false_ne_true
theorem XC {x:V}:∀ {xs:List V}{us:List Value},Vals xs us→xs.all Jg=true→us.any (Jz x)=xs.any fun y=>Kc y x
 | _,_,.nil,_=>rfl
 | y::xs,u::us,.cons r t,f=>by
  rw[List.all_cons,Bool.and_eq_true] at f
  rw[List.any_cons,List.any_cons,vB r f.1,XC t f.2]
theorem YB {A:Around}{s:Shared}{x:V}{v:Value}(rx:RelV x v)(fx:Jg x=true):∀ {xs:List V}{us:List Value},Vals xs us→xs.all Jg=true→∀ u∈us,SeqAt.EqAt A s u v (Jz x u)
 | _,_,.nil,_=>fun u hu=>by cases hu
 | y::xs,u::us,.cons r t,f=>fun u' hu=>by
  rw[List.all_cons,Bool.and_eq_true] at f
  rcases List.mem_cons.mp hu with rfl | hu
  ·rw[vB r f.1];exact zH r rx f.1 fx
  ·exact YB rx fx t f.2 u' hu
noncomputable def RG (x:V)(xs:List V):Bool:=xs.any fun y=>Kc y x
noncomputable def Xk (K:Frag)(neg:Bool):R2:=fun x y H Q=>∃ p xs,y=.ref p∧(BP K H p xs∨Ds K H p xs)∧Jg x=true∧xs.all Jg=true∧Q (.bl (if neg then !RG x xs else RG x xs)) H
theorem AIg:EY X (compareOp .In) (Xk X.K false):=by
 intro pins s σ H x y v u Q I rx ry h
 obtain⟨p,xs,rfl,hq,fx,fs,q⟩:=h
 cases ry
 rcases hq with hq | hq
 ·obtain⟨its,r,pl,hz⟩:=I.list hq
  refine SeqAt.in_listAt (Jz x) pl.isList (fun w hw=>YB rx fx r fs w (by simpa using hw)) ⟨.bl _,H,I,rfl,?_⟩
  rw[show its.toArray.any (Jz x)=its.any (Jz x) by simp,XC r fs]
  exact q
 ·obtain⟨its,r,pl,hz⟩:=I.tuple hq
  refine SeqAt.in_tupleAt (Jz x) pl (fun w hw=>YB rx fx r fs w (by simpa using hw)) ⟨.bl _,H,I,rfl,?_⟩
  rw[show its.toArray.any (Jz x)=its.any (Jz x) by simp,XC r fs]
  exact q
theorem wM:Gw X (.builtin "len") (fun xs H Q=>∃ p ys,xs=[.ref p]∧(BP X.K H p ys∨Ds X.K H p ys)∧Q (.int ys.length) H):=by
 intro pins s σ H xs us Q I r h
 obtain⟨p,ys,rfl,hq,q⟩:=h
 obtain⟨u,rfl,rx⟩:=vals1 r
 cases rx
 have hn:=QT
 rcases hq with hq | hq
 ·obtain⟨its,r',pl,hz⟩:=I.list hq
  have hlen:=r'.length
  exact Calls.call_len_list pl.isList (by simp only[List.size_toArray]<;>omega) ⟨.int ys.length,H,I.tok _,⟨s.toks+1,by rw[List.size_toArray,hlen]⟩,q⟩
 ·obtain⟨its,r',pl,hz⟩:=I.tuple hq
  have hlen:=r'.length
  exact len_tuple pl (by simp only[List.size_toArray]<;>omega) ⟨.int ys.length,H,I.tok _,⟨s.toks+1,by rw[List.size_toArray,hlen]⟩,q⟩
theorem ABp:Gw X (.type "list") (fun xs H Q=>∃ p ys,xs=[.ref p]∧(BP X.K H p ys∨Ds X.K H p ys)∧∀ l,H l=none→Q (.ref l) (upd H l (.lst ys))):=by
 intro pins s σ H xs us Q I r h
 obtain⟨p,ys,rfl,hq,q⟩:=h
 obtain⟨u,rfl,rx⟩:=vals1 r
 cases rx
 have fin:∀ (its:List Value),Vals ys its→ys.length≤sizeLine→∀ (h':Heap) (c':Nat),(∀ b o',s.heap.get? b=some o'→h'.get? b=some o') →
   h'.get? s.heap.objs.size=some { cls:=.type "list",dict:=none,data:=.seq its.toArray c',slots:=#[] }→EP X pins σ Q (.ref s.heap.objs.size) { s with heap:=h' }:=fun its r' hz h' c' kp e =>
  ⟨.ref s.heap.objs.size,_,I.laid (t':=s.toks) kp (Nat.le_refl _) (show Ej X.prog X.w _ h' _ (.lst ys) from ⟨hz,its,c',r',e⟩),rfl,q _ (I.hok.fresh (Nat.le_refl _))⟩
 rcases hq with hq | hq
 ·obtain⟨its,r',pl,hz⟩:=I.list hq
  have hlen:=r'.length
  obtain⟨o,ho,hc,n,hd⟩:=pl.isList
  exact call_list_seq p (.inl rfl) ho hc hd (fun h' c' kp e=>fin its r' hz h' c' kp e) (by simp only[List.size_toArray]<;>omega)
 ·obtain⟨its,r',pl,hz⟩:=I.tuple hq
  have hlen:=r'.length
  obtain⟨o,ho,hc,n,hd⟩:=pl
  exact call_list_seq p (.inr rfl) ho hc hd (fun h' c' kp e=>fin its r' hz h' c' kp e) (by simp only[List.size_toArray]<;>omega)
noncomputable def W5 (K:Frag)(T:String)(x:V)(H:Hp):Prop:=match x with
 | .str _=>T = "str"
 | .int _=>T = "int"
 | .ref p=>(T = "list"∧∃ xs,BP K H p xs)∨(T = "tuple"∧∃ o,K.lookup p=some o∧o.cls=.type "tuple"∧o.dict=none) ∨
   (T = "dict"∧((∃ kvs,H p=some (.dK kvs))∨∃ kvs,H p=some (.dT kvs)))∨(T = "set"∧∃ S n,H p=some (.set S n))
 | _=>False
theorem cG {pins:List (Addr×Obj)}{σ:St}{H:Hp}{s:Shared}{T:String}{x:V}{v:Value}(I:Inv X pins σ H s)(r:RelV x v)(ty:W5 X.K T x H) :
  s.TypeIs v T∧∀ a,v=.ref a→∃ ob,s.heap.get? a=some ob∧ob.dict=none:=by
 cases x with
 | str z =>
  obtain⟨t,rfl⟩:=r
  cases (show T = "str" from ty)
  exact⟨typeIs_str s z t,fun _ e=>nomatch e⟩
 | int i =>
  obtain⟨t,rfl⟩:=r
  cases (show T = "int" from ty)
  exact⟨typeIs_int s i t,fun _ e=>nomatch e⟩
 | ref p =>
  cases r
  rcases ty with⟨rfl,xs,hq⟩ | ⟨rfl,o,hk,hc,hd⟩ | ⟨rfl,hk⟩ | ⟨rfl,S,n,hk⟩
  ·obtain⟨its,_,pl,_⟩:=I.list hq
   refine⟨pl.isList.typeIs,fun a e=>?_⟩
   cases e
   obtain⟨o,n,e,c,hd,_⟩:=pl
   exact⟨o,e,hd⟩
  ·refine⟨⟨o,I.NT p o hk,hc⟩,fun a e=>?_⟩
   cases e
   exact⟨o,I.NT _ o hk,hd⟩
  ·have z:∃ o,s.heap.get? p=some o∧o.ExactDict:=by
    rcases hk with⟨kvs,hk⟩ | ⟨kvs,hk⟩
    ·obtain⟨_,_,_,_,o,_,_,e,ex,_⟩:=I.hok p _ hk
     exact⟨o,e,ex⟩
    ·obtain⟨_,_,_,_,o,_,_,e,ex,_⟩:=I.hok p _ hk
     exact⟨o,e,ex⟩
   obtain⟨o,e,ex⟩:=z
   refine⟨⟨o,e,ex.1⟩,fun a e2=>?_⟩
   cases e2
   exact⟨o,e,ex.2.1⟩
  ·obtain⟨o,_,_,_,e,ex,_⟩:=I.hok p _ hk
   refine⟨⟨o,e,ex.1⟩,fun a e2=>?_⟩
   cases e2
   exact⟨o,e,ex.2.1⟩
 | _=>exact False.elim ty
noncomputable def Vw (K:Frag)(T:String)(r:V→List V→Hp→VK→Prop)(to:TE):TE:=fun σ H Q=>to σ H fun x H1=>W5 K T x H1∧r x [] H1 Q
noncomputable def Ka (K:Frag)(T:String)(r:V→List V→Hp→VK→Prop)(to:TE)(t:TA):TE:=fun σ H Q=>to σ H fun x H1=>W5 K T x H1∧t σ H1 fun xs H2=>r x xs H2 Q
variable {o e:Expr}{es:List Expr}{to:TE}{t:TA}{name:Str}{apos cpos:Pos}{T id:String}{r:V→List V→Hp→VK→Prop}
theorem AAr (pa:PlainAttrs T)(slot:Slot T name id)(hty:typeOf (.builtin id)=pure (.type "method_descriptor"))(hm:Om X id r)(ho:PE X o to)(hbase:attributeBase o name X.env (eval o X.env)=eval o X.env:=by rfl)(hline:(apos.endLine == cpos.line)=true:=by rfl):PE X (.Call (.Attribute o name apos) [] [] cpos) (Vw X.K T r to):=by
 intro pins s σ H Q I h
 refine wpAny_Call_method0_late hbase hline (BL (ho pins s σ H _ I h) fun v s1 ⟨x,H1,I1,r1,ty,q1⟩=>?_)
 obtain⟨h1,h2⟩:=cG I1 r1 ty
 exact⟨T,id,pa,slot,hty,h1,h2,Calls.callWith_builtin rfl (PySem.evalArgs_none (hm pins s1 σ H1 x [] v [] Q I1 r1 .nil q1))⟩
theorem Qn (pa:PlainAttrs T)(slot:Slot T name id)(hty:typeOf (.builtin id)=pure (.type "method_descriptor"))(hm:Om X id r)(ho:PE X o to)(ha:PA X (e::es) t)(hbase:attributeBase o name X.env (eval o X.env)=eval o X.env:=by rfl) (hfew:((backTo cpos (starEach (e::es) X.env)).all (fun x=>!x.1) && (backToKw cpos (keywordEach [] X.env)).all (fun x=>x.1.isSome)
   && decide ((e::es).length+([]:List Keyword).length+(if ([]:List Keyword).isEmpty then 0 else 1)<30))=true:=by rfl)
  (hline:(apos.endLine == cpos.line)=true:=by rfl) (hs:starEach (e::es) X.env=(false,eval e X.env)::starEach es X.env:=by rfl) (hplain:(backTo cpos (starEach es X.env)).any (·.1)=false:=by rfl) :
  PE X (.Call (.Attribute o name apos) (e::es) [] cpos) (Ka X.K T r to t):=by
 intro pins s σ H Q I h
 refine wpAny_Call_method_late hbase hfew hline rfl (BL (ho pins s σ H _ I h) fun v s1 ⟨x,H1,I1,r1,ty,q1⟩=>?_)
 obtain⟨h1,h2⟩:=cG I1 r1 ty
 refine⟨T,id,pa,slot,hty,h1,h2,?_⟩
 have hA:=ha cpos pins s1 σ H1 _ I1 q1
 rw[hs] at hA ⊢
 refine Calls.callWith_builtin (by show (false || (backTo cpos (starEach es X.env)).any (·.1))=false;rw[hplain]<;>rfl) (Calls.evalArgs_plain ?_)
 exact BL hA fun us s2 ⟨vs,H2,I2,r2,q2⟩=>hm pins s2 σ H2 x vs v us Q I2 r1 r2 q2
end
noncomputable def uA (X:Cx)(id:String)(r:V→List V→Hp→VK→Prop):Prop :=
 ∀ (pins:List (Addr×Obj)) (s:Shared) (σ:St) (H:Hp) (x:V) (xs:List V) (v:Value) (us:List Value) (Q:VK),Inv X pins σ H s→RelV x v→Vals xs us→r x xs H Q →
  wpAny (model X.prog X.w) X.A (call (.builtin id) (v::us)) (EP X pins σ Q) X.xe s
theorem Vals.one:∀ {x:V}{us:List Value},Vals [x] us→∃ u,us=[u]∧RelV x u
 | _,_,.cons r .nil=>⟨_,rfl,r⟩
theorem Vals.eraseIdx:∀ {xs:List V}{us:List Value} (i:Nat),Vals xs us→Vals (xs.eraseIdx i) (us.eraseIdx i)
 | _,_,_,.nil=>.nil
 | _,_,0,.cons _ t=>t
 | _,_,i+1,.cons r t=>.cons r (Vals.eraseIdx i t)
theorem qN {α:Type}:∀ (l:List α) (i:Nat),(l.eraseIdx i).length≤l.length
 | [],_=>Nat.le_refl _
 | _::_,0=>Nat.le_succ _
 | _::r,i+1=>Nat.succ_le_succ (qN r i)
section
variable {X:Cx}{pins:List (Addr×Obj)}{σ:St}{H:Hp}{s:Shared}{l b:Addr}{xs ys zs:List V}
theorem Inv.Mf {its its':List Value}{n:Nat}{f:Array Value→Array Value}{t':Nat}(I:Inv X pins σ H s)(hH:H l=some (.lst xs))(e:s.heap.get? l=some { cls:=.type "list",data:=.seq its.toArray n })(hf:f its.toArray=its'.toArray)(hv:Vals ys its')(hz:ys.length≤sizeLine) :
  Inv X pins σ (upd H l (.lst ys)) { s with heap:=s.heap.update l (Obj.mapSeq f),toks:=t' }:=by
 have q:=PySem.IsL.update e f
 rw[hf] at q
 refine I.write (x:=l) (e:=l) (by rw[hH];exact trivial) (.inl rfl) (fun b' u hb hu=>(Heap.get?_update_other s.heap (Obj.mapSeq f) (Ne.symm hb)).trans hu) ⟨_,q⟩ ?_
 exact⟨hz,its',_,hv,q⟩
theorem Inv.Wn {its:List Value}{t':Nat}(I:Inv X pins σ H s)(hv:Vals ys its)(hz:ys.length≤sizeLine) :
  Inv X pins σ (upd H s.heap.objs.size (.lst ys)) { s with heap:=s.heap.push { cls:=.type "list",data:=.seq its.toArray },toks:=t' } :=
 I.laid (fun _ _ q=>Heap.get?_push_of_some _ q) (Nat.le_refl _) ⟨hz,its,0,hv,Heap.get?_push_size _ rfl⟩
theorem Inv.fresh (I:Inv X pins σ H s):H s.heap.objs.size=none:=I.hok.fresh (Nat.le_refl _)
theorem Inv.La (I:Inv X pins σ H s)(hH:H l=some (.lst xs)):xs.length≤sizeLine∧∃ (its:List Value) (n:Nat),Vals xs its∧xs.length=its.length∧s.heap.get? l=some { cls:=.type "list",data:=.seq its.toArray n }:=by
 obtain⟨z,its,n,r,e⟩:=I.hok l _ hH
 exact⟨z,its,n,r,r.length,e⟩
theorem ADj {n:Nat}(h:n≤sizeLine):Builtin.List.listTooLong n=false:=by
 unfold Builtin.List.listTooLong
 exact decide_eq_false (by omega)
end
section
variable {X:Cx}
noncomputable def bM:V→List V→Hp→VK→Prop:=fun x vs H Q=>∃ l xs y,x=.ref l∧vs=[y]∧H l=some (.lst xs)∧xs.length<sizeLine∧Q .non (upd H l (.lst (xs++[y])))
theorem sJ:uA X "list.append" bM:=by
 intro pins s σ H x vs v us Q I rx rv h
 obtain⟨l,xs,y,rfl,rfl,hH,hz,q⟩:=h
 cases rx
 obtain⟨u,rfl,ru⟩:=rv.one
 obtain⟨z,its,n,r,hl,e⟩:=I.La hH
 refine call_meets F.slot_list_append ⟨_,e,rfl⟩ F.entry_list_append (F.args_list_append_2 _ _) (PySem.list_append l its.toArray n u (by rw[List.size_toArray];omega)) ⟨e,?_⟩
 refine⟨.non,_,I.Mf (its':=its++[u]) hH e (by simp) (r.append (.cons ru .nil)) ?_,rfl,q⟩
 rw[List.length_append,List.length_singleton]
 omega
noncomputable def bY:V→List V→Hp→VK→Prop:=fun x vs H Q=>∃ l xs i k y,x=.ref l∧vs=[.int i]∧H l=some (.lst xs)∧-(2 ^ 63)≤i∧i<2 ^ 63∧seqIndex? i xs.length=some k∧xs[k]?=some y∧Q y (upd H l (.lst (xs.eraseIdx k)))
theorem qM:uA X "list.pop" bY:=by
 intro pins s σ H x vs v us Q I rx rv h
 obtain⟨l,xs,i,k,y,rfl,rfl,hH,h1,h2,hk,hy,q⟩:=h
 cases rx
 obtain⟨u,rfl,ru⟩:=rv.one
 obtain⟨t,rfl⟩:=ru
 obtain⟨z,its,n,r,hl,e⟩:=I.La hH
 obtain⟨w,hw,rw'⟩:=r.get hy
 refine call_meets F.slot_list_pop ⟨_,e,rfl⟩ F.entry_list_pop (F.args_list_pop_2 _ _)
  (MeetsSeq.list_pop_at l its.toArray n i t k w (fitsIndex_both h1 h2) (by rw[List.size_toArray,← hl];exact hk) (by rw[← Array.getElem?_toList];exact hw) (by rw[List.size_toArray];omega)) ⟨e,?_⟩
 refine⟨y,_,I.Mf (its':=its.eraseIdx k) hH e ?_ (r.eraseIdx k) ?_,rw',q⟩
 ·show its.toArray.eraseIdxIfInBounds k=(its.eraseIdx k).toArray
  rw[List.eraseIdxIfInBounds_toArray]
 ·have:=qN xs k
  omega
end
section
variable {prog:Program}{w:World}{A:Around}{E:Value→Shared→Prop}{s:Shared}
set_option maxRecDepth 100000 in
end
end L2
namespace Att
open PySem PySem.W PySem.Calls PyProof.Rows
theorem AIp {P:Params}{h:Heap}:∀ (ns:List Int) (vs:List Value),WellAll P h vs (ns.map WData.int)→IntsAre vs ns:=by
 intro ns
 induction ns with
 | nil =>
  intro vs w
  rw[List.map_nil] at w
  cases w
  exact .nil
 | cons n ns ih =>
  intro vs w
  rw[List.map_cons] at w
  cases w with
  | cons a b =>
   cases a
   exact .cons _ _ (ih _ b)
theorem zW {l:OpenLaw}{n:Nat}(hn:l.most=some n){P:Params}{h:Heap}{args:List WData}{vals:List Value}(hpre:l.row.toRowW.claim.pre args=true)(hwl:WellAll P h vals args) :
  ∃ a vs ns,vals=[Value.ref a]∧args=[WData.list (ns.map WData.int)]∧h.get? a=some { cls:=.type "list",data:=.seq vs.toArray }∧IntsAre vs ns∧ns.length≤n:=by
 have hsh:WShape.hasAll [] args [.list .int]=true:=(pre_splitW hpre).1
 have hc:l.pre.holds [] { args:=args }=true:=(pre_splitW hpre).2
 obtain⟨d,r,rfl,h1,h2⟩:=hasAllW_cons hsh
 obtain rfl:=hasAllW_nil h2
 obtain⟨xs,rfl,h3⟩:=hasW_list h1
 obtain⟨ns,rfl⟩:=items_int h3
 have hlen:ns.length≤n:=by
  unfold OpenLaw.pre at hc
  have h4:(WTm.not (.lt (.lit (.int (n:Int))) (.len (.arg 0)))).holds [] { args:=[.list (ns.map .int)] }=true:=by
   have h4:=(holds_andW hc).1
   rw[hn] at h4
   exact h4
  have h5:=condW_of h4 (w_not (w_lt w_lit (w_len_list (w_arg rfl))))
  rw[List.length_map] at h5
  refine Nat.le_of_not_lt fun q=>?_
  have q':(n:Int)<((ns.length:Nat):Int):=by omega
  first
   | (rw[decide_eq_true q'] at h5;exact absurd h5 (by decide))
   | (simp at h5;omega)
 cases hwl with
 | cons w1 w2 =>
  cases w2
  cases w1 with
  | list ho hall=>exact⟨_,_,ns,rfl,rfl,ho,AIp ns _ hall,hlen⟩
theorem AIZ (l:OpenLaw)(args:List WData):l.row.toRowW.claim.post args (.bool true) args=true :=
 postW_of (r:=l.row.toRowW) (X:=(true == true))
  (show WShape.has [] (.bool true) .bool=true by first | rfl | decide | simp [WShape.has,WShape.arms,WShape.armsAll])
  (show (WTm.eq .res (.lit (.bool true))).value [] { args:=args,res:=some (.bool true),after:=args }=some (.bool (true == true)) from w_eq_bool (w_res rfl) w_lit) rfl
theorem AAh {l:OpenLaw}{n:Nat}{q:Program}{loose:List Str}{XP:(Str→Option Value)→Heap→Prop}{YP:World→Heap→Prop}{d:DefRec}(hn:l.most=some n)(hdf:d.params.defaults=[]) (call:∀ (w:World) (s₀ s₁:Shared) (mg mb:Str→Option Value) (fa:Addr) (o:Obj) (pm cd doc:Value) (a:Addr) (vs:List Value) (ns:List Int),
   Ground q loose [] XP w s₀ mg mb s₁.heap→YP w s₁.heap →
   s₁.heap.get? fa=some o→o.data=.func (docDef d.name d.params d.body d.scope pm cd doc)→s₁.heap.CodeRec cd d.name→mg d.name=some (.ref fa) →
   s₁.heap.get? a=some { cls:=.type "list",data:=.seq vs.toArray }→IntsAre vs ns→ns.length≤n→s₁.gens=#[] →
   codeAny (model l.prog w) callerA (.call (.ref fa) ⟨[.ref a],[]⟩) (fun r s'=>r=.ok (.ret (.bool true))∧OldK s₁.heap s'.heap∧s'.os=s₁.os∧AllBare s'.gens) s₁) :
  WalkO q loose XP YP l.row.toRowW d [] (fun f vs=>PySem.call f vs):=by
 intro w s₀ s₁ mg mb G Y fa o pm cd doc dV kV ho hd hcd hD hmg hg args vals as hpre hlay hrd hwl hlo
 obtain rfl:dV=.none:=Dflts.none hD hdf
 obtain rfl:kV=.none:=Dflts.noKw hD
 obtain⟨a,vs,ns,rfl,rfl,hobj,hints,hlen⟩:=zW hn hpre hwl
 refine enter_call (codeAny_mono (call w s₀ s₁ mg mb fa o pm cd doc a vs ns G Y ho (fd_plain hd) hcd hmg hobj hints hlen hg) fun r s' hq=>?_)
 obtain⟨rfl,h2,h3,h4⟩:=hq
 exact⟨.inl ⟨.bool true,.bool true,[],rfl,fun _=>rfl,.bool true,AIZ l _,fun _=>⟨List.Pairwise.nil,fun _ hm=>(nomatch hm)⟩⟩,h2,h3,h4⟩
section
variable {prog:Program}{w:World}{A:Around}{E:Value→Shared→Prop}{s:Shared}{K:Frag}
noncomputable def ledger (h:Heap)(L d:Addr):List (Addr×Obj):=(List.range h.objs.size).filterMap fun a=>if a=L∨a=d then none else (h.get? a).map fun o=>(a,o)
end
end Att
namespace L2
open PySem PySem.Spec PyProof.Rows
theorem cA:∀ {vs:List Value}{ns:List Int},IntsAre vs ns→Vals (ns.map V.int) vs
 | _,_,.nil=>.nil
 | _,_,.cons n t h=>.cons ⟨t,rfl⟩ (cA h)
noncomputable def Tn (H:Hp):Prop:=∀ b,H b=none∨∃ o xs,H b=some (.frz o (.lst xs))
theorem AFk {P:Program}{w:World}{K:Frag}{mg mb:Str→Option Value}{CX:Gx}{k:Nat}{fa a:Addr}{fd:FuncData}{x:Str}{sp:Sp}{s₁:Shared}{vs:List Value}{ns:List Int}(KX:K.In s₁.heap)(hns:s₁.heap.Ns mainGlobals mg)(hb:s₁.heap.Ns builtinsNs mb)(hbb:∀ x:Str,x≠"__name__"→mb x=bootBuiltins x)(hlim:s₁.heap.NoLimit)(hg:s₁.gens=#[])(ha:s₁.heap.get? a=some { cls:=.type "list",data:=.seq vs.toArray })(hi:IntsAre vs ns)(hl:ns.length≤sizeLine)(hr:Cy k callerA)(F:∀ base:Heap,K.In base→base.Ns mainGlobals mg→Gd P w K mg base CX k fa fd [x] sp)(hbind:∀ (s:Shared) (u:Value),BindsTo s fd ⟨[u],[]⟩ [(x,u)])(hsp:∀ H:Hp,Tn H→BP K H a (ns.map V.int)→sp [.ref a] H (fun v _=>v=.bl true) fun _ _ _=>False)(hCX:∀ H e s',CX [] H s₁ (fun _ _ _=>False) e s'→False) :
  codeAny (model P w) callerA (.call (.ref fa) ⟨[.ref a],[]⟩) (fun r s'=>r=.ok (.ret (.bool true))∧OldK s₁.heap s'.heap∧s'.os=s₁.os∧AllBare s'.gens) s₁:=by
 have rv:=cA hi
 have lenV:=hi.length
 have core:∀ H:Hp,Tn H→BP K H a (ns.map V.int)→Ck P w H s₁.heap→(∀ b,H b≠none→b=a)→(H a≠none→K.lookup a=none) →
   codeAny (model P w) callerA (.call (.ref fa) ⟨[.ref a],[]⟩) (fun r s'=>r=.ok (.ret (.bool true))∧OldK s₁.heap s'.heap∧s'.os=s₁.os∧AllBare s'.gens) s₁:=by
  intro H hO hS hok hA hK
  have base_of:∀ {b:Addr}{o:Obj},s₁.heap.get? b=some o→H b=none→(JF s₁.heap H).get? b=some o:=fun e n=>AJE e n
  have noA:∀ {b:Addr}{o:Obj}{es:Array DictEntry}{ep:Nat},s₁.heap.get? b=some o→o.data=.dict es ep→H b=none:=fun {b o es ep} e d=>by
   cases q:H b with
   | none=>rfl
   | some u =>
    have e':b=a:=hA b (by rw[q];simp)
    subst e'
    rw[ha] at e;cases e
    have d':Data.seq vs.toArray _=Data.dict es ep:=d
    cases d'
  have nsK:∀ {b:Addr}{m:Str→Option Value},s₁.heap.Ns b m→(JF s₁.heap H).Ns b m:=fun {b m} ⟨o,es,ep,e,d,r⟩=>⟨o,es,ep,base_of e (noA e d),d,r⟩
  have hKb:K.In (JF s₁.heap H):=fun b o e=>base_of (KX b o e) (by
   cases q:H b with
   | none=>rfl
   | some u =>
    have e':b=a:=hA b (by rw[q];simp)
    subst e'
    rw[hK (by rw[q];simp)] at e;cases e)
  have hM:Mod K mg (JF s₁.heap H):=⟨hKb,nsK hns,⟨mb,nsK hb,hbb⟩,let ⟨mc,h1,h2⟩:=hlim;⟨mc,nsK h1,h2⟩⟩
  have e0:SX P w K mg (JF s₁.heap H) callerA [] s₁ H:=⟨rfl,hM,fun b o e=>AFO e,Nat.le_of_eq (ACp _ _),trivial,fun b hb=>absurd (show b∈([]:List Addr) from hb) (by simp),hok,.of_eq hg⟩
  refine codeAny_mono ((F _ hKb (nsK hns)).run callerA [] s₁ H ⟨[.ref a],[]⟩ [.ref a] [.ref a] _ _ hr e0 (hbind s₁ (.ref a)) (.cons rfl .nil) (hsp H hO hS)) fun r s' h=>?_
  cases r with
  | error e=>exact (hCX H e s' h).elim
  | ok fl =>
   cases fl with
   | next=>exact False.elim h
   | brk=>exact False.elim h
   | cont=>exact False.elim h
   | ret u =>
    obtain⟨v,H',os,bare,un,hok',r',q⟩:=h
    have q':v=.bl true:=q
    subst q'
    obtain rfl:u=Value.bool true:=r'
    refine⟨rfl,OldK.of_keep fun b o e=>?_,os,bare⟩
    cases q:H b with
    | none=>exact un.keep b o e q (by intro z;exact absurd (show b∈([]:List Addr) from z) (by simp)) (by simp)
    | some u =>
     rcases hO b with z | ⟨ob,xs,z⟩
     ·rw[q] at z;cases z
     ·have z2:=un.frzs b ob _ z
      obtain⟨e1,_⟩:=hok b _ z
      obtain⟨e2,_⟩:=hok' b _ z2
      rw[e] at e1;cases e1
      exact e2
 cases hk:K.lookup a with
 | some o =>
  have e:=KX a o hk
  rw[ha] at e
  cases e
  refine core (fun _=>none) (fun _=>.inl rfl) (.inr ⟨_,vs.toArray,_,hk,rfl,rfl,rfl,by rw[List.size_toArray,lenV];exact hl,by simpa using rv⟩) (fun b u z=>by have z':(none:Option HO)=some u:=z;cases z') (fun b z=>absurd rfl z) fun z=>absurd rfl z
 | none =>
  refine core (fun b=>if b=a then some (.frz { cls:=.type "list",data:=.seq vs.toArray } (.lst (ns.map V.int))) else none) (fun b=>?_) (.inl (.inr ⟨{ cls:=.type "list",data:=.seq vs.toArray },if_pos rfl⟩)) (fun b u z=>?_) (fun b z=>?_) fun _=>hk
  ·by_cases hb:b=a
   ·exact .inr ⟨_,_,if_pos hb⟩
   ·exact .inl (if_neg hb)
  ·by_cases hb:b=a
   ·have z':=(if_pos hb).symm.trans z
    cases z'
    subst hb
    exact⟨ha,by rw[List.length_map];exact hl,vs,_,rv,ha⟩
   ·have z':=(if_neg hb).symm.trans z
    cases z'
  ·by_cases hb:b=a
   ·exact hb
   ·exact absurd (if_neg hb) z
noncomputable abbrev lJ {K:Frag}{h:Heap}(_:K.In h):Frag:=K
theorem dZ {l:PySem.W.OpenLaw}{n k:Nat}{q:Program}{loose:List Str}{XP:(Str→Option Value)→Heap→Prop}{YP:World→Heap→Prop}{d:DefRec}{K:Params→Frag}{CX:World→Gx}{sp:World→Sp}{x:Str}(hn:l.most=some n)(hn2:n≤sizeLine)(hdf:d.params.defaults=[])(hr:Cy k callerA)(hY:∀ (w:World) (h:Heap),YP w h→(K w.params).In h) (F:∀ (w:World) (mg:Str→Option Value) (fa:Addr) (h:Heap),(K w.params).In h→h.Ns mainGlobals mg→mg d.name=some (.ref fa) →
   ∃ fd:FuncData,(∀ (s:Shared) (u:Value),BindsTo s fd ⟨[u],[]⟩ [(x,u)]) ∧
    ∀ base:Heap,(K w.params).In base→base.Ns mainGlobals mg→Gd l.prog w (K w.params) mg base (CX w) k fa fd [x] (sp w))
  (hsp:∀ (w:World) (H:Hp) (a:Addr) (ns:List Int),ns.length≤n→Tn H→BP (K w.params) H a (ns.map V.int)→sp w [.ref a] H (fun v _=>v=.bl true) fun _ _ _=>False)
  (hCX:∀ (w:World) (H:Hp) (s:Shared) (e:Value) (s':Shared),CX w [] H s (fun _ _ _=>False) e s'→False) :
  PySem.W.WalkO q loose XP YP l.row.toRowW d [] (fun f vs=>PySem.call f vs):=by
 refine Att.AAh hn hdf fun w s₀ s₁ mg mb fa o pm cd doc a vs ns G Y ho hd hcd hmg hobj hints hlen hg=>?_
 have KX:=hY w _ Y
 obtain⟨fd,hb,hF⟩:=F w mg fa _ KX G.T.g hmg
 exact AFk KX G.T.g G.T.b G.T.builtins G.T.nolimit hg hobj hints (Nat.le_trans hlen hn2) hr hF hb (fun H hO hS=>hsp w H a ns hlen hO hS) fun H e s'=>hCX w H s₁ e s'
theorem AEo {l:PySem.W.OpenLaw}{n k:Nat}{q:Program}{loose:List Str}{XP:(Str→Option Value)→Heap→Prop}{YP:World→Heap→Prop}{d:DefRec}{K:Params→Frag}{CX:Gx}{sp:Frag→Sp}{x:Str}(hn:l.most=some n)(hn2:n≤sizeLine)(hdf:d.params.defaults=[])(hr:Cy k callerA)(hY:∀ (w:World) (h:Heap),YP w h→(K w.params).In h) (F:∀ (w:World) (mg:Str→Option Value) (fa:Addr) (h:Heap),(K w.params).In h→h.Ns mainGlobals mg→mg d.name=some (.ref fa) →
   ∃ fd:FuncData,(∀ (s:Shared) (u:Value),BindsTo s fd ⟨[u],[]⟩ [(x,u)]) ∧
    ∀ base:Heap,(K w.params).In base→base.Ns mainGlobals mg→Gd l.prog w (K w.params) mg base CX k fa fd [x] (sp (K w.params)))
  (hsp:∀ (K:Frag) (H:Hp) (a:Addr) (ns:List Int),ns.length≤n→Tn H→BP K H a (ns.map V.int)→sp K [.ref a] H (fun v _=>v=.bl true) fun _ _ _=>False)
  (hCX:∀ (H:Hp) (s:Shared) (e:Value) (s':Shared),CX [] H s (fun _ _ _=>False) e s'→False) :
  PySem.W.WalkO q loose XP YP l.row.toRowW d [] (fun f vs=>PySem.call f vs) :=
 dZ (K:=K) (CX:=fun _=>CX) (sp:=fun w=>sp (K w.params)) hn hn2 hdf hr hY F (fun w H a ns h1 h2 h3=>hsp (K w.params) H a ns h1 h2 h3) fun _ H s e s'=>hCX H s e s'
noncomputable def JD (s:Stmt):Arguments:=match s with
 | .FunctionDef _ a _ _ _ _ _ _ _ _=>a
 | _=>{ posonlyargs:=[],args:=[],vararg:=none,kwonlyargs:=[],kw_defaults:=[],kwarg:=none,defaults:=[] }
noncomputable def Gq (s:Stmt):List Stmt:=match s with
 | .FunctionDef _ _ b _ _ _ _ _ _ _=>b
 | _=>[]
noncomputable def Dj (s:Stmt):Scope:=match s with
 | .FunctionDef _ _ _ _ _ _ sc _ _ _=>sc
 | _=>{ kind:=.function,names:=[],isGenerator:=false,isCoroutine:=false }
noncomputable abbrev Hd:Gx:=fun _ _ _ _ _ _=>False
noncomputable abbrev E0:XK:=fun _ _ _=>False
theorem AHG {X:Cx}:Passes Hd X E0:=fun _ _ _ _ _ _ _ h=>h.elim
structure Mz (K:Frag)(x qual:Str)(st:Stmt)(f:Addr)(fd:FuncData):Prop where
 ex:∃ (oc:Value) (od:Option Addr) (kV doc pm:Value) (an:Option Addr) (cdv ct:Value) (osl:Array (Option Value)),
  fd=fnOf x qual (JD st) (Gq st) (Dj st) .none kV doc pm an cdv ct∧K.lookup f=some ⟨oc,od,.func fd,osl⟩∧codeIn K cdv qual=true
 kp:keepIn K (.ref f)=true
section
variable {P:Program}{w:World}{K:Frag}{mg:Str→Option Value}{base:Heap}
theorem Mz.ok {x qual:Str}{st:Stmt}{f:Addr}{fd:FuncData}{N ps:List Str}{k:Nat}{sp:Sp}(F:Mz K x qual st f fd)(S:K1 N ps (Dj st))(len:∀ vs H Q E,sp vs H Q E→vs.length=ps.length) (hbody:∀ (cdv:Value) (A:Around) (outer:List Env) (s:Shared) (H:Hp) (vs:List V) (Q:VK) (E:XK),Cy k (A.deeper (envOfC qual (Dj st) s.heap.objs.size f cdv))→sp vs H Q E →
   ∃ t,Gh (IW Hd P w K mg base N qual (Dj st) f cdv A outer s H E).Jr (Gq st) t∧t { nx:=fun _ H'=>Q .non H',rt:=Q } (start N vs) H):Gd P w K mg base Hd (k+1) f fd ps sp:=by
 obtain⟨oc,od,kV,doc,pm,an,cdv,ct,osl,rfl,lk,hcd⟩:=F.ex
 refine ACy lk hcd S len fun A outer s H vs Q E hr hsp=>?_
 obtain⟨t,h,q⟩:=hbody cdv A outer s H vs Q E hr hsp
 exact⟨t,h.Jr,q⟩
theorem Mz.binds {x qual:Str}{st:Stmt}{f:Addr}{fd:FuncData}{ps:List Str}(F:Mz K x qual st f fd)(h:∀ (kV doc pm:Value) (an:Option Addr) (cdv ct:Value) (us:List Value),us.length=ps.length→bindArgs (fnOf x qual (JD st) (Gq st) (Dj st) .none kV doc pm an cdv ct) ⟨us,[]⟩=pure (ps.zip us)):Binds K fd ps []:=by
 obtain⟨oc,od,kV,doc,pm,an,cdv,ct,osl,rfl,lk,hcd⟩:=F.ex
 exact .all (h kV doc pm an cdv ct)
theorem AAt {x qual:Str}{st:Stmt}{f:Addr}{oc:Value}{od an:Option Addr}{osl:Array (Option Value)}{kV doc pm cdv ct:Value}(l:K.lookup f=some ⟨oc,od,.func (fnOf x qual (JD st) (Gq st) (Dj st) .none kV doc pm an cdv ct),osl⟩)(c:codeIn K cdv qual=true)(k:keepIn K (.ref f)=true):Mz K x qual st f (fnOf x qual (JD st) (Gq st) (Dj st) .none kV doc pm an cdv ct):=⟨⟨oc,od,kV,doc,pm,an,cdv,ct,osl,rfl,l,c⟩,k⟩
end
section
variable {X:Cx}
theorem pv (i:Nat){x:Str}{pos:Pos}(hN:X.N[i]?=some x:=by rfl)(hv:Es X.env.scope x:=by first | exact Or.inl rfl | exact Or.inr (Or.inl rfl) | exact Or.inr (Or.inr rfl))(hd:(x == ("__debug__":Str))=false:=by decide)
  (hcd:(x == ("__classdict__":Str))=false:=by decide):PE X (.Name x pos) (CJ i):=G6 hN hv hd hcd
end
noncomputable def Aj (H H':Hp):Prop:=∀ b o,H b=some o→H' b=some o
theorem Aj.refl (H:Hp):Aj H H:=fun _ _ h=>h
theorem Aj.trans {H H1 H2:Hp}(a:Aj H H1)(b:Aj H1 H2):Aj H H2:=fun c o h=>b c o (a c o h)
theorem Aj.free {H H':Hp}(e:Aj H H'){l:Addr}(h:H' l=Option.none):H l=Option.none:=by
 cases q:H l with
 | none=>rfl
 | some o =>
  rw[e l o q] at h
  cases h
theorem Aj.seq {K:Frag}{H H':Hp}{a:Addr}{xs:List V}(e:Aj H H')(h:BP K H a xs):BP K H' a xs:=by
 rcases h with (h | ⟨o,h⟩) | h
 ·exact .inl (.inl (e _ _ h))
 ·exact .inl (.inr ⟨o,e _ _ h⟩)
 ·exact .inr h
end L2
set_option maxHeartbeats 4000000
namespace L2
open PySem PySem.Spec PyProof.Rows
noncomputable def Cd (X:Cx)(N':List Str)(scope:Scope)(cl:List (Str×Addr))(fp:List Addr)(pins:List (Addr×Obj))(s:Shared)(H:Hp):Cx where
 prog:=X.prog
 w:=X.w
 K:=X.K
 mg:=X.mg
 base:=X.base
 A:=X.A
 N:=N'
 s₀:=s
 H₀:=H
 env:=compEnvC scope cl s.heap.objs.size X.env
 outer:=X.stack
 stack:=X.stack
 ex:=fp
 fn:=fun _=>false
 calm:=X.calm
 pn:=X.pn++pins
 xe:=fun _ _=>False
noncomputable def Dc (env:Env):List (Str×NameKind)→List (Str×Addr)→List (Str×Addr)
 | [],acc=>acc
 | (n,k)::r,acc=>if (k == NameKind.free)=true then Dc env r ((n,(env.cells.lookup n).getD 0)::acc) else Dc env r acc
theorem mem_of_lookup {β:Type}:∀ {l:List (Str×β)}{x:Str}{k:β},l.lookup x=some k→(x,k)∈l
 | [],_,_,h=>by simp at h
 | (n,j)::r,x,k,h=>by
  rw[List.lookup_cons] at h
  cases hx:x == n with
  | true =>
   rw[hx] at h
   have e:x=n:=eq_of_beq hx
   subst e
   have e2:j=k:=by simpa using h
   subst e2
   exact Bf
  | false =>
   rw[hx] at h
   exact Bt (mem_of_lookup (by simpa using h))
theorem W0 {env:Env}{x:Str}{c:Addr}:∀ (l:List (Str×NameKind)) (acc:List (Str×Addr)),(∀ y∈l,y.2=.free→∃ c,env.cells.lookup y.1=some c)→(Dc env l acc).lookup x=some c→acc.lookup x=some c∨env.cells.lookup x=some c
 | [],acc,_,h=>.inl h
 | (n,k)::r,acc,hf,h=>by
  have hr:∀ y∈r,y.2=.free→∃ c,env.cells.lookup y.1=some c:=fun y hy=>hf y (Bt hy)
  unfold Dc at h
  by_cases hk:(k == NameKind.free)=true
  ·rw[if_pos hk] at h
   rcases W0 r _ hr h with h1 | h1
   ·rw[List.lookup_cons] at h1
    cases hx:x == n with
    | true =>
     rw[hx] at h1
     have e:x=n:=eq_of_beq hx
     subst e
     have hk':k=.free:=eq_of_beq hk
     obtain⟨c',hc'⟩:=hf (x,k) Bf hk'
     have hc2:env.cells.lookup x=some c':=hc'
     rw[hc2] at h1
     right
     rw[hc2]
     simpa using h1
    | false =>
     rw[hx] at h1
     exact .inl (by simpa using h1)
   ·exact .inr h1
  ·rw[if_neg hk] at h
   exact W0 r _ hr h
theorem aR {env:Env}{x:Str}:∀ (l:List (Str×NameKind)) (acc:List (Str×Addr)),((x,NameKind.free)∈l∨∃ c,acc.lookup x=some c)→∃ c,(Dc env l acc).lookup x=some c
 | [],acc,h=>by
  rcases h with h | h
  ·cases h
  ·exact h
 | (n,k)::r,acc,h=>by
  unfold Dc
  by_cases hk:(k == NameKind.free)=true
  ·rw[if_pos hk]
   refine aR r _ ?_
   rcases h with h | ⟨c,h⟩
   ·rcases List.mem_cons.mp h with e | e
    ·injection e with e1 e2
     right
     refine⟨(env.cells.lookup n).getD 0,?_⟩
     rw[List.lookup_cons,e1]
     simp
    ·exact .inl e
   ·right
    rw[List.lookup_cons]
    cases hx:x == n with
    | true=>exact⟨_,rfl⟩
    | false=>exact⟨c,h⟩
  ·rw[if_neg hk]
   refine aR r _ ?_
   rcases h with h | h
   ·rcases List.mem_cons.mp h with e | e
    ·injection e with e1 e2
     rw[← e2] at hk
     exact absurd (by rfl) hk
    ·exact .inl e
   ·exact .inr h
structure Rx (X:Cx)(scope:Scope)(cl:List (Str×Addr)):Prop where
 clos:closureFor scope X.env=pure cl
 sub:∀ x c,cl.lookup x=some c→X.env.cells.lookup x=some c
 has:∀ x,((relabel scope X.env).names.lookup x=some .cell∨(relabel scope X.env).names.lookup x=some .free)→∃ c,cl.lookup x=some c
 kind:scope.kind=.function
 cell:∀ y∈scope.names,y.2≠.cell
 names:∀ x∈scope.names,x.2=.local→scope.names.lookup x.1=some .local
theorem AGP {env:Env}{scope:Scope}(hf:∀ y∈scope.names,y.2=.free→∃ c,env.cells.lookup y.1=some c):closureFor scope env=pure (Dc env scope.names []):=by
 unfold closureFor
 have key:∀ (l:List (Str×NameKind)) (acc:List (Str×Addr)),(∀ y∈l,y.2=.free→∃ c,env.cells.lookup y.1=some c) →
   (forIn l acc (fun (x:Str×NameKind) (r:List (Str×Addr))=>(if (x.2 == NameKind.free)=true then do let a ← cellOf env x.1;pure (ForInStep.yield ((x.1,a)::r)) else pure (ForInStep.yield r):Sem (ForInStep (List (Str×Addr))))))=pure (Dc env l acc):=by
  intro l
  induction l with
  | nil=>intro acc _;rfl
  | cons p r ih =>
   intro acc hf
   obtain⟨n,k⟩:=p
   have hr:∀ y∈r,y.2=.free→∃ c,env.cells.lookup y.1=some c:=fun y hy=>hf y (Bt hy)
   rw[List.forIn_cons]
   unfold Dc
   by_cases hk:(k == NameKind.free)=true
   ·obtain⟨c,hc⟩:=hf (n,k) Bf (eq_of_beq hk)
    have hc':env.cells.lookup n=some c:=hc
    have hcell:cellOf env n=pure c:=by unfold cellOf;rw[hc']
    simp only[hk,if_true,hcell,hc',Option.getD_some]
    show (forIn r ((n,c)::acc) _:Sem _)=_
    exact ih _ hr
   ·simp only[hk,if_false]
    show (forIn r acc _:Sem _)=_
    exact ih _ hr
 have:=key scope.names [] hf
 simpa using this
theorem oW {X:Cx}{scope:Scope}(ok:X.Ok)(kind:scope.kind=.function)(cell:∀ y∈scope.names,y.2≠.cell)(names:∀ x∈scope.names,x.2=.local→scope.names.lookup x.1=some .local)(free:∀ y∈scope.names,y.2=.free→X.env.kindOf y.1=some .cell∨X.env.kindOf y.1=some .free):Rx X scope (Dc X.env scope.names []):=by
 have hf:∀ y∈scope.names,y.2=.free→∃ c,X.env.cells.lookup y.1=some c:=fun y hy e=>ok.has y.1 (free y hy e)
 refine⟨AGP hf,fun x c h=>?_,fun x h=>?_,kind,cell,names⟩
 ·rcases W0 scope.names [] hf h with h1 | h1
  ·simp at h1
  ·exact h1
 ·refine aR scope.names [] (.inl ?_)
  have hm:∃ k,(x,k)∈(relabel scope X.env).names∧(k=.cell∨k=.free):=by
   rcases h with h | h
   ·exact⟨_,mem_of_lookup h,.inl rfl⟩
   ·exact⟨_,mem_of_lookup h,.inr rfl⟩
  obtain⟨k,hm,hk⟩:=hm
  obtain⟨⟨n,j⟩,hn,e⟩:=List.mem_map.mp hm
  have e':(if (j == NameKind.free && X.env.scope.kind == .function && X.env.kindOf n == some .cell)=true then (n,NameKind.cell) else (n,j))=(x,k):=e
  by_cases hc:(j == NameKind.free && X.env.scope.kind == .function && X.env.kindOf n == some .cell)=true
  ·rw[if_pos hc] at e'
   injection e' with e1 e2
   have hj:j=.free:=by
    rw[Bool.and_eq_true,Bool.and_eq_true] at hc
    exact eq_of_beq hc.1.1
   rw[← e1,← hj]
   exact hn
  ·rw[if_neg hc] at e'
   injection e' with e1 e2
   rcases hk with hk | hk
   ·exact absurd (e2.trans hk) (cell (n,j) hn)
   ·rw[← e1,← hk,← e2]
    exact hn
noncomputable def GX (X:Cx)(scope:Scope):List (Nat×Str)→Prop
 | []=>True
 | p::r=>(X.N[p.1]?=some p.2∧(X.env.scope.names.lookup p.2=some .cell∨X.env.scope.names.lookup p.2=some .free) ∧
   ((relabel scope X.env).names.lookup p.2=some .cell∨(relabel scope X.env).names.lookup p.2=some .free))∧GX X scope r
theorem GX.mem {X:Cx}{scope:Scope}:∀ {fv:List (Nat×Str)},GX X scope fv→∀ p∈fv,X.N[p.1]?=some p.2∧(X.env.scope.names.lookup p.2=some .cell∨X.env.scope.names.lookup p.2=some .free) ∧
   ((relabel scope X.env).names.lookup p.2=some .cell∨(relabel scope X.env).names.lookup p.2=some .free)
 | [],_,p,hp=>by cases hp
 | q::r,h,p,hp=>by
  rcases List.mem_cons.mp hp with e | e
  ·rw[e];exact h.1
  ·exact GX.mem h.2 p e
noncomputable def GF (n:Nat)(fv:List (Nat×Str))(σ:St):St:=List.replicate n none++fv.map fun p=>(σ[p.1]?).join
theorem AHK (n:Nat)(fv:List (Nat×Str))(σ:St):(GF n fv σ).length=n+fv.length:=by
 simp [GF]
theorem j4 {n:Nat}{fv:List (Nat×Str)}{σ:St}{i:Nat}{v:V}(h:(GF n fv σ)[i]?=some (some v)):n≤i∧∃ p,fv[i-n]?=some p∧σ[p.1]?=some (some v):=by
 unfold GF at h
 by_cases hi:i<n
 ·rw[List.getElem?_append_left (by simpa using hi),List.getElem?_replicate,if_pos hi] at h
  cases h
 ·have hn:n≤i:=by omega
  rw[List.getElem?_append_right (by simpa using hn),List.length_replicate,List.getElem?_map] at h
  refine⟨hn,?_⟩
  cases e:fv[i-n]? with
  | none=>rw[e] at h;cases h
  | some p =>
   rw[e] at h
   refine⟨p,rfl,?_⟩
   have h':(σ[p.1]?).join=some v:=Option.some.inj h
   cases e2:σ[p.1]? with
   | none=>rw[e2] at h';cases h'
   | some o =>
    rw[e2] at h'
    have h2:o=some v:=h'
    rw[h2]
section
variable {X:Cx}{pins:List (Addr×Obj)}{σ:St}{H:Hp}{s:Shared}{fp:List Addr}{scope:Scope}{cl:List (Str×Addr)}{own:List Str}{fv:List (Nat×Str)}
theorem jH (I:Inv X pins σ H s)(ck:Rx X scope cl)(hf:∀ b∈fp,Ga X pins H b)(hlt:∀ b∈fp,b<s.heap.objs.size):(Cd X (own++fv.map (·.2)) scope cl fp pins s H).Ok where
 mod:=I.ok.mod
 kind:=ck.kind
 glob:=I.ok.glob
 blt:=I.ok.blt
 above:=Nat.le_refl _
 inj:=fun x y c hx hy=>I.ok.inj x y c (ck.sub x c hx) (ck.sub y c hy)
 has:=fun x h=>ck.has x h
 cab:=fun x c h _=>Bool.noConfusion h
 hd:=I.ok.hd
 frames:=I.ok.frames
 stk:=.inl rfl
 exf:=fun b hb=>⟨Nat.ne_of_lt (hlt b hb),fun x c h=>(hf b hb).2.2.2.2.1 x c (ck.sub x c h)⟩
 bs:=I.bs
 bsz:=Nat.le_trans I.ok.bsz I.sz
 noex:=fun b o e hb=>by
  rcases (hf b hb).2.2.2.1 with h | h
  ·exact I.ok.noex b o e h
  ·exact absurd (Nat.lt_of_lt_of_le (Heap.lt_size e) I.ok.bsz) (Nat.not_lt.mpr h)
 exfs:=fun b hb h=>by
  rcases List.mem_cons.mp (I.U5 b h) with e | e
  ·exact (hf b hb).2.1 e
  ·exact (hf b hb).2.2.1 e
 Hh:=I.stack
 frf:=I.tH
theorem ACj (I:Inv X pins σ H s)(ck:Rx X scope cl)(fo:GX X scope fv)(hf:∀ b∈fp,Ga X pins H b)(hlt:∀ b∈fp,b<s.heap.objs.size){h':Heap}{tk:Nat}{m:Str→Option Value}(hns:h'.Ns s.heap.objs.size m)(keep:∀ b o,s.heap.get? b=some o→h'.get? b=some o) :
  Inv (Cd X (own++fv.map (·.2)) scope cl fp pins s H) [] (GF own.length fv σ) H { s with heap:=h',toks:=tk } where
 ok:=jH I ck hf hlt
 os:=rfl
 bare:=I.bare
 base:=Un.kept keep
 loc:=by
  refine⟨m,hns,fun i x v hi hv _=>?_⟩
  obtain⟨hn,p,hp,hσ⟩:=j4 hv
  have hx:x=p.2:=by
   have hi':(own++fv.map (·.2))[i]?=some x:=hi
   rw[List.getElem?_append_right hn,List.getElem?_map,hp] at hi'
   exact (Option.some.inj hi').symm
  subst hx
  obtain⟨hN,hk,hk'⟩:=fo.mem p (List.mem_of_getElem? hp)
  obtain⟨m0,_,hl⟩:=I.loc
  obtain⟨u,r,lk⟩:=hl p.1 p.2 v hN hσ (.inr hk)
  refine⟨u,r,.inr ⟨hk',?_⟩⟩
  rcases lk with⟨lk,_⟩ | ⟨_,c,hc,ic⟩
  ·have lk':X.env.scope.names.lookup p.2=some .local:=lk
   rcases hk with hk | hk
   ·rw[hk] at lk';cases lk'
   ·rw[hk] at lk';cases lk'
  ·obtain⟨c',hc'⟩:=ck.has p.2 hk'
   have e:=ck.sub _ _ hc'
   rw[hc] at e
   cases e
   obtain⟨o,e1,e2⟩:=ic
   exact⟨c,hc',o,keep _ _ e1,e2⟩
 cell:=fun x c h=>by
  obtain⟨v,o,e1,e2⟩:=I.cell x c (ck.sub x c h)
  exact⟨v,o,keep _ _ e1,e2⟩
 free:=I.hok.fresh (Nat.le_refl _)
 freeC:=fun x c h=>I.freeC x c (ck.sub x c h)
 pin:=fun p hp=>by
  have hp':p∈X.pn++pins:=by
   have:=List.mem_append.mp hp
   rcases this with h | h
   ·exact h
   ·cases h
  obtain⟨e,n,nl,nf,nc⟩:=I.pin p hp'
  refine⟨keep _ _ e,n,Nat.ne_of_lt (Heap.lt_size e),fun h=>?_,nc⟩
  rcases List.mem_cons.mp (I.U5 _ h) with z | z
  ·exact nl z
  ·exact nf z
 hok:=I.hok.kept keep
 len:=by
  rw[AHK]
  show _=(own++fv.map (·.2)).length
  simp
theorem AGY (I:Inv X pins σ H s)(hf:∀ b∈fp,Ga X pins H b){N':List Str}{σ':St}{H':Hp}{s':Shared}(I':Inv (Cd X N' scope cl fp pins s H) [] σ' H' s'):Inv X pins σ H' s' :=
 I.AAf (ch:=fp) I'.os I'.base I'.hok I'.bare fun b hb=>⟨(hf b hb).2.2.2.1,(hf b hb).2.1,(hf b hb).2.2.2.2.1,(hf b hb).2.2.2.2.2⟩
theorem AJr (I:Inv X pins σ H s){N':List Str}{σ':St}{H':Hp}{s':Shared}(I':Inv (Cd X N' scope cl fp pins s H) [] σ' H' s'):(∃ m,s'.heap.Ns s.heap.objs.size m)∧H' s.heap.objs.size=none:=by
 obtain⟨m,h,_⟩:=I'.loc
 exact⟨⟨m,h⟩,I'.free⟩
theorem AFT (I:Inv X pins σ H s){J5:List (Addr×Obj)}{σ1:St}{H1:Hp}{s1:Shared}(I1:Inv X J5 σ1 H1 s1)(hp:∀ p∈J5,p∈pins)(hn:H1 s.heap.objs.size=none){h':Heap}(sb:Heap.SameBut s.heap.objs.size s1.heap h'):Inv X J5 σ1 H1 { s1 with heap:=h' }:=by
 refine I1.turned (t':=s1.toks) (it:=s.heap.objs.size) (fun b o hb e=>sb.extBut b o hb e) hn (Ne.symm (Nat.ne_of_lt I.lt)) (.inr I.sz) (fun x c h=>?_) fun p hp'=>?_
 ·obtain⟨v,o,e1,_⟩:=I.cell x c h
  exact Nat.ne_of_lt (Heap.lt_size e1)
 ·have hp2:p∈X.pn++pins:=by
   rcases List.mem_append.mp hp' with z | z
   ·exact Cw z
   ·exact Bc (hp p z)
  exact Nat.ne_of_lt (Heap.lt_size (I.pin p hp2).1)
end
section
variable {prog:Program}{w:World}{A:Around}{R:Result→Shared→Prop}{s:Shared}
theorem AG3 {elt target iter:Expr}{ifs:List Expr}{scope:Scope}{pos:Pos}{it acc:Value}{env:Env}(I:Nat→Shared→Prop) (turn:∀ n s,I n s→wpAny (model prog w) A (pyNext it) (fun r s₁=>match r with
   | none=>R (.ok .next) s₁
   | some v=>wpAny (model prog w) A (letOwnedTupleGo target it v) (fun _ s₀=>wpAny (model prog w) A (assign target env v) (fun _ s₂ =>
     wpAny (model prog w) A (forIn ifs true fun c r=>if r=true then do let ok ← isTrue c env (eval c env);pure (ForInStep.yield ok) else pure (ForInStep.yield r)) (fun ok s₃ =>
      if ok=true then wpAny (model prog w) A (eval elt env) (fun x s₄ =>
       wpAny (model prog w) A (call (.builtin "list.append") [acc,x]) (fun _ s₅=>∃ m,m<n∧I m s₅) (notedBy (model prog w) A env fun e s'=>R (.error e) s') s₄) (notedBy (model prog w) A env fun e s'=>R (.error e) s') s₃
      else ∃ m,m<n∧I m s₃) (notedBy (model prog w) A env fun e s'=>R (.error e) s') s₂) (notedBy (model prog w) A env fun e s'=>R (.error e) s') s₀) (notedBy (model prog w) A env fun e s'=>R (.error e) s') s₁) (notedBy (model prog w) A env fun e s'=>R (.error e) s') s)
  (n:Nat) (h:I n s) :
  codeAny (model prog w) A (.compLoop (.ListComp elt [⟨target,iter,ifs,0⟩] scope pos) 0 it acc env) R s:=by
 refine codeAny_loop rfl I (fun n s hI=>?_) n h
 show wpAny _ A ((compTurn (.ListComp elt [⟨target,iter,ifs,0⟩] scope pos) 0 it acc env).onRaise (fun x=>do noteFrame x env;theTreesLotGoes x)) _ _ s
 refine wpAny_noted ?_
 rw[compTurn_list]
 refine wpAny_bind (wpAny_standAt (wpAny_bind (wpAny_mono (turn n s hI) (fun r s₁ h₁=>?_) fun _ _ h'=>h')))
 cases r with
 | none=>exact wpAny_pure h₁
 | some v =>
  refine wpAny_bind (wpAny_mono h₁ (fun _ s₀ h₀=>?_) fun _ _ h'=>h')
  refine wpAny_bind (wpAny_mono h₀ (fun _ s₂ h₂=>wpAny_bind (wpAny_mono h₂ (fun ok s₃ h₃=>?_) fun _ _ h'=>h')) fun _ _ h'=>h')
  cases ok with
  | false=>exact wpAny_pure ⟨rfl,h₃⟩
  | true =>
   exact wpAny_bind (wpAny_bind (wpAny_mono h₃ (fun x s₄ h₄=>wpAny_bind (wpAny_mono h₄ (fun _ s₅ h₅=>wpAny_pure (wpAny_pure ⟨rfl,h₅⟩)) fun _ _ h'=>h')) fun _ _ h'=>h'))
end
noncomputable def Ob (X:Cx)(ifs:List Expr)(t:TT):Prop :=
 ∀ (pins:List (Addr×Obj)) (s:Shared) (σ:St) (H:Hp) (Q:Bool→Hp→Prop),Inv X pins σ H s→t σ H Q →
  wpAny (model X.prog X.w) X.A (forIn ifs true fun c r=>if r=true then do let ok ← isTrue c X.env (eval c X.env);pure (ForInStep.yield ok) else pure (ForInStep.yield r)) (TP X pins σ Q) X.xe s
noncomputable def t6:TT:=fun _ H Q=>Q true H
theorem AFX {X:Cx}:Ob X [] t6:=fun pins s σ H Q I h=>wpAny_tests_nil ⟨H,I,h⟩
theorem AH4 {X:Cx}{c:Expr}{t:TT}(h:PT X c t):Ob X [c] t:=fun pins s σ H Q I q=>wpAny_tests_one (h pins s σ H Q I q)
noncomputable def HW (n:Nat)(g:TG):Prop:=∀ v σ H Q,g v σ H Q→g v σ H fun σ' H'=>(σ'.length=σ.length∧∀ i,n≤i→σ'[i]?=σ[i]?)∧Q σ' H'
theorem AJV {n i:Nat}(h:i<n):HW n (Df i):=fun v σ H Q q=>⟨⟨by simp,fun j hj=>by rw[List.getElem?_set_ne (by omega)]⟩,q⟩
theorem AHx {n i j:Nat}{K:Frag}(h:i<n)(h':j<n):HW n (Qe K 2 (Iv (Df i) (Iv (Df j) QR))):=fun v σ H Q q=>by
 obtain⟨a,xs,e,sq,l,v1,r,e1,v2,r2,e2,e3,q⟩:=q
 refine⟨a,xs,e,sq,l,v1,r,e1,v2,r2,e2,e3,⟨by simp,fun k hk=>?_⟩,q⟩
 rw[List.getElem?_set_ne (by omega),List.getElem?_set_ne (by omega)]
noncomputable def jR (J:It)(g:TG)(tc:TT)(te:TE)(σ0:St)(D:Addr)(Q:VK)(H:Hp):Prop :=
 ∃ W:Nat→Nat→List V→Hp→Prop,(∃ m,W 0 m [] H)∧∀ i m ys H,W i m ys H→H D=some (.lst ys) ∧
  ((J.stop i H∧Q (.ref D) H)∨(J.go i H∧∃ N:List V→Hp→Prop,(∀ ys' H',N ys' H'→∃ m',m'<m∧W (i+1) m' ys' H')∧∀ x H',J.yld i H x H'→g x σ0 H' fun σ2 H2=>tc σ2 H2 fun b H3 =>
   if b=true then te σ2 H3 fun v H4=>H4 D=some (.lst ys)∧ys.length<sizeLine∧N (ys++[v]) (upd H4 D (.lst (ys++[v])))
   else N ys H3))
noncomputable def HN (wi:TI)(g:TG)(tc:TT)(te:TE)(n:Nat)(fv:List (Nat×Str)):TE:=fun σ H Q=>wi σ H fun J H1=>∀ D,H1 D=none→jR J g tc te (GF n fv σ) D Q (upd H1 D (.lst []))
section
variable {X:Cx}{tg elt iter:Expr}{ifs:List Expr}{scope:Scope}{own:List Str}{fv:List (Nat×Str)}{wi:TI}{g:TG}{tc:TT}{te:TE}
theorem eU {pos pos':Pos}{use:Option (Value→Sem Unit)}{pins:List (Addr×Obj)}{s:Shared}{σ:St}{H:Hp}{Q:Value→Shared→Prop}{R:VK}{cl:List (Str×Addr)}(hc:X.calm=true)(hi:PI X tg iter wi)(I:Inv X pins σ H s)(ck:Rx X scope cl)(fo:GX X scope fv)(gk:HW own.length g)(bg:∀ fp pins s H,PG (Cd X (own++fv.map (·.2)) scope cl fp pins s H) tg g)(bt:∀ fp pins s H,Ob (Cd X (own++fv.map (·.2)) scope cl fp pins s H) ifs tc)(be:∀ fp pins s H,PE (Cd X (own++fv.map (·.2)) scope cl fp pins s H) elt te)(hs:∀ x,foldedSetIterable iter X.env x=pure x)(h:HN wi g tc te own.length fv σ H R) (fin:∀ D C H' s',Inv X pins σ H' s'→R (.ref D) H'→(∃ m,s'.heap.Ns C m)→H' C=none →
   (∀ J5 σ1 H1 s1 h',Inv X J5 σ1 H1 s1→(∀ p∈J5,p∈pins)→H1 C=none→Heap.SameBut C s1.heap h'→Inv X J5 σ1 H1 { s1 with heap:=h' })→(C≠X.env.locals∧C ∉ X.fs) →
   compPost (model X.prog X.w) X.A X.xe use Q (.ref D) C (.ok .next) s') :
  wpAny (model X.prog X.w) X.A (comprehension (.ListComp elt [⟨tg,iter,ifs,0⟩] scope pos) scope X.env pos' (newList []) false (eval iter X.env) use) Q X.xe s:=by
 refine wpAny_comprehension_free (use:=use) (g:=⟨tg,iter,ifs,0⟩) (gs:=[]) rfl hs ck.clos ck.kind ck.names (BL (hi pins s σ H _ I h) fun v s1 h1=>BL h1 fun itv s2 h2=>?_)
 obtain⟨it,fp,tn,J,H2,e,I2,T,st2,f2,RR⟩:=h2
 subst e
 refine wpAny_newObj_type (wpAny_newFunctionEnv ck.cell (by intro y hy;simp at hy) (fun h₁ hns₁ hsb₁=>?_) ck.kind)
 dsimp only at hns₁ hsb₁ ⊢
 have hD:=I2.fresh
 have I3:Inv X pins σ (upd H2 s2.heap.objs.size (.lst [])) { s2 with heap:=s2.heap.push { cls:=.type "list",dict:=none,data:=.seq ([]:List Value).toArray },toks:=s2.toks }:=I2.Wn (its:=[]) .nil (Nat.zero_le _)
 obtain⟨W,⟨m0,w0⟩,turn⟩:=RR _ hD
 have olt:∀ b∈fp,b<s2.heap.objs.size:=fun b hb=>by
  obtain⟨o,e,_⟩:=T.obj _ _ st2 b hb
  exact Heap.lt_size e
 generalize hDD:s2.heap.objs.size=Da at *
 generalize hH3:upd H2 Da (.lst [])=H3 at *
 have f3:∀ b∈fp,Ga X pins H3 b:=fun b hb=>⟨by rw[← hH3,Bb (Nat.ne_of_lt (olt b hb))];exact (f2 b hb).1,(f2 b hb).2⟩
 generalize hs3:({ s2 with heap:=s2.heap.push { cls:=.type "list",dict:=none,data:=.seq ([]:List Value).toArray },toks:=s2.toks }:Shared)=s3 at *
 have e3:s2.heap.push { cls:=.type "list",dict:=none,data:=.seq ([]:List Value).toArray }=s3.heap:=by rw[← hs3]
 rw[e3] at hns₁ hsb₁ ⊢
 have up2:∀ b o,s2.heap.get? b=some o→s3.heap.get? b=some o:=fun b o e=>by rw[← e3];exact Heap.get?_push_of_some _ e
 have hlt:∀ b∈fp,b<s3.heap.objs.size:=fun b hb=>by
  obtain⟨o,e,_⟩:=T.obj _ _ st2 b hb
  exact Heap.lt_size (up2 _ _ e)
 have keep:∀ b o,s3.heap.get? b=some o→h₁.get? b=some o:=fun b o e=>hsb₁.extBut b o (Nat.ne_of_lt (Heap.lt_size e)) (Heap.get?_push_of_some _ e)
 have stat:∀ {H':Hp},(∀ b∈fp,H' b=none)→∀ b∈fp,Ga (Cd X (own++fv.map (·.2)) scope cl fp pins s3 H3) [] H' b:=fun {H'} hn b hb=>by
  have ok:=jH (own:=own) (fv:=fv) I3 ck f3 hlt
  refine⟨hn b hb,(ok.exf b hb).1,ok.exfs b hb,.inl hb,(ok.exf b hb).2,fun p hp=>?_⟩
  have hp':p∈X.pn++pins:=by
   rcases List.mem_append.mp hp with z | z
   ·exact z
   ·cases z
  exact (f3 b hb).2.2.2.2.2 p hp'
 have loop:∀ s4:Shared,Inv (Cd X (own++fv.map (·.2)) scope cl fp pins s3 H3) [] (GF own.length fv σ) H3 s4→tn 0 s4.heap →
   codeAny (model X.prog X.w) X.A (.compLoop (.ListComp elt [⟨tg,iter,ifs,0⟩] scope pos) 0 (.ref it) (.ref Da) (compEnvC scope cl s3.heap.objs.size X.env)) (compPost (model X.prog X.w) X.A X.xe use Q (.ref Da) s3.heap.objs.size) s4:=by
  intro s4 I4 st4
  refine AG3 (fun n s'=>∃ i ys H',Inv (Cd X (own++fv.map (·.2)) scope cl fp pins s3 H3) [] (GF own.length fv σ) H' s'∧tn i s'.heap∧(∀ b∈fp,H' b=none)∧W i n ys H') ?_ m0
   ⟨0,[],H3,I4,st4,fun b hb=>(f3 b hb).1,w0⟩
  rintro n s5 ⟨i,ys,H5,I5,st5,fr5,w5⟩
  obtain⟨hDl,alt⟩:=turn i n ys H5 w5
  rcases alt with⟨stop,qn⟩ | ⟨go,NN,hNN,step⟩
  ·refine BL (T.done (Cd X (own++fv.map (·.2)) scope cl fp pins s3 H3) rfl rfl rfl hc i [] s5 _ H5 _ I5 (stat fr5) st5 stop) fun r s6 ⟨hr,I6⟩=>?_
   subst hr
   have hx:=AJr I3 I6
   refine fin Da _ H5 s6 (AGY I3 f3 I6) qn hx.1 hx.2 (fun J5 σ1 H1 s1 h' J1 hp1 hn1 sb=>AFT I3 J1 hp1 hn1 sb) ⟨Ne.symm (Nat.ne_of_lt I3.lt),I3.lQ (Nat.le_refl _)⟩
  ·refine BL (T.item (Cd X (own++fv.map (·.2)) scope cl fp pins s3 H3) rfl rfl rfl hc i [] s5 _ H5 _ I5 (stat fr5) st5 go) fun r s6 ⟨u,hr,h6⟩=>?_
   subst hr
   refine BL h6 fun _ s7 ⟨x,H7,I7,r7,y7,st7,fr7⟩=>?_
   have I7':=I7.pinned (stat fr7) (T.obj _ _ st7)
   refine wpAny_mono (bg fp pins s3 H3 _ s7 _ H7 x u _ I7' r7 (gk _ _ _ _ (step x H7 y7))) (fun _ s8 ⟨σ8,H8,I8,⟨kl,kk⟩,q8⟩=>?_) (fun _ _ f=>f.elim)
   have weak:∀ {H9:Hp}{s9:Shared},Inv (Cd X (own++fv.map (·.2)) scope cl fp pins s3 H3) ([]++Ql fp s7.heap) σ8 H9 s9 →
     Inv (Cd X (own++fv.map (·.2)) scope cl fp pins s3 H3) [] (GF own.length fv σ) H9 s9∧tn (i+1) s9.heap∧(∀ b∈fp,H9 b=none):=fun {H9 s9} I9=>by
    refine⟨I9.Px.weak kl.symm (fun j v hj=>?_),T.keep _ _ _ st7 fun b hb o e=>(I9.pin (b,o) (Bc (Bc (Uq hb e)))).1,fun b hb=>?_⟩
    ·rw[kk j (j4 hj).1]
     exact hj
    ·obtain⟨o,e,d⟩:=T.obj _ _ st7 b hb
     exact (I9.pin (b,o) (Bc (Bc (Uq hb e)))).2.1
   refine wpAny_mono (bt fp pins s3 H3 _ s8 σ8 H8 _ I8 q8) (fun b s9 ⟨H9,I9,q9⟩=>?_) (fun _ _ f=>f.elim)
   cases b with
   | false =>
    have q9':NN ys H9:=q9
    obtain⟨m',hm,w9⟩:=hNN _ _ q9'
    have wk:=weak I9
    rw[if_neg Bool.false_ne_true]
    exact⟨m',hm,i+1,ys,H9,wk.1,wk.2.1,wk.2.2,w9⟩
   | true =>
    rw[if_pos rfl]
    rw[if_pos rfl] at q9
    refine wpAny_mono (be fp pins s3 H3 _ s9 σ8 H9 _ I9 q9) (fun y s10 ⟨v10,H10,I10,r10,d10,l10,n10⟩=>?_) (fun _ _ f=>f.elim)
    obtain⟨m',hm,w10⟩:=hNN _ _ n10
    refine wpAny_mono (sJ (X:=Cd X (own++fv.map (·.2)) scope cl fp pins s3 H3) _ s10 σ8 H10 (.ref Da) [v10] (.ref Da) [y] (fun _ H11=>H11=upd H10 Da (.lst (ys++[v10]))) I10 rfl (.cons r10 .nil) ⟨Da,ys,v10,rfl,rfl,d10,l10,rfl⟩)
     (fun _ s11 ⟨v11,H11,I11,_,e11⟩=>?_) (fun _ _ f=>f.elim)
    subst e11
    have wk:=weak I11
    exact⟨m',hm,i+1,ys++[v10],_,wk.1,wk.2.1,wk.2.2,w10⟩
 have I4:Inv (Cd X (own++fv.map (·.2)) scope cl fp pins s3 H3) [] (GF own.length fv σ) H3 { s3 with heap:=h₁,toks:=s3.toks+([]:List (Str×Value)).length }:=ACj I3 ck fo f3 hlt hns₁ keep
 have st4:tn 0 h₁:=T.keep _ _ _ st2 fun b hb o e=>keep b o (up2 b o e)
 have hfin:∀ s4:Shared,s4={ s3 with heap:=h₁,toks:=s3.toks+([]:List (Str×Value)).length } →
   codeAny (model X.prog X.w) X.A (.compStart (.ListComp elt [⟨tg,iter,ifs,0⟩] scope pos) 0 (.ref it) (.ref Da) (compEnvC scope cl s3.heap.objs.size X.env)) (compPost (model X.prog X.w) X.A X.xe use Q (.ref Da) s3.heap.objs.size) s4:=by
  rintro s4 rfl
  refine codeAny_compStart_list (loop _ I4 st4) (T.self _ 0 _ _ _ st4 (loop _ I4 st4))
 refine hfin _ ?_
 rw[← hs3]
noncomputable def freeOk (X:Cx)(scope:Scope):Bool:=scope.names.all fun y=>!(y.2 == NameKind.free) || (X.env.scope.names.lookup y.1 == some .cell) || (X.env.scope.names.lookup y.1 == some .free)
theorem freeOk.all {X:Cx}{scope:Scope}(h:freeOk X scope=true):∀ y∈scope.names,y.2=.free→X.env.kindOf y.1=some .cell∨X.env.kindOf y.1=some .free:=fun y hy e=>by
 have z:=List.all_eq_true.mp h y hy
 rw[Bool.or_eq_true,Bool.or_eq_true] at z
 rcases z with (z | z) | z
 ·rw[e] at z
  exact absurd z (by decide)
 ·exact .inl (eq_of_beq z)
 ·exact .inr (eq_of_beq z)
theorem X7 {X:Cx}{scope:Scope}(h:∀ y∈scope.names,y.2≠.free):freeOk X scope=true:=List.all_eq_true.mpr fun y hy=>by
 have z:(y.2 == NameKind.free)=false:=by simpa using h y hy
 rw[z]
 rfl
theorem cW {pos:Pos}(own:List Str)(fv:List (Nat×Str))(hc:X.calm=true)(hi:PI X tg iter wi)(fo:GX X scope fv)(gk:HW own.length g)(bg:∀ fp pins s H,PG (Cd X (own++fv.map (·.2)) scope (Dc X.env scope.names []) fp pins s H) tg g)(bt:∀ fp pins s H,Ob (Cd X (own++fv.map (·.2)) scope (Dc X.env scope.names []) fp pins s H) ifs tc)(be:∀ fp pins s H,PE (Cd X (own++fv.map (·.2)) scope (Dc X.env scope.names []) fp pins s H) elt te)(kind:scope.kind=.function)(cell:∀ y∈scope.names,y.2≠.cell)(names:∀ x∈scope.names,x.2=.local→scope.names.lookup x.1=some .local)(free:freeOk X scope=true)(hs:∀ x,foldedSetIterable iter X.env x=pure x:=by intro _;rfl) :
  PE X (.ListComp elt [⟨tg,iter,ifs,0⟩] scope pos) (HN wi g tc te own.length fv):=by
 intro pins s σ H Q I h
 rw[eval_ListComp]
 refine eU (use:=none) hc hi I (oW I.ok kind cell names (freeOk.all free)) fo gk bg bt be hs h fun D C H' s' I' q ⟨m,hm⟩ hn forget _=>?_
 exact⟨m,hm,fun h' sb=>⟨.ref D,H',forget pins σ H' s' h' I' (fun _ z=>z) hn sb,rfl,q⟩⟩
theorem qW {pos spos py:Pos}{i:Nat}{y:Str}(own:List Str)(fv:List (Nat×Str))(hN:X.N.Nodup)(hy:X.N[i]?=some y)(hx:Loc X.env.scope y)(hc:X.calm=true)(hi:PI X tg iter wi)(fo:GX X scope fv)(gk:HW own.length g)(bg:∀ fp pins s H,PG (Cd X (own++fv.map (·.2)) scope (Dc X.env scope.names []) fp pins s H) tg g)(bt:∀ fp pins s H,Ob (Cd X (own++fv.map (·.2)) scope (Dc X.env scope.names []) fp pins s H) ifs tc)(be:∀ fp pins s H,PE (Cd X (own++fv.map (·.2)) scope (Dc X.env scope.names []) fp pins s H) elt te)(kind:scope.kind=.function)(cell:∀ y∈scope.names,y.2≠.cell)(names:∀ x∈scope.names,x.2=.local→scope.names.lookup x.1=some .local)(free:freeOk X scope=true)(hsw:swapsWith (.ListComp elt [⟨tg,iter,ifs,0⟩] scope pos) (some (.Name y py)) spos.line X.env=pure true)(hs:∀ x,foldedSetIterable iter X.env x=pure x:=by intro _;rfl)(hf:X.fn y=true∨X.env.scope.names.lookup y=some .local:=by first | exact Or.inl rfl | exact Or.inr rfl) :
  PS X (.Assign [.Name y py] (.ListComp elt [⟨tg,iter,ifs,0⟩] scope pos) spos) (Dq (HN wi g tc te own.length fv) (Df i)):=by
 intro pins s σ H D I h
 rw[exec_Assign_Name_used _ _ _ _ hsw]
 refine wpAny_bind (wpAny_standAt (wpAny_bind ?_))
 show wpAny _ X.A (do let _ ← comprehension (.ListComp elt [⟨tg,iter,ifs,0⟩] scope pos) scope X.env _ (newList []) false (eval iter X.env) (some (assign (.Name y py) X.env))) _ _ s
 refine wpAny_bind (wpAny_mono (eU (use:=some (assign (.Name y py) X.env)) (Q:=fun _ s'=>SP X pins D .next s') hc hi I (oW I.ok kind cell names (freeOk.all free)) fo gk bg bt be hs h
  fun Da C H' s' I' q hm hn forget hC=>?_) (fun _ s' hq=>wpAny_pure (wpAny_pure hq)) fun _ _ e=>e)
 obtain⟨m,o,es,ep,e,d,r⟩:=hm
 have I2:Inv X (pins++[(C,o)]) σ H' s':=I'.YW fun p hp=>by
  rcases List.mem_append.mp hp with z | z
  ·exact I'.pin p (Bc z)
  ·rw[List.mem_singleton.mp z]
   exact⟨e,hn,hC.1,hC.2,fun v z=>by rw[d] at z;cases z⟩
 refine BL (Iu hN hy hx hf _ s' σ H' (.ref Da) (.ref Da) _ I2 rfl q) fun _ s'' ⟨σ2,H2,I3,q2⟩=>?_
 have pc:=I3.pin (C,o) (Bc (Bc (List.mem_singleton.mpr rfl)))
 exact⟨m,⟨o,es,ep,pc.1,d,r⟩,fun h' sb=>⟨σ2,H2,forget pins σ2 H2 s'' h' I3.Px (fun _ z=>z) pc.2.1 sb,q2⟩⟩
theorem dD {J:It}{D:Addr}{n:Nat}{σ0:St}{H:Hp}{Q:VK}(Pv:Nat→List V→Hp→Prop)(h0:Pv 0 [] H)(hD:∀ i ys H,Pv i ys H→H D=some (.lst ys))(hgo:∀ i ys H,i<n→Pv i ys H→J.go i H) (hs:∀ i ys H x H',i<n→Pv i ys H→J.yld i H x H'→g x σ0 H' fun σ2 H2=>tc σ2 H2 fun b H3 =>
   if b=true then te σ2 H3 fun v H4=>H4 D=some (.lst ys)∧ys.length<sizeLine∧Pv (i+1) (ys++[v]) (upd H4 D (.lst (ys++[v]))) else Pv (i+1) ys H3)
  (hd:∀ ys H,Pv n ys H→J.stop n H∧Q (.ref D) H) :
  jR J g tc te σ0 D Q H:=by
 refine⟨fun i m ys H=>m=n-i∧i≤n∧Pv i ys H,⟨n,by simp,Nat.zero_le _,h0⟩,?_⟩
 rintro i m ys H ⟨rfl,hi,p⟩
 refine⟨hD i ys H p,?_⟩
 by_cases hlt:i<n
 ·exact .inr ⟨hgo i ys H hlt p,Pv (i+1),fun ys' H' z=>⟨n-(i+1),by omega,rfl,hlt,z⟩,fun x H' y=>hs i ys H x H' hlt p y⟩
 ·have e:i=n:=by omega
  subst e
  exact .inl (hd ys H p)
end
structure Callee (P:Program)(w:World)(K:Frag)(mg:Str→Option Value)(base:Heap)(k:Nat)(x:Str)(ps:List Str)(sp:Sp):Prop where
 ex:∃ (f:Addr) (fd:FuncData),Gd P w K mg base Hd k f fd ps sp∧mg x=some (.ref f)∧keepIn K (.ref f)=true∧Binds K fd ps []∧∃ o,K.lookup f=some o∧o.data=.func fd
theorem Callee.mono {P:Program}{w:World}{K:Frag}{mg:Str→Option Value}{base:Heap}{j k:Nat}{x:Str}{ps:List Str}{sp:Sp}(C:Callee P w K mg base j x ps sp)(h:j≤k):Callee P w K mg base k x ps sp:=by
 obtain⟨f,fd,F,r⟩:=C.ex
 exact⟨f,fd,F.mono h,r⟩
theorem Callee.imp {P:Program}{w:World}{K:Frag}{mg:Str→Option Value}{base:Heap}{k:Nat}{x:Str}{ps:List Str}{sp sp':Sp}(C:Callee P w K mg base k x ps sp)(h:∀ vs H Q E,sp' vs H Q E→sp vs H Q E):Callee P w K mg base k x ps sp':=by
 obtain⟨f,fd,F,r⟩:=C.ex
 exact⟨f,fd,F.imp h,r⟩
structure Def (K:Frag)(mg:Str→Option Value)(x:Str)(st:Stmt)(ps:List Str):Prop where
 ex:∃ (f:Addr) (fd:FuncData),Mz K x x st f fd∧mg x=some (.ref f)∧Binds K fd ps []∧∀ (s:Shared) (us:List Value),us.length=ps.length→BindsTo s fd ⟨us,[]⟩ (ps.zip us)
section
variable {P:Program}{w:World}{K:Frag}{mg:Str→Option Value}{base:Heap}
theorem Def.ok {x:Str}{st:Stmt}{N ps:List Str}{k:Nat}{sp:Sp}(D:Def K mg x st ps)(S:K1 N ps (Dj st))(len:∀ vs H Q E,sp vs H Q E→vs.length=ps.length) (hbody:∀ (f:Addr) (cdv:Value) (A:Around) (outer:List Env) (s:Shared) (H:Hp) (vs:List V) (Q:VK) (E:XK),Cy k (A.deeper (envOfC x (Dj st) s.heap.objs.size f cdv))→sp vs H Q E →
   ∃ t,Gh (IW Hd P w K mg base N x (Dj st) f cdv A outer s H E).Jr (Gq st) t∧t { nx:=fun _ H'=>Q .non H',rt:=Q } (start N vs) H):Callee P w K mg base (k+1) x ps sp:=by
 obtain⟨f,fd,F,m,b,_⟩:=D.ex
 obtain⟨oc,od,kV,doc,pm,an,cdv,ct,osl,_,lk,_⟩:=F.ex
 exact⟨f,fd,F.ok S len (fun cdv A outer s H vs Q E hr h=>hbody f cdv A outer s H vs Q E hr h),m,F.kp,b,_,lk,rfl⟩
theorem AEq {x:Str}{st:Stmt}{k:Nat}{sp:Sp}{fa:Addr}(D:Def K mg x st ["script"])(hfa:mg x=some (.ref fa))(C:∀ base:Heap,K.In base→base.Ns mainGlobals mg→Callee P w K mg base k x ["script"] sp) :
  ∃ fd:FuncData,(∀ (s:Shared) (u:Value),BindsTo s fd ⟨[u],[]⟩ [("script",u)])∧∀ base:Heap,K.In base→base.Ns mainGlobals mg→Gd P w K mg base Hd k fa fd ["script"] sp:=by
 obtain⟨f,fd,F,m,b,bt⟩:=D.ex
 obtain⟨oc,od,kV,doc,pm,an,cdv,ct,osl,_,lk,_⟩:=F.ex
 refine⟨fd,fun s u=>bt s [u] rfl,fun base kb nb=>?_⟩
 obtain⟨f',fd',F',m',_,_,o,lk',e⟩:=(C base kb nb).ex
 rw[m] at hfa
 cases hfa
 rw[m] at m'
 cases m'
 rw[lk] at lk'
 cases lk'
 cases e
 exact F'
theorem ACb {h:Heap}{x:Str}{st:Stmt}{ps:List Str}{f:Addr}{oc:Value}{od an:Option Addr}{osl:Array (Option Value)}{kV doc pm cdv ct:Value}(X:K.In h)(G:h.Ns mainGlobals mg)(hb:∀ (kV doc pm:Value) (an:Option Addr) (cdv ct:Value) (us:List Value),us.length=ps.length→bindArgs (fnOf x x (JD st) (Gq st) (Dj st) .none kV doc pm an cdv ct) ⟨us,[]⟩=pure (ps.zip us))(a:nsIn K mainGlobals x=some (some (.ref f)))(l:K.lookup f=some ⟨oc,od,.func (fnOf x x (JD st) (Gq st) (Dj st) .none kV doc pm an cdv ct),osl⟩)(c:codeIn K cdv x=true)(k:keepIn K (.ref f)=true):Def K mg x st ps:=by
 have F:=AAt (st:=st) l c k
 exact⟨f,_,F,mg_of X G a,F.binds hb,fun s us hl=>.of_eq (hb _ _ _ _ _ _ us hl)⟩
end
section
variable {X:Cx}{k:Nat}{x:Str}{ps:List Str}{sp:Sp}{p pos:Pos}{e:Expr}{es:List Expr}{t:TA}
theorem Qp (C:Callee X.prog X.w X.K X.mg X.base k x ps sp)(hr:Cy k X.A)(hg:Gl X x)(ha:PA X (e::es) t)(hdb:(x == ("__debug__":Str))=false:=by decide)
  (hst:starEach (e::es) X.env=(false,eval e X.env)::starEach es X.env:=by rfl) (hpl:(backTo pos (starEach es X.env)).any (·.1)=false:=by rfl):PE X (.Call (.Name x p) (e::es) [] pos) (JH sp [] E0 t):=by
 obtain⟨f,fd,F,m,kp,b,_⟩:=C.ex
 exact AI0 F hr hg m kp b .nil AHG ha hdb hst hpl
end
section
variable {X:Cx}
inductive BT (H:Hp):V→String→Prop where
 | non:BT H .non "NoneType"
 | bl (x:Bool):BT H (.bl x) "bool"
 | int (i:Int):BT H (.int i) "int"
 | str (x:Str):BT H (.str x) "str"
 | lst {a:Addr}{xs:List V} (e:H a=some (.lst xs)):BT H (.ref a) "list"
 | tup {a:Addr}{xs:List V} (e:H a=some (.tup xs)):BT H (.ref a) "tuple"
 | dct {a:Addr}{kvs:List (Key×V)} (e:H a=some (.dK kvs)):BT H (.ref a) "dict"
noncomputable def PQ (T U:String):Bool:=T == U || (T == "bool" && U == "int")
end
structure qC (K:Frag)(C:Addr):Prop where
 ns:nsIn K mainGlobals "Keeper"=some (some (.ref C))
 cl:rR K C
 ha:findIn K (.ref C) "__class__"=some (some (.builtin "object.__class__"))
 hn:PySem.W.specialIn K (.builtin "object.__class__") "__get__"=some (some (.builtin "getset_descriptor.__get__"))
 htk:PySem.W.takesIn K (.builtin "object.__class__")=some true
 hm:mroIn K C (.type "object")=some true
 ki:∀ U∈["bool","int","str","list","tuple"],kitOne K (.ref C) (.type U)=some false
noncomputable def pO (ks:List Str)(ds:List PyData):List (PyData×PyData):=(.none,.none)::(ks.zip ds).map fun p=>(.str p.1,p.2)
mutual
inductive Rep (K:Frag)(H:Hp):V→PyData→Prop
 | non:Rep K H .non .none
 | bl (b:Bool):Rep K H (.bl b) (.bool b)
 | int (i:Int):Rep K H (.int i) (.int i)
 | str (x:Str):Rep K H (.str x) (.str x)
 | lst {a:Addr}{xs:List V}{ds:List PyData}:BP K H a xs→Ar K H xs ds→Rep K H (.ref a) (.list ds)
 | tup {a:Addr}{xs:List V}{ds:List PyData}:Ds K H a xs→Ar K H xs ds→Rep K H (.ref a) (.tuple ds)
 | dic {a:Addr}{kvs:List (Key×V)}:H a=some (.dK kvs)→Rep K H (.ref a) (.dict [])
 | obj {a C dx:Addr}{fs:List (Str×V)}{ds:List PyData}{kvs:List (PyData×PyData)}:qC K C→H a=some (.ins C dx fs)→Ar K H (fs.map (·.2)) ds→kvs=pO (fs.map (·.1)) ds→Rep K H (.ref a) (.dict kvs)
inductive Ar (K:Frag)(H:Hp):List V→List PyData→Prop
 | nil:Ar K H [] []
 | cons {x:V}{d:PyData}{xs:List V}{ds:List PyData}:Rep K H x d→Ar K H xs ds→Ar K H (x::xs) (d::ds)
end
theorem Aj.Km {K:Frag}{H H':Hp}{a:Addr}{xs:List V}(e:Aj H H')(h:Ds K H a xs):Ds K H' a xs:=by
 rcases h with (h | ⟨o,h⟩) | h
 ·exact .inl (.inl (e _ _ h))
 ·exact .inl (.inr ⟨o,e _ _ h⟩)
 ·exact .inr h
theorem Aj.new {H:Hp}{p:Addr}{o:HO}(h:H p=none):Aj H (upd H p o):=fun b u e=>by
 rw[Bb (Cg e h)]
 exact e
mutual
theorem Rep.mono {K:Frag}{H H':Hp}(e:Aj H H'):∀ {x:V}{d:PyData},Rep K H x d→Rep K H' x d
 | _,_,.non=>.non
 | _,_,.bl b=>.bl b
 | _,_,.int i=>.int i
 | _,_,.str x=>.str x
 | _,_,.lst q r=>.lst (e.seq q) (Ar.mono e r)
 | _,_,.tup q r=>.tup (e.Km q) (Ar.mono e r)
 | _,_,.dic q=>.dic (e _ _ q)
 | _,_,.obj k q r z=>.obj k (e _ _ q) (Ar.mono e r) z
theorem Ar.mono {K:Frag}{H H':Hp}(e:Aj H H'):∀ {xs:List V}{ds:List PyData},Ar K H xs ds→Ar K H' xs ds
 | _,_,.nil=>.nil
 | _,_,.cons q r=>.cons (Rep.mono e q) (Ar.mono e r)
end
section
variable {X:Cx}{pins:List (Addr×Obj)}{σ:St}{H:Hp}{s:Shared}
mutual
theorem Rep.reads (I:Inv X pins σ H s):∀ {x:V}{d:PyData},Rep X.K H x d→d.canLay0=true→∀ {u:Value},RelV x u→∃ as,Reads s.heap u d as
 | _,_,.non,_,_,r=>by cases r;exact⟨_,.none⟩
 | _,_,.bl b,_,_,r=>by cases r;exact⟨_,.bool b⟩
 | _,_,.int i,_,_,r=>by obtain⟨t,rfl⟩:=r;exact⟨_,.int i t⟩
 | _,_,.str x,_,_,r=>by obtain⟨t,rfl⟩:=r;exact⟨_,.str x t⟩
 | _,_,.lst q r,h,_,rv=>by
  cases rv
  obtain⟨its,v,pl,_⟩:=I.list q
  obtain⟨as,z⟩:=Ar.reads I r h v
  obtain⟨o,n,e,c,_,d⟩:=pl
  exact⟨_,reads_list_at e c d (by simpa using z)⟩
 | _,_,.tup q r,h,_,rv=>by
  cases rv
  obtain⟨its,v,pl,_⟩:=I.tuple q
  obtain⟨as,z⟩:=Ar.reads I r h v
  obtain⟨o,e,c,n,d⟩:=pl
  exact⟨_,reads_tuple_at e c d (by simpa using z)⟩
 | _,_,.dic _,h,_,_=>by cases h
 | _,_,.obj _ _ _ _,h,_,_=>by cases h
theorem Ar.reads (I:Inv X pins σ H s):∀ {xs:List V}{ds:List PyData},Ar X.K H xs ds→PyData.canLayAll0 ds=true→∀ {us:List Value},Vals xs us→∃ as,ReadsAll s.heap us ds as
 | _,_,.nil,_,_,.nil=>⟨_,.nil⟩
 | _,_,.cons q r,h,_,.cons v vs=>by
  obtain⟨h1,h2⟩:=Bool.and_eq_true_iff.mp h
  obtain⟨as,z⟩:=Rep.reads I q h1 v
  obtain⟨bs,z2⟩:=Ar.reads I r h2 vs
  exact⟨_,.cons z z2⟩
end
end
section
variable {X:Cx}
theorem AFG (hu:X.A.units+64<cLine):EY X (compareOp .Eq) (fun x y H Q=>∃ d e,Rep X.K H x d∧Rep X.K H y e∧SeqAt.shaped d=true∧SeqAt.shaped e=true∧Q (.bl (PyData.eqv d e)) H):=by
 intro pins s σ H x y v u Q I rx ry h
 obtain⟨d,e,rd,re,sd,se,q⟩:=h
 obtain⟨as,ra⟩:=rd.reads I (Bool.and_eq_true_iff.mp sd).1 rx
 obtain⟨bs,rb⟩:=re.reads I (Bool.and_eq_true_iff.mp se).1 ry
 exact eq_dataH ra rb sd se hu ⟨.bl _,H,I,rfl,q⟩
theorem AGi (hu:X.A.units+64<cLine):EY X (compareOp .NotEq) (fun x y H Q=>∃ d e,Rep X.K H x d∧Rep X.K H y e∧SeqAt.shaped d=true∧SeqAt.shaped e=true∧Q (.bl (!PyData.eqv d e)) H):=by
 intro pins s σ H x y v u Q I rx ry h
 obtain⟨d,e,rd,re,sd,se,q⟩:=h
 obtain⟨as,ra⟩:=rd.reads I (Bool.and_eq_true_iff.mp sd).1 rx
 obtain⟨bs,rb⟩:=re.reads I (Bool.and_eq_true_iff.mp se).1 ry
 exact ne_dataH ra rb sd se hu ⟨.bl _,H,I,rfl,q⟩
theorem AJA {A:Around}{k:Nat}(hr:Cy k A):A.units+64<cLine:=hr.units
end
theorem AEj (a b c d:Int):PyData.eqv (.tuple [.int a,.int b]) (.tuple [.int c,.int d])=decide (a=c∧b=d):=by
 simp [PyData.eqv,PyData.eqvAll]
 by_cases h1:a=c<;>by_cases h2:b=d<;>simp [h1,h2]
section
variable {X:Cx}{pins:List (Addr×Obj)}{σ:St}{H:Hp}{s:Shared}{h':Heap}
theorem Inv.n6 {t':Nat}{ch:List Addr}(I:Inv X pins σ H s)(hch:∀ b∈ch,Ga X pins H b)(k:∀ b u,b ∉ ch→s.heap.get? b=some u→h'.get? b=some u):Inv X pins σ H { s with heap:=h',toks:=t' }:=by
 have nch:∀ b u,H b=some u→b ∉ ch:=fun b u e z=>by rw[(hch b z).1] at e;cases e
 refine I.step (g':=s.gens) (d':=s.drawn) (ch:=ch) (fun b hb=>⟨(hch b hb).2.2.2.1,(hch b hb).2.1,(hch b hb).2.2.2.2.1,(hch b hb).2.2.2.2.2⟩) (fun b o _ _ hc e _=>k b o hc e) (fun b o _ _ hc e _=>⟨o.slots,k b o hc e⟩) (fun _ _ _ _ n=>n)
  (fun b o hc e=>⟨o,k b o hc e⟩) (fun _ _ e=>e) (fun _ _ _ e=>e) (fun b ps e=>⟨#[],by rw[e];simp⟩) (fun m hm=>?_) (fun b u e=>?_) I.bare
 ·obtain⟨o,es,ep,ho,r⟩:=hm
  exact⟨o,es,ep,k _ o (fun z=>(hch _ z).2.1 rfl) ho,r⟩
 ·refine (I.hok b u e).Kg (fun c v hc q=>k c v ?_ q) (fun _ q=>q) fun _ _ q=>q
  rcases hc with z | z
  ·rw[z];exact nch b u e
  ·exact nch c _ z
theorem Inv.gM {t':Nat}{ch:List Addr}{a:Addr}{o:HO}(I:Inv X pins σ H s)(hch:∀ b∈ch,Ga X pins H b)(k:∀ b u,b ∉ ch→s.heap.get? b=some u→h'.get? b=some u)(hp:s.heap.objs.size≤a)(new:Ej X.prog X.w (upd H a o) h' a o):Inv X pins σ (upd H a o) { s with heap:=h',toks:=t' }:=by
 have nch:∀ b u,H b=some u→b ∉ ch:=fun b u e z=>by rw[(hch b z).1] at e;cases e
 have hn:H a=none:=I.hok.fresh hp
 refine I.step (g':=s.gens) (d':=s.drawn) (ch:=ch) (fun b hb=>⟨(hch b hb).2.2.2.1,(hch b hb).2.1,(hch b hb).2.2.2.2.1,(hch b hb).2.2.2.2.2⟩) (fun b o _ _ hc e _=>k b o hc e) (fun b o _ _ hc e _=>⟨o.slots,k b o hc e⟩)
  (fun b u _ e n=>by rw[Bb (Nat.ne_of_lt (Nat.lt_of_lt_of_le (Heap.lt_size e) hp))];exact n)
  (fun b o hc e=>⟨o,k b o hc e⟩) (fun b xs e=>by rw[Bb (Cg e hn)];exact e) (fun b u xs e=>by rw[Bb (Cg e hn)];exact e) (fun b ps e=>⟨#[],by rw[Bb (Cg e hn),e];simp⟩) (fun m hm=>?_) (fun b u e=>?_) I.bare
 ·obtain⟨o,es,ep,ho,r⟩:=hm
  exact⟨o,es,ep,k _ o (fun z=>(hch _ z).2.1 rfl) ho,r⟩
 ·by_cases hb:b=a
  ·subst hb
   rw[Cm] at e
   cases e
   exact new
  ·rw[Bb hb] at e
   refine (I.hok b u e).Kg (fun c v hc q=>k c v ?_ q) (fun c q=>by rw[Bb (Cg q hn)];exact q) fun c xs q=>by rw[Bb (Cg q hn)];exact q
   rcases hc with z | z
   ·rw[z];exact nch b u e
   ·exact nch c _ z
end
noncomputable def XN (K:Frag)(a:Addr):It :=
 ⟨fun i H=>∃ xs x,BP K H a xs∧xs[i]?=some x,fun i H x H'=>∃ p y,H p=none∧x=.ref p∧H'=upd H p (.tup [.int i,y])∧∀ xs,BP K H a xs→xs[i]?=some y,fun i H=>∃ xs,BP K H a xs∧xs.length≤i⟩
theorem AIK {P:Program}{w:World}{K:Frag}{elts:List Expr}{k1:Nat}{pos:Pos}(a e it:Addr)(hei:e≠it) :
  Turn P w K (.Tuple elts k1 pos) (XN K a) [e,it] e (fun i h=>(∃ old,IsEnum h e it i old)∧h.IsListIter it a i) where
 mem:=by simp
 obj:=fun i h st b hb=>by
  obtain⟨⟨old,he⟩,hit⟩:=st
  rcases List.mem_cons.mp hb with rfl | hb
  ·exact⟨_,he,fun v z=>by
    have z':Data.fields _=Data.cell v:=z
    cases z'⟩
  ·have e2:b=it:=by simpa using hb
   subst e2
   obtain⟨o,e3,c,d⟩:=hit
   exact⟨o,e3,fun v z=>by rw[d] at z;cases z⟩
 keep:=fun i h h' st k=>by
  obtain⟨⟨old,he⟩,hit⟩:=st
  exact⟨⟨old,k e (by simp) _ he⟩,hit.at fun o q=>k it (by simp) o q⟩
 item:=by
  intro X hP hw hK hc i pins s σ H E I hf st hg
  subst hP hw hK
  obtain⟨xs,x,hq,hx⟩:=hg
  obtain⟨its,rv,p,hz⟩:=I.list hq
  obtain⟨u,hu,ru⟩:=rv.get hx
  obtain⟨⟨old,he⟩,hit⟩:=st
  refine wpAny_pyNext_enum_item he hit p.isList (x:=u) (by simpa using hu) hei fun h1 ho hit1 hT hsz hk=>?_
  refine⟨_,rfl,wpAny_letOwnedTupleGo_enum ho fun h2 he2 hs2=>?_⟩
  have hlt:e<s.heap.objs.size:=Heap.lt_size he
  have hilt:it<s.heap.objs.size:=by obtain⟨_,q,_⟩:=hit;exact Heap.lt_size q
  have hT2:h2.get? s.heap.objs.size=some { cls:=.type "tuple",data:=.seq #[.int i s.toks,u] }:=(hs2.2 _ (Nat.ne_of_gt hlt)).trans hT
  have I2:Inv X pins σ (upd H s.heap.objs.size (.tup [.int i,x])) { s with heap:=h2,toks:=s.toks+1 }:=I.gM (ch:=[e,it]) hf (fun b o hb q=>by
   have n1:b≠e:=fun z=>hb (by simp [z])
   have n2:b≠it:=fun z=>hb (by simp [z])
   exact (hs2.2 b n1).trans (hk b o n1 n2 q)) (Nat.le_refl _) ⟨by show 2≤sizeLine;decide,[.int i s.toks,u],.cons ⟨_,rfl⟩ (.cons ru .nil),_,hT2,rfl,_,rfl⟩
  refine⟨.ref s.heap.objs.size,_,I2,rfl,⟨_,x,I.hok.fresh (Nat.le_refl _),rfl,rfl,fun ys hy=>by rw[I.Ul hy hq];exact hx⟩,⟨⟨_,by simpa using he2⟩,hit1.at fun o q=>(hs2.2 it hei.symm).trans q⟩,fun b hb=>?_⟩
  have hb':b<s.heap.objs.size:=by
   rcases List.mem_cons.mp hb with rfl | hb
   ·exact hlt
   ·have e2:b=it:=by simpa using hb
    rw[e2];exact hilt
  rw[Bb (Nat.ne_of_lt hb')]
  exact (hf b hb).1
 done:=by
  intro X hP hw hK hc i pins s σ H E I hf st hg
  subst hP hw hK
  obtain⟨xs,hq,hx⟩:=hg
  obtain⟨its,rv,p,hz⟩:=I.list hq
  have hl:=rv.length
  obtain⟨⟨old,he⟩,hit⟩:=st
  refine wpAny_pyNext_enum_end (I.ok.hd hc) he hit p.isList (by simp;omega) fun h1 hk=>⟨rfl,I.n6 (t':=s.toks) (ch:=[e,it]) hf fun b o hb q=>hk b o (fun z=>hb (by simp [z])) q⟩
 self:=fun _ _ _ _ _ st h=>by
  obtain⟨⟨old,he⟩,_⟩:=st
  exact wpAny_pyIter_enum he h
section
variable {X:Cx}{elts:List Expr}{k1:Nat}{tpos:Pos}
noncomputable def jV (K:Frag)(ta:TA):TI:=fun σ H R=>ta σ H fun vs H1=>∃ a,vs=[.ref a]∧(∃ xs,BP K H1 a xs)∧R (XN K a) H1
theorem AH1 {a:Expr}{ta:TA}{p pos:Pos}(hg:Gl X "enumerate")(hm:X.mg "enumerate"=none)(ha:PA X [a] ta)(hs:starEach [a] X.env=[(false,eval a X.env)]:=by rfl) :
  PI X (.Tuple elts k1 tpos) (.Call (.Name "enumerate" p) [a] [] pos) (jV X.K ta):=by
 intro pins s σ H R I h
 refine Call_ (KH I hg hm (by rfl) (PyProof.Rows.callWith_type1 (BL (ha pos pins s σ H _ I h) fun us s1 ⟨vs,H1,I1,r1,q1⟩=>?_) hs rfl))
 obtain⟨l,e,⟨xs,hq⟩,q⟩:=q1
 subst e
 obtain⟨u,rfl,rx⟩:=vals1 r1
 cases rx
 obtain⟨its,rv,pl,hz⟩:=I1.list hq
 refine call_enumerate_list pl.isList fun h' he hit hsz hk=>?_
 have I2:Inv X pins σ H1 { s1 with heap:=h',toks:=s1.toks }:=I1.kept hk
 refine wpAny_pyIter_enum (s:={ s1 with heap:=h' }) he ?_
 refine⟨s1.heap.objs.size+1,[s1.heap.objs.size+1,s1.heap.objs.size],_,_,H1,rfl,I2,AIK l (s1.heap.objs.size+1) s1.heap.objs.size (Nat.succ_ne_self _),⟨⟨_,by simpa using he⟩,hit⟩,fun b hb=>?_,q⟩
 simp only[List.mem_cons,List.not_mem_nil,or_false] at hb
 rcases hb with rfl | rfl
 ·exact I1.Ny (Nat.le_succ _) (I1.hok.fresh (Nat.le_succ _))
 ·exact I1.Ny (Nat.le_refl _) (I1.hok.fresh (Nat.le_refl _))
end
noncomputable abbrev Thing:=Option (Int×Int)
noncomputable def encD:Thing→PyData
 | none=>.tuple []
 | some (k,w)=>.tuple [.int k,.int w]
theorem T4 (t:Thing):(encD t).canLay0=true∧(encD t).depth≤1:=by
 cases t with
 | none=>simp [encD,PyData.canLay0,PyData.canLayAll0,PyData.depth,PyData.depthAll]
 | some kw=>simp [encD,PyData.canLay0,PyData.canLayAll0,PyData.depth,PyData.depthAll]
theorem Q8 (t:Thing):SeqAt.shaped (encD t)=true:=by
 have:=T4 t
 unfold SeqAt.shaped
 rw[this.1,Bool.true_and]
 exact decide_eq_true (Nat.le_trans this.2 (by decide))
theorem o4:∀ ts:List Thing,PyData.canLayAll0 (ts.map encD)=true∧PyData.depthAll (ts.map encD)≤1
 | []=>by simp [PyData.canLayAll0,PyData.depthAll]
 | t::r=>by
  have h1:=T4 t
  have h2:=o4 r
  simp only[List.map_cons,PyData.canLayAll0,PyData.depthAll,h1.1,h2.1,Bool.and_self,true_and]
  have a1:=h1.2
  have a2:=h2.2
  omega
theorem Sx (ts:List Thing):SeqAt.shaped (.list (ts.map encD))=true:=by
 have:=o4 ts
 unfold SeqAt.shaped
 simp only[PyData.canLay0,PyData.depth,this.1,Bool.true_and]
 exact decide_eq_true (by omega)
theorem RB (t u:Thing):PyData.eqv (encD t) (encD u)=decide (t=u):=by
 cases t with
 | none=>cases u with
  | none=>simp [encD,PyData.eqv,PyData.eqvAll]
  | some kw=>simp [encD,PyData.eqv,PyData.eqvAll]
 | some kw=>cases u with
  | none=>simp [encD,PyData.eqv,PyData.eqvAll]
  | some kw' =>
   obtain⟨a,b⟩:=kw
   obtain⟨c,d⟩:=kw'
   show PyData.eqv (.tuple [.int a,.int b]) (.tuple [.int c,.int d])=_
   rw[AEj]
   by_cases h1:a=c<;>by_cases h2:b=d<;>simp [h1,h2]
theorem uT:∀ ts us:List Thing,PyData.eqvAll (ts.map encD) (us.map encD)=decide (ts=us)
 | [],[]=>by simp [PyData.eqvAll]
 | [],_::_=>by simp [PyData.eqvAll]
 | _::_,[]=>by simp [PyData.eqvAll]
 | t::r,u::q=>by
  simp only[List.map_cons,PyData.eqvAll,RB,uT r q]
  by_cases h1:t=u<;>by_cases h2:r=q<;>simp [h1,h2]
theorem eZ (ts us:List Thing):PyData.eqv (.list (ts.map encD)) (.list (us.map encD))=decide (ts=us):=by
 simp only[PyData.eqv]
 exact uT ts us
noncomputable abbrev D:=PyData
noncomputable def Ah (O:List Addr)(H:Hp):Hp:=fun b=>if b∈O then none else H b
theorem Mq {O:List Addr}{H:Hp}{b:Addr}(h:b∈O):Ah O H b=none:=if_pos h
theorem Bw {O:List Addr}{H:Hp}{b:Addr}(h:b ∉ O):Ah O H b=H b:=if_neg h
theorem GD {O:List Addr}{H:Hp}{b:Addr}{o:HO}(h:Ah O H b=some o):b ∉ O∧H b=some o:=by
 by_cases q:b∈O
 ·rw[Mq q] at h;cases h
 ·rw[Bw q] at h;exact⟨q,h⟩
theorem Cq {O:List Addr}{H:Hp}:Aj (Ah O H) H:=fun b o h=>(GD h).2
theorem DN {O O':List Addr}{H:Hp}(h:∀ b,b∈O'→b∈O):Aj (Ah O H) (Ah O' H):=fun b o e=>by
 obtain⟨n,e⟩:=GD e
 rw[Bw fun z=>n (h b z)]
 exact e
theorem DQ {O:List Addr}{H H':Hp}(s:Aj H H'):Aj (Ah O H) (Ah O H'):=fun b o e=>by
 obtain⟨n,e⟩:=GD e
 rw[Bw n]
 exact s b o e
theorem Gz {O:List Addr}{H:Hp}{a:Addr}{o:HO}(h:a∈O):Ah O (upd H a o)=Ah O H:=by
 funext b
 by_cases q:b∈O
 ·rw[Mq q,Mq q]
 ·rw[Bw q,Bw q,Bb fun z=>q (by rw[z];exact h)]
theorem AFj {H:Hp}:Ah [] H=H:=by
 funext b
 exact Bw (by simp)
theorem QS {O:List Addr}{H:Hp}{a:Addr}{o:HO}(h:H a=none):Aj (Ah O H) (Ah (a::O) (upd H a o)):=fun b u e=>by
 obtain⟨n,e⟩:=GD e
 have nb:b≠a:=Cg e h
 rw[Bw (by simp [nb,n]),Bb nb]
 exact e
noncomputable def Bu (O:List Addr)(H:Hp):Prop:=∀ a∈O,∃ o,H a=some o
theorem Bu.mono {O:List Addr}{H H':Hp}(k:Bu O H)(s:Aj H H'):Bu O H':=fun a h=>by
 obtain⟨o,e⟩:=k a h
 exact⟨o,s _ _ e⟩
theorem Bu.fresh {O:List Addr}{H:Hp}{a:Addr}(k:Bu O H)(h:H a=none):a ∉ O:=fun z=>by
 obtain⟨o,e⟩:=k a z
 rw[e] at h
 cases h
theorem Bu.nil {H:Hp}:Bu [] H:=fun a h=>by cases h
noncomputable abbrev BR:=List (Option D)
noncomputable abbrev PF:=BR→Option D
noncomputable abbrev PB:=BR→Option Bool
noncomputable abbrev BJ:=BR→Option (List D)
noncomputable def Dm (K:Frag)(H:Hp)(σ:St)(ρ:BR):Prop:=∀ (i:Nat) (d:D),ρ[i]?=some (some d)→∃ v,σ[i]?=some (some v)∧Rep K H v d
theorem Dm.mono {K:Frag}{H H':Hp}{σ:St}{ρ:BR}(e:Dm K H σ ρ)(s:Aj H H'):Dm K H' σ ρ:=fun i d h=>by
 obtain⟨v,e1,r⟩:=e i d h
 exact⟨v,e1,r.mono s⟩
noncomputable def Fg (K:Frag)(te:TE)(f:PF):Prop:=∀ (O:List Addr) (σ:St) (H:Hp) (ρ:BR) (d:D) (Q:VK),Bu O H→Dm K (Ah O H) σ ρ→f ρ=some d →
 (∀ v H',Aj H H'→Rep K (Ah O H') v d→Q v H')→te σ H Q
noncomputable def Kf (K:Frag)(te:TT)(f:PB):Prop:=∀ (O:List Addr) (σ:St) (H:Hp) (ρ:BR) (b:Bool) (Q:Bool→Hp→Prop),Bu O H→Dm K (Ah O H) σ ρ→f ρ=some b →
 (∀ H',Aj H H'→Q b H')→te σ H Q
noncomputable def PuA (K:Frag)(te:TA)(f:BJ):Prop:=∀ (O:List Addr) (σ:St) (H:Hp) (ρ:BR) (ds:List D) (Q:List V→Hp→Prop),Bu O H→Dm K (Ah O H) σ ρ→f ρ=some ds →
 (∀ vs H',Aj H H'→Ar K (Ah O H') vs ds→Q vs H')→te σ H Q
noncomputable def Iw (K:Frag)(te:TE)(f:BJ):Prop:=∀ (O:List Addr) (σ:St) (H:Hp) (ρ:BR) (ds:List D) (Q:VK),Bu O H→Dm K (Ah O H) σ ρ→f ρ=some ds →
 (∀ a xs H',Aj H H'→H a=none→H' a=some (.lst xs)→Ar K (Ah (a::O) H') xs ds→Q (.ref a) H')→te σ H Q
noncomputable def KC (K:Frag)(r:R2)(g:D→D→Option D):Prop:=∀ (O:List Addr) (H:Hp) (x y:V) (a b d:D) (Q:VK),Bu O H→Rep K (Ah O H) x a→Rep K (Ah O H) y b→g a b=some d →
 (∀ v H',Aj H H'→Rep K (Ah O H') v d→Q v H')→r x y H Q
noncomputable def PuC (K:Frag)(r:List V→Hp→VK→Prop)(g:List D→Option D):Prop:=∀ (O:List Addr) (H:Hp) (vs:List V) (ds:List D) (d:D) (Q:VK),Bu O H→Ar K (Ah O H) vs ds→g ds=some d →
 (∀ v H',Aj H H'→Rep K (Ah O H') v d→Q v H')→r vs H Q
noncomputable def ADM (K:Frag)(r:List V→Hp→VK→Prop)(g:List D→Option (List D)):Prop:=∀ (O:List Addr) (H:Hp) (vs:List V) (ds es:List D) (Q:VK),Bu O H→Ar K (Ah O H) vs ds→g ds=some es →
 (∀ a xs H',Aj H H'→H a=none→H' a=some (.lst xs)→Ar K (Ah (a::O) H') xs es→Q (.ref a) H')→r vs H Q
structure JE (X:Cx)(K:Frag)(e:Expr)(te:TE)(f:PF):Prop where
 pe:PE X e te
 pu:Fg K te f
structure JT (X:Cx)(K:Frag)(e:Expr)(te:TT)(f:PB):Prop where
 pe:PT X e te
 pu:Kf K te f
structure JW (X:Cx)(K:Frag)(e:Expr)(te:TT)(f:PB):Prop where
 pe:PW X e te
 pu:Kf K te f
structure JA (X:Cx)(K:Frag)(es:List Expr)(te:TA)(f:BJ):Prop where
 pe:PA X es te
 pu:PuA K te f
structure JL (X:Cx)(K:Frag)(e:Expr)(te:TE)(f:BJ):Prop where
 pe:PE X e te
 pu:Iw K te f
structure Ca (X:Cx)(K:Frag)(f:Value→Value→Sem Value)(r:R2)(g:D→D→Option D):Prop where
 pe:EY X f r
 pu:KC K r g
structure Nz (X:Cx)(K:Frag)(f:Value)(r:List V→Hp→VK→Prop)(g:List D→Option D):Prop where
 pe:Gw X f r
 pu:PuC K r g
structure oZ (X:Cx)(K:Frag)(f:Value)(r:List V→Hp→VK→Prop)(g:List D→Option (List D)):Prop where
 pe:Gw X f r
 pu:ADM K r g
noncomputable def Aa (i:Nat):PF:=fun ρ=>(ρ[i]?).join
noncomputable def Ad (d:D):PF:=fun _=>some d
noncomputable def Ab (g:D→D→Option D)(a b:PF):PF:=fun ρ=>(a ρ).bind fun x=>(b ρ).bind fun y=>g x y
noncomputable def IV (g:D→Option D)(a:PF):PF:=fun ρ=>(a ρ).bind g
noncomputable def Js:D→Option Bool
 | .bool b=>some b
 | _=>none
noncomputable def Av (a:PF):PB:=fun ρ=>(a ρ).bind Js
noncomputable def JP (a:PB):PB:=fun ρ=>(a ρ).map (!·)
noncomputable def Fo (a b:PB):PB:=fun ρ=>(a ρ).bind fun x=>if x=true then b ρ else some false
noncomputable def Jp (a b:PB):PB:=fun ρ=>(a ρ).bind fun x=>if x=true then some true else b ρ
noncomputable def DK:PB:=fun _=>some true
noncomputable def QC (a b:PF):PF:=fun ρ=>(a ρ).bind fun x=>(Js x).bind fun k=>if k=true then b ρ else some (.bool false)
noncomputable def Ma (a b:PF):PF:=fun ρ=>(a ρ).bind fun x=>(Js x).bind fun k=>if k=true then some (.bool true) else b ρ
noncomputable def aZ (a:PF):PF:=fun ρ=>(a ρ).bind fun x=>(Js x).bind fun k=>some (.bool (!k))
noncomputable def V8 (c:PB)(a b:PF):PF:=fun ρ=>(c ρ).bind fun x=>if x=true then a ρ else b ρ
noncomputable def K6 (g g':D→D→Option D)(a b c:PF):PF:=fun ρ=>(a ρ).bind fun x=>(b ρ).bind fun y=>(g x y).bind fun z=>(Js z).bind fun k=>if k=true then (c ρ).bind fun u=>g' y u else some (.bool false)
noncomputable def Ae:BJ:=fun _=>some []
noncomputable def Ac (a:PF)(r:BJ):BJ:=fun ρ=>(a ρ).bind fun x=>(r ρ).bind fun xs=>some (x::xs)
noncomputable def fits (n:Nat):Bool:=decide (n<sizeLine)
noncomputable def BV (r:BJ):PF:=fun ρ=>(r ρ).bind fun xs=>if fits xs.length=true then some (.tuple xs) else none
noncomputable def CK (r:BJ):BJ:=fun ρ=>(r ρ).bind fun xs=>if fits xs.length=true then some xs else none
noncomputable def Ax (r:BJ):PF:=fun ρ=>(r ρ).map PyData.list
noncomputable def Am (f:List D→Option D)(r:BJ):PF:=fun ρ=>(r ρ).bind f
noncomputable def Az (f:List D→Option (List D))(r:BJ):BJ:=fun ρ=>(r ρ).bind f
noncomputable def dI (g:Int→Int→D):D→D→Option D
 | .int a,.int b=>some (g a b)
 | _,_=>none
noncomputable def QK (C:Int→Int→Bool)(g:Int→Int→D):D→D→Option D
 | .int a,.int b=>if C a b=true then some (g a b) else none
 | _,_=>none
noncomputable def CG:=dI fun i j=>.int (i+j)
noncomputable def Cr:=dI fun i j=>.int (i-j)
noncomputable def small (i:Int):Bool:=decide (-(2 ^ 64)<i∧i<2 ^ 64)
noncomputable def CZ:=QK (fun i j=>small i || small j) fun i j=>.int (i*j)
noncomputable def Wide (j:Int):Prop:=0<j∧j.natAbs.log2<9000
noncomputable instance (j:Int):Decidable (Wide j):=instDecidableAnd
noncomputable def CP:=QK (fun _ j=>decide ((0<j∧j<1073741824)∨Wide j)) fun i j=>.int (i / j)
theorem AJH {j:Int}(h:(0<j∧j<1073741824)∨Wide j):Wide j:=by
 rcases h with⟨h0,h1⟩ | h
 ·refine⟨h0,?_⟩
  have h30:j.natAbs.log2<30:=(Nat.log2_lt (by omega)).mpr (by omega)
  omega
 ·exact h
noncomputable def Ba:=QK (fun _ j=>decide (0<j)) fun i j=>.int (i % j)
noncomputable def Fy:=QK (fun i j=>decide (0≤j∧j≤1000000∧i.natAbs<2 ^ 64)) fun i j=>.int (i ^ j.toNat)
noncomputable def Er:=dI fun i j=>.bool (decide (i<j))
noncomputable def Kq:=dI fun i j=>.bool (decide (i≤j))
noncomputable def Ig:=dI fun i j=>.bool (decide (j<i))
noncomputable def Ih:=dI fun i j=>.bool (decide (j≤i))
noncomputable def Bp (a b:D):Option D:=if SeqAt.shaped a=true∧SeqAt.shaped b=true then some (.bool (PyData.eqv a b)) else none
noncomputable def BZ (a b:D):Option D:=if SeqAt.shaped a=true∧SeqAt.shaped b=true then some (.bool (!PyData.eqv a b)) else none
noncomputable def HB:D→Bool
 | .none=>true
 | _=>false
noncomputable def Kr (a b:D):Option D:=if HB b=true then some (.bool (HB a)) else none
noncomputable def Nx (a b:D):Option D:=if HB b=true then some (.bool (!HB a)) else none
noncomputable def Al:D→D→Option D
 | .list ds,.int i=>Bj ds i
 | .tuple ds,.int i=>Bj ds i
 | .str z,.int i=>if z.length≤sizeLine then (Bj z.cps.toList i).map fun c=>.str ⟨#[c]⟩ else none
 | _,_=>none
noncomputable def Jx:D→Option D
 | .int i=>some (.int (-i))
 | _=>none
section
variable {X:Cx}{K:Frag}
theorem Rep.Ah {O:List Addr}{H H':Hp}{v:V}{d:D}(r:Rep K (Ah O H) v d)(s:Aj H H'):Rep K (L2.Ah O H') v d:=r.mono (DQ s)
theorem Ar.Ah {O:List Addr}{H H':Hp}{v:List V}{d:List D}(r:Ar K (L2.Ah O H) v d)(s:Aj H H'):Ar K (L2.Ah O H') v d:=r.mono (DQ s)
theorem Dm.Ah {O:List Addr}{H H':Hp}{σ:St}{ρ:BR}(r:Dm K (L2.Ah O H) σ ρ)(s:Aj H H'):Dm K (L2.Ah O H') σ ρ:=r.mono (DQ s)
theorem JL.je {e:Expr}{te:TE}{f:BJ}(j:JL X K e te f):JE X K e te (Ax f):=⟨j.pe,by
 intro O σ H ρ d Q ok er hf q
 have hf':(f ρ).map PyData.list=some d:=hf
 cases e1:f ρ with
 | none=>rw[e1] at hf';cases hf'
 | some ds =>
  rw[e1] at hf'
  cases hf'
  refine j.pu O σ H ρ ds Q ok er e1 fun a xs H' s hn ha r=>q _ H' s ?_
  have na:a ∉ O:=ok.fresh hn
  exact .lst (BP.of (by rw[Bw na];exact ha)) (r.mono (DN fun b hb=>Bt hb))⟩
theorem AFM (i:Nat){x:Str}{pos:Pos}(hN:X.N[i]?=some x:=by rfl)(hv:Es X.env.scope x:=by first | exact Or.inl rfl | exact Or.inr (Or.inl rfl) | exact Or.inr (Or.inr rfl))(hd:(x == ("__debug__":Str))=false:=by decide)
  (hcd:(x == ("__classdict__":Str))=false:=by decide):JE X K (.Name x pos) (CJ i) (Aa i):=⟨G6 hN hv hd hcd,by
 intro O σ H ρ d Q ok er hf q
 have hf':(ρ[i]?).join=some d:=hf
 have h2:ρ[i]?=some (some d):=by
  cases e1:ρ[i]? with
  | none=>rw[e1] at hf';cases hf'
  | some o=>rw[e1] at hf';rw[show o=some d from hf']
 obtain⟨v,e2,r⟩:=er i d h2
 exact⟨v,e2,q v H (Aj.refl H) r⟩⟩
theorem Ra {v:V}{d:D}(h:∀ H,Rep K H v d):Fg K (tC v) (Ad d):=by
 intro O σ H ρ d' Q ok er hf q
 cases hf
 exact q v H (Aj.refl H) (h _)
theorem AGq {i j pos}:JE X K (.Constant (.int i) j pos) (tC (.int i)) (Ad (.int i)):=⟨Zn,Ra fun _=>.int i⟩
theorem AIh {b j pos}:JE X K (.Constant (.bool b) j pos) (tC (.bl b)) (Ad (.bool b)):=⟨AGj,Ra fun _=>.bl b⟩
theorem yN {j pos}:JE X K (.Constant .none j pos) (tC .non) (Ad .none):=⟨AAR,Ra fun _=>.non⟩
theorem AAy {x:Str}{i:Int}{pos:Pos}(hg:Gl X x)(hm:∃ t,X.mg x=some (.int i t))(hd:(x == ("__debug__":Str))=false:=by decide):JE X K (.Name x pos) (tC (.int i)) (Ad (.int i)):=by
 obtain⟨t,hm⟩:=hm
 exact⟨AFb hg hm ⟨t,rfl⟩ hd,Ra fun _=>.int i⟩
section
variable {a b c:Expr}{ta tb tc:TE}{fa fb fc:PF}{pos:Pos}{r r':R2}{g g':D→D→Option D}
theorem Ag {α β:Type}{o:Option α}{f:α→Option β}{b:β}(h:o.bind f=some b):∃ x,o=some x∧f x=some b:=by
 cases o with
 | none=>cases h
 | some x=>exact⟨x,rfl,h⟩
theorem S7 (hr:KC K r g)(ha:Fg K ta fa)(hb:Fg K tb fb):Fg K (Fq r ta tb) (Ab g fa fb):=by
 intro O σ H ρ d Q ok er hf q
 obtain⟨x,e1,hf⟩:=Ag hf
 obtain⟨y,e2,hf⟩:=Ag hf
 refine ha O σ H ρ x _ ok er e1 fun v H1 s1 r1=>?_
 refine hb O σ H1 ρ y _ (ok.mono s1) (er.Ah s1) e2 fun u H2 s2 r2=>?_
 exact hr O H2 v u x y d Q ((ok.mono s1).mono s2) (r1.Ah s2) r2 hf fun w H3 s3 r3=>q w H3 ((s1.trans s2).trans s3) r3
theorem AHe {op:Operator}(ho:Ca X K (binaryOp op) r g)(ha:JE X K a ta fa)(hb:JE X K b tb fb):JE X K (.BinOp a op b pos) (Fq r ta tb) (Ab g fa fb) :=
 ⟨jL ho.pe ha.pe hb.pe,S7 ho.pu ha.pu hb.pu⟩
theorem AJa {op:CmpOp}(ho:Ca X K (compareOp op) r g)(ha:JE X K a ta fa)(hb:JE X K b tb fb)(hm:behindInMarks op b=false):JE X K (.Compare a [op] [b] pos) (Fq r ta tb) (Ab g fa fb) :=
 ⟨AEl ho.pe ha.pe hb.pe hm,S7 ho.pu ha.pu hb.pu⟩
theorem Uo {H:Hp}{v:V}{d:D}{b:Bool}(r:Rep K H v d)(h:Js d=some b):v=.bl b:=by
 cases r with
 | bl k=>cases h;rfl
 | _=>cases h
theorem Yg {t:TE}{f:PF}(h:Fg K t f):Kf K (Pb t) (Av f):=by
 intro O σ H ρ k Q ok er hf q
 obtain⟨x,e1,hf⟩:=Ag hf
 exact h O σ H ρ x _ ok er e1 fun v H1 s1 r1=>⟨k,Uo r1 hf,q H1 s1⟩
theorem AHf {op:CmpOp}(ho:Ca X K (compareOp op) r g)(ha:JE X K a ta fa)(hb:JE X K b tb fb)(hm:behindInMarks op b=false):JT X K (.Compare a [op] [b] pos) (Pb (Fq r ta tb)) (Av (Ab g fa fb)) :=
 ⟨AGf ho.pe ha.pe hb.pe hm,Yg (S7 ho.pu ha.pu hb.pu)⟩
theorem wY (hr:KC K r g)(hr':KC K r' g')(ha:Fg K ta fa)(hb:Fg K tb fb)(hc:Fg K tc fc):Fg K (X8 r r' ta tb tc) (K6 g g' fa fb fc):=by
 intro O σ H ρ d Q ok er hf q
 obtain⟨x,e1,hf⟩:=Ag hf
 obtain⟨y,e2,hf⟩:=Ag hf
 obtain⟨z,e3,hf⟩:=Ag hf
 obtain⟨k,e4,hf⟩:=Ag hf
 refine ha O σ H ρ x _ ok er e1 fun v H1 s1 r1=>?_
 refine hb O σ H1 ρ y _ (ok.mono s1) (er.Ah s1) e2 fun u H2 s2 r2=>?_
 have ok2:=(ok.mono s1).mono s2
 refine hr O H2 v u x y z _ ok2 (r1.Ah s2) r2 e3 fun w H3 s3 r3=>⟨k,Uo r3 e4,?_⟩
 have s13:=(s1.trans s2).trans s3
 cases k with
 | true =>
  rw[if_pos rfl] at hf ⊢
  obtain⟨u',e5,hf⟩:=Ag hf
  refine hc O σ H3 ρ u' _ (ok2.mono s3) (er.Ah s13) e5 fun w' H4 s4 r4=>?_
  exact hr' O H4 u w' y u' d Q ((ok2.mono s3).mono s4) (r2.Ah (s3.trans s4)) r4 hf fun w2 H5 s5 r5=>q w2 H5 ((s13.trans s4).trans s5) r5
 | false =>
  rw[if_neg Bool.false_ne_true] at hf ⊢
  cases hf
  exact q _ H3 s13 (.bl false)
theorem AAS {op op':CmpOp}(ho:Ca X K (compareOp op) r g)(ho':Ca X K (compareOp op') r' g')(ha:JE X K a ta fa)(hb:JE X K b tb fb)(hc:JE X K c tc fc)(hm:lastMarks [op,op'] [b,c]=false:=by with_unfolding_all rfl):JT X K (.Compare a [op,op'] [b,c] pos) (Pb (X8 r r' ta tb tc)) (Av (K6 g g' fa fb fc)):=⟨AHu ho.pe ho'.pe ha.pe hb.pe hc.pe hm,Yg (wY ho.pu ho'.pu ha.pu hb.pu hc.pu)⟩
end
theorem Oa {g:Int→Int→V}{g':Int→Int→D}(h:∀ i j H,Rep K H (g i j) (g' i j)):KC K (Gp g) (dI g'):=by
 intro O H x y a b d Q ok ra rb hg q
 cases ra with
 | int i =>
  cases rb with
  | int j =>
   cases hg
   exact⟨i,j,rfl,rfl,q _ H (Aj.refl H) (h i j _)⟩
  | _=>cases hg
 | _=>cases rb<;>cases hg
theorem Sg {C:Int→Int→Prop}{C':Int→Int→Bool}{g:Int→Int→V}{g':Int→Int→D}(hC:∀ i j,C' i j=true→C i j)(h:∀ i j H,Rep K H (g i j) (g' i j)):KC K (rI C g) (QK C' g'):=by
 intro O H x y a b d Q ok ra rb hg q
 cases ra with
 | int i =>
  cases rb with
  | int j =>
   have hg':(if C' i j=true then some (g' i j) else none)=some d:=hg
   by_cases hc:C' i j=true
   ·rw[if_pos hc] at hg'
    cases hg'
    exact⟨i,j,rfl,rfl,hC i j hc,q _ H (Aj.refl H) (h i j _)⟩
   ·rw[if_neg hc] at hg'
    cases hg'
  | _=>cases hg
 | _=>cases rb<;>cases hg
theorem AAz:Ca X K (binaryOp .Add) (Gp fun i j=>.int (i+j)) CG:=⟨AEy,Oa fun i j H=>.int _⟩
theorem AJU:Ca X K (binaryOp .Sub) (Gp fun i j=>.int (i-j)) Cr:=⟨AFU,Oa fun i j H=>.int _⟩
theorem ABY:Ca X K (binaryOp .Mult) (rI Uv fun i j=>.int (i*j)) CZ:=⟨AEH,Sg (fun i j h=>by
 rw[Bool.or_eq_true] at h
 exact h.imp (fun z=>of_decide_eq_true z) (fun z=>of_decide_eq_true z)) fun i j H=>.int _⟩
theorem AEi:EY X (binaryOp .FloorDiv) (rI (fun _ j=>Wide j) fun i j=>.int (i / j)):=Vg fun i j _ _ _ _ _ hc q=>by
 have h1:(0:Int)<j:=hc.1
 exact floordiv_int (by omega) (by rw[Int.fdiv_eq_ediv_of_nonneg i (by omega)];exact q) (.inl (PyProof.noPylong_of_log2 hc.2))
theorem AIB:Ca X K (binaryOp .FloorDiv) (rI (fun _ j=>Wide j) fun i j=>.int (i / j)) CP:=⟨AEi,Sg (fun i j h=>AJH (of_decide_eq_true h)) fun i j H=>.int _⟩
theorem AJd:Ca X K (binaryOp .Mod) (rI (fun _ j=>0<j) fun i j=>.int (i % j)) Ba:=⟨AHU,Sg (fun i j h=>of_decide_eq_true h) fun i j H=>.int _⟩
theorem AAx:Ca X K (binaryOp .Pow) (rI fL fun i j=>.int (i ^ j.toNat)) Fy:=⟨AEf,Sg (fun i j h=>(of_decide_eq_true h:0≤j∧j≤1000000∧i.natAbs<2 ^ 64)) fun i j H=>.int _⟩
theorem z7:Ca X K (compareOp .Lt) (Gp fun i j=>.bl (decide (i<j))) Er:=⟨ADR,Oa fun i j H=>.bl _⟩
theorem yH:Ca X K (compareOp .LtE) (Gp fun i j=>.bl (decide (i≤j))) Kq:=⟨ABr,Oa fun i j H=>.bl _⟩
theorem wZ:Ca X K (compareOp .Gt) (Gp fun i j=>.bl (decide (j<i))) Ig:=⟨ABV,Oa fun i j H=>.bl _⟩
theorem ACm:Ca X K (compareOp .GtE) (Gp fun i j=>.bl (decide (j≤i))) Ih:=⟨AFy,Oa fun i j H=>.bl _⟩
noncomputable def ABn (K:Frag):R2:=fun x y H Q=>∃ d e,Rep K H x d∧Rep K H y e∧SeqAt.shaped d=true∧SeqAt.shaped e=true∧Q (.bl (PyData.eqv d e)) H
noncomputable def AFI (K:Frag):R2:=fun x y H Q=>∃ d e,Rep K H x d∧Rep K H y e∧SeqAt.shaped d=true∧SeqAt.shaped e=true∧Q (.bl (!PyData.eqv d e)) H
theorem ABH (hK:X.K=K)(hu:X.A.units+64<cLine):Ca X K (compareOp .Eq) (ABn K) Bp:=⟨by subst hK;exact AFG hu,by
 intro O H x y a b d Q ok ra rb hg q
 unfold Bp at hg
 by_cases hc:SeqAt.shaped a=true∧SeqAt.shaped b=true
 ·rw[if_pos hc] at hg
  cases hg
  exact⟨a,b,ra.mono Cq,rb.mono Cq,hc.1,hc.2,q _ H (Aj.refl H) (.bl _)⟩
 ·rw[if_neg hc] at hg
  cases hg⟩
theorem wO (hK:X.K=K)(hu:X.A.units+64<cLine):Ca X K (compareOp .NotEq) (AFI K) BZ:=⟨by subst hK;exact AGi hu,by
 intro O H x y a b d Q ok ra rb hg q
 unfold BZ at hg
 by_cases hc:SeqAt.shaped a=true∧SeqAt.shaped b=true
 ·rw[if_pos hc] at hg
  cases hg
  exact⟨a,b,ra.mono Cq,rb.mono Cq,hc.1,hc.2,q _ H (Aj.refl H) (.bl _)⟩
 ·rw[if_neg hc] at hg
  cases hg⟩
theorem RM {H:Hp}{v:V}{d:D}(r:Rep K H v d):decide (v=.non)=HB d:=by
 cases r<;>simp [HB]
theorem AIq:Ca X K (compareOp .Is) (fun x y H Q=>y=.non∧Q (.bl (decide (x=.non))) H) Kr:=⟨AAn,by
 intro O H x y a b d Q ok ra rb hg q
 unfold Kr at hg
 by_cases hc:HB b=true
 ·rw[if_pos hc] at hg
  cases hg
  have e:y=.non:=of_decide_eq_true (by rw[RM rb];exact hc)
  refine⟨e,q _ H (Aj.refl H) ?_⟩
  rw[RM ra]
  exact .bl _
 ·rw[if_neg hc] at hg
  cases hg⟩
theorem AIc:Ca X K (compareOp .IsNot) (fun x y H Q=>y=.non∧Q (.bl (!decide (x=.non))) H) Nx:=⟨AGI,by
 intro O H x y a b d Q ok ra rb hg q
 unfold Nx at hg
 by_cases hc:HB b=true
 ·rw[if_pos hc] at hg
  cases hg
  have e:y=.non:=of_decide_eq_true (by rw[RM rb];exact hc)
  refine⟨e,q _ H (Aj.refl H) ?_⟩
  rw[RM ra]
  exact .bl _
 ·rw[if_neg hc] at hg
  cases hg⟩
theorem Ar.length {H:Hp}:∀ {xs:List V}{ds:List D},Ar K H xs ds→xs.length=ds.length
 | _,_,.nil=>rfl
 | _,_,.cons _ r=>by simp [Ar.length r]
theorem Ar.get {H:Hp}:∀ {xs:List V}{ds:List D}{i:Nat}{d:D},Ar K H xs ds→ds[i]?=some d→∃ x,xs[i]?=some x∧Rep K H x d
 | _,_,_,_,.nil,e=>by simp at e
 | _,_,0,_,.cons r _,e=>by simp at e;subst e;exact⟨_,rfl,r⟩
 | _,_,i+1,d,.cons _ t,e=>by
  obtain⟨u,h1,h2⟩:=Ar.get (i:=i) (d:=d) t (by simpa using e)
  exact⟨u,by simpa using h1,h2⟩
theorem Ar.Ot {H:Hp}:∀ {xs:List V}{ds:List D}{i:Nat}{x:V},Ar K H xs ds→xs[i]?=some x→∃ d,ds[i]?=some d∧Rep K H x d
 | _,_,_,_,.nil,e=>by simp at e
 | _,_,0,_,.cons r _,e=>by simp at e;subst e;exact⟨_,rfl,r⟩
 | _,_,i+1,d,.cons _ t,e=>by
  obtain⟨u,h1,h2⟩:=Ar.Ot (i:=i) (x:=d) t (by simpa using e)
  exact⟨u,by simpa using h1,h2⟩
theorem Ar.Bj {H:Hp}{xs:List V}{ds:List D}{i:Int}{d:D}(r:Ar K H xs ds)(h:L2.Bj ds i=some d):∃ x,L2.Bj xs i=some x∧Rep K H x d:=by
 unfold L2.Bj at h ⊢
 obtain⟨j,e1,e2⟩:=Ag h
 obtain⟨x,e3,rx⟩:=r.get e2
 exact⟨x,by rw[r.length,e1];exact e3,rx⟩
theorem Ar.set {H:Hp}{x:V}{d:D}(q:Rep K H x d):∀ {xs:List V}{ds:List D} (i:Nat),Ar K H xs ds→Ar K H (xs.set i x) (ds.set i d)
 | _,_,_,.nil=>.nil
 | _,_,0,.cons _ t=>.cons q t
 | _,_,i+1,.cons p t=>.cons p (Ar.set q i t)
theorem Ar.append {H:Hp}:∀ {xs ys:List V}{ds es:List D},Ar K H xs ds→Ar K H ys es→Ar K H (xs++ys) (ds++es)
 | _,_,_,_,.nil,s=>s
 | _,_,_,_,.cons r t,s=>.cons r (Ar.append t s)
theorem Ar.take {H:Hp}:∀ {xs:List V}{ds:List D} (n:Nat),Ar K H xs ds→Ar K H (xs.take n) (ds.take n)
 | _,_,0,_=>.nil
 | _,_,_+1,.nil=>.nil
 | _,_,n+1,.cons r t=>.cons r (Ar.take n t)
theorem Ar.drop {H:Hp}:∀ {xs:List V}{ds:List D} (n:Nat),Ar K H xs ds→Ar K H (xs.drop n) (ds.drop n)
 | _,_,0,r=>r
 | _,_,_+1,.nil=>.nil
 | _,_,n+1,.cons _ t=>Ar.drop n t
theorem AHQ:KC K (Ik K) Al:=by
 intro O H x y a b d Q ok ra rb hg q
 cases rb with
 | int j =>
  cases ra with
  | lst h r =>
   obtain⟨v,e,rv⟩:=r.Bj hg
   exact .inl ⟨_,_,j,v,rfl,rfl,Cq.seq h,e,q _ H (Aj.refl H) rv⟩
  | tup h r =>
   obtain⟨v,e,rv⟩:=r.Bj hg
   exact .inr (.inl ⟨_,_,j,v,rfl,rfl,Cq.Km h,e,q _ H (Aj.refl H) rv⟩)
  | str z =>
   have hg':(if z.length≤sizeLine then (L2.Bj z.cps.toList j).map fun c=>PyData.str ⟨#[c]⟩ else none)=some d:=hg
   by_cases hz:z.length≤sizeLine
   ·rw[if_pos hz] at hg'
    cases e:L2.Bj z.cps.toList j with
    | none=>rw[e] at hg';cases hg'
    | some c =>
     rw[e] at hg'
     cases hg'
     exact .inr (.inr ⟨z,j,c,rfl,rfl,hz,e,q _ H (Aj.refl H) (.str _)⟩)
   ·rw[if_neg hz] at hg'
    cases hg'
  | _=>cases hg
 | _=>cases ra<;>cases hg
theorem ACo {a b:Expr}{ta tb:TE}{fa fb:PF}{pos:Pos}(hK:X.K=K)(ha:JE X K a ta fa)(hb:JE X K b tb fb)(hs:Kp b):JE X K (.Subscript a b pos) (Fq (Ik K) ta tb) (Ab Al fa fb) :=
 ⟨by subst hK;exact Qd QG ha.pe hb.pe hs,S7 AHQ ha.pu hb.pu⟩
theorem AJD {a:Expr}{ta:TE}{fa:PF}{pos:Pos}(ha:JE X K a ta fa):JE X K (.UnaryOp .USub a pos) (jE (rU fun i=>.int (-i)) ta) (IV Jx fa):=⟨AIf AAT ha.pe,by
 intro O σ H ρ d Q ok er hf q
 obtain⟨x,e1,hf⟩:=Ag hf
 refine ha.pu O σ H ρ x _ ok er e1 fun v H1 s1 r1=>?_
 cases r1 with
 | int i=>cases hf;exact⟨i,rfl,q _ H1 s1 (.int _)⟩
 | _=>cases hf⟩
section
variable {a b c e:Expr}{rest:List Expr}{ta tb tc t:TE}{tA tB':TT}{fa fb fc f:PF}{pa pb:PB}{pos:Pos}
theorem tM (h:JE X K e t f)(he:∀ whole,isTrue e X.env whole=(do let v ← whole;standAt e.pos;holding [v] (truthy v)):=by intro _;rfl):JT X K e (tB t) (Av f):=⟨rN h.pe he,Yg h.pu⟩
theorem AGo (ha:JT X K a tA pa):JT X K (.UnaryOp .Not a pos) (Xi tA) (JP pa):=⟨fG ha.pe,by
 intro O σ H ρ k Q ok er hf q
 cases e1:pa ρ with
 | none=>rw[show JP pa ρ=(pa ρ).map (!·) from rfl,e1] at hf;cases hf
 | some x =>
  rw[show JP pa ρ=(pa ρ).map (!·) from rfl,e1] at hf
  cases hf
  exact ha.pu O σ H ρ x _ ok er e1 fun H1 s1=>q H1 s1⟩
theorem AH8 (ha:JT X K a tA pa):JW X K (.BoolOp .And [a] pos) tA pa:=⟨qG ha.pe,ha.pu⟩
theorem ACX (ha:JT X K a tA pa):JW X K (.BoolOp .Or [a] pos) tA pa:=⟨AHC ha.pe,ha.pu⟩
theorem gC (ha:JT X K a tA pa)(hb:JW X K (.BoolOp .And (b::rest) pos) tB' pb):JW X K (.BoolOp .And (a::b::rest) pos) (Us tA tB') (Fo pa pb):=⟨mC ha.pe hb.pe,by
 intro O σ H ρ k Q ok er hf q
 obtain⟨x,e1,hf⟩:=Ag hf
 refine ha.pu O σ H ρ x _ ok er e1 fun H1 s1=>?_
 cases x with
 | true =>
  rw[if_pos rfl] at hf ⊢
  exact hb.pu O σ H1 ρ k Q (ok.mono s1) (er.Ah s1) hf fun H2 s2=>q H2 (s1.trans s2)
 | false =>
  rw[if_neg Bool.false_ne_true] at hf ⊢
  cases hf
  exact q H1 s1⟩
theorem qR (ha:JT X K a tA pa)(hb:JW X K (.BoolOp .Or (b::rest) pos) tB' pb):JW X K (.BoolOp .Or (a::b::rest) pos) (u6 tA tB') (Jp pa pb):=⟨xR ha.pe hb.pe,by
 intro O σ H ρ k Q ok er hf q
 obtain⟨x,e1,hf⟩:=Ag hf
 refine ha.pu O σ H ρ x _ ok er e1 fun H1 s1=>?_
 cases x with
 | true =>
  rw[if_pos rfl] at hf ⊢
  cases hf
  exact q H1 s1
 | false =>
  rw[if_neg Bool.false_ne_true] at hf ⊢
  exact hb.pu O σ H1 ρ k Q (ok.mono s1) (er.Ah s1) hf fun H2 s2=>q H2 (s1.trans s2)⟩
theorem JW.jt (h:JW X K e tA pa):JT X K e tA pa:=⟨h.pe.pt,h.pu⟩
theorem eE {op}(h:JE X K a ta fa):JE X K (.BoolOp op [a] pos) ta fa:=⟨ABI h.pe,h.pu⟩
theorem iH (ha:JE X K a ta fa)(hb:JE X K (.BoolOp .And (b::rest) pos) tb fb):JE X K (.BoolOp .And (a::b::rest) pos) (cT ta tb) (QC fa fb):=⟨xG ha.pe hb.pe,by
 intro O σ H ρ k Q ok er hf q
 obtain⟨x,e1,hf⟩:=Ag hf
 obtain⟨z,e2,hf⟩:=Ag hf
 refine ha.pu O σ H ρ x _ ok er e1 fun v H1 s1 r1=>⟨z,Uo r1 e2,?_⟩
 cases z with
 | true =>
  rw[if_pos rfl] at hf ⊢
  exact hb.pu O σ H1 ρ k Q (ok.mono s1) (er.Ah s1) hf fun v H2 s2=>q v H2 (s1.trans s2)
 | false =>
  rw[if_neg Bool.false_ne_true] at hf ⊢
  cases hf
  exact q _ H1 s1 (.bl _)⟩
theorem sW (ha:JE X K a ta fa)(hb:JE X K (.BoolOp .Or (b::rest) pos) tb fb):JE X K (.BoolOp .Or (a::b::rest) pos) (qX ta tb) (Ma fa fb):=⟨AHk ha.pe hb.pe,by
 intro O σ H ρ k Q ok er hf q
 obtain⟨x,e1,hf⟩:=Ag hf
 obtain⟨z,e2,hf⟩:=Ag hf
 refine ha.pu O σ H ρ x _ ok er e1 fun v H1 s1 r1=>⟨z,Uo r1 e2,?_⟩
 cases z with
 | true =>
  rw[if_pos rfl] at hf ⊢
  cases hf
  exact q _ H1 s1 (.bl _)
 | false =>
  rw[if_neg Bool.false_ne_true] at hf ⊢
  exact hb.pu O σ H1 ρ k Q (ok.mono s1) (er.Ah s1) hf fun v H2 s2=>q v H2 (s1.trans s2)⟩
end
section
variable {e:Expr}{es:List Expr}{te:TE}{t:TA}{f:PF}{r:BJ}{pos:Pos}
theorem AFc:JA X K [] Fw Ae:=⟨Ho,by
 intro O σ H ρ ds Q ok er hf q
 cases hf
 exact q [] H (Aj.refl H) .nil⟩
theorem AGp (ha:JE X K e te f)(hr:JA X K es t r)(hs:starEach (e::es) X.env=(false,eval e X.env)::starEach es X.env:=by rfl):JA X K (e::es) (Dz te t) (Ac f r):=⟨GK ha.pe hr.pe hs,by
 intro O σ H ρ ds Q ok er hf q
 obtain⟨x,e1,hf⟩:=Ag hf
 obtain⟨xs,e2,hf⟩:=Ag hf
 cases hf
 refine ha.pu O σ H ρ x _ ok er e1 fun v H1 s1 r1=>?_
 exact hr.pu O σ H1 ρ xs _ (ok.mono s1) (er.Ah s1) e2 fun vs H2 s2 r2=>q (v::vs) H2 (s1.trans s2) (.cons (r1.Ah s2) r2)⟩
theorem Yn {n:Nat}(h:fits n=true):n≤sizeLine:=Nat.le_of_lt (of_decide_eq_true h)
theorem AGs {x1}(h:JA X K es t r):JE X K (.Tuple es x1 pos) (mX t) (BV r):=⟨zL h.pe,by
 intro O σ H ρ d Q ok er hf q
 obtain⟨xs,e1,hf⟩:=Ag hf
 by_cases hc:fits xs.length=true
 ·rw[if_pos hc] at hf
  cases hf
  refine h.pu O σ H ρ xs _ ok er e1 fun vs H1 s1 r1=>⟨by rw[r1.length];exact Yn hc,fun p hp=>?_⟩
  have sn:Aj H1 (upd H1 p (.tup vs)):=Aj.new hp
  refine q _ _ (s1.trans sn) (.tup (Ds.of ?_) (r1.Ah sn))
  rw[Bw ((ok.mono s1).fresh hp)]
  exact Cm
 ·rw[if_neg hc] at hf
  cases hf⟩
theorem zX (h:JA X K es t r):JL X K (.List es pos) (Xz t) (CK r):=⟨fM h.pe,by
 intro O σ H ρ d Q ok er hf q
 obtain⟨xs,e1,hf⟩:=Ag hf
 by_cases hc:fits xs.length=true
 ·rw[if_pos hc] at hf
  obtain rfl:xs=d:=Option.some.inj hf
  refine h.pu O σ H ρ xs _ ok er e1 fun vs H1 s1 r1=>⟨by rw[r1.length];exact Yn hc,fun p hp=>?_⟩
  have sn:Aj H1 (upd H1 p (.lst vs)):=Aj.new hp
  refine q p vs _ (s1.trans sn) (s1.free hp) Cm ?_
  exact r1.mono (QS hp)
 ·rw[if_neg hc] at hf
  cases hf⟩
end
end
noncomputable def Dv (K:Frag)(n:Nat)(f:List D→Option D):Sp:=fun vs H Q _=>vs.length=n∧∃ (O:List Addr) (ds:List D) (d:D),Bu O H∧Ar K (Ah O H) vs ds∧f ds=some d∧∀ v H',Aj H H'→Rep K (Ah O H') v d→Q v H'
noncomputable def Ef (K:Frag)(n:Nat)(f:List D→Option (List D)):Sp:=fun vs H Q _=>vs.length=n∧∃ (O:List Addr) (ds es:List D),Bu O H∧Ar K (Ah O H) vs ds∧f ds=some es ∧
 ∀ a xs H',Aj H H'→H a=none→H' a=some (.lst xs)→Ar K (Ah (a::O) H') xs es→Q (.ref a) H'
noncomputable def KJ (n:Nat){α:Type}(f:List D→Option α):Prop:=∀ ds a,f ds=some a→ds.length=n
section
variable {X:Cx}{K:Frag}{k n:Nat}{x:Str}{ps:List Str}{p pos:Pos}{e:Expr}{es:List Expr}{t:TA}{r:BJ}
theorem ACQ {f:List D→Option D}(C:Callee X.prog X.w X.K X.mg X.base k x ps (Dv K n f))(hf:KJ n f)(hr:Cy k X.A)(hg:Gl X x)(ha:JA X K (e::es) t r)(hdb:(x == ("__debug__":Str))=false:=by decide)
  (hst:starEach (e::es) X.env=(false,eval e X.env)::starEach es X.env:=by rfl) (hpl:(backTo pos (starEach es X.env)).any (·.1)=false:=by rfl):JE X K (.Call (.Name x p) (e::es) [] pos) (JH (Dv K n f) [] E0 t) (Am f r):=⟨Qp C hr hg ha.pe hdb hst hpl,by
 intro O σ H ρ d Q ok er h q
 obtain⟨ds,e1,h⟩:=Ag h
 refine ha.pu O σ H ρ ds _ ok er e1 fun vs H1 s1 r1=>?_
 rw[List.append_nil]
 exact⟨by rw[r1.length];exact hf ds d h,O,ds,d,ok.mono s1,r1,h,fun v H' s' rv=>q v H' (s1.trans s') rv⟩⟩
theorem AEb {f:List D→Option (List D)}(C:Callee X.prog X.w X.K X.mg X.base k x ps (Ef K n f))(hf:KJ n f)(hr:Cy k X.A)(hg:Gl X x)(ha:JA X K (e::es) t r)(hdb:(x == ("__debug__":Str))=false:=by decide)
  (hst:starEach (e::es) X.env=(false,eval e X.env)::starEach es X.env:=by rfl) (hpl:(backTo pos (starEach es X.env)).any (·.1)=false:=by rfl):JL X K (.Call (.Name x p) (e::es) [] pos) (JH (Ef K n f) [] E0 t) (Az f r):=⟨Qp C hr hg ha.pe hdb hst hpl,by
 intro O σ H ρ d Q ok er h q
 obtain⟨ds,e1,h⟩:=Ag h
 refine ha.pu O σ H ρ ds _ ok er e1 fun vs H1 s1 r1=>?_
 rw[List.append_nil]
 exact⟨by rw[r1.length];exact hf ds d h,O,ds,d,ok.mono s1,r1,h,fun a xs H' s' hn ha' rv=>q a xs H' (s1.trans s') (s1.free hn) ha' rv⟩⟩
theorem Q3 {id:String}{rc:List V→Hp→VK→Prop}{g:List D→Option D}(hc:Nz X K (.builtin id) rc g)(hg:Gl X x)(hm:X.mg x=none)(hv:bootBuiltins x=some (.builtin id))(ha:JA X K (e::es) t r)(hn:x≠"__name__":=by decide)(hdb:(x == ("__debug__":Str))=false:=by decide)
  (he:starEach (e::es) X.env=(false,eval e X.env)::starEach es X.env:=by rfl) (hpl:(backTo pos (starEach es X.env)).any (·.1)=false:=by rfl):JE X K (.Call (.Name x p) (e::es) [] pos) (Ht rc t) (Am g r):=⟨bQ hc.pe hg hm hv ha.pe hn hdb he hpl,by
 intro O σ H ρ d Q ok er h q
 obtain⟨ds,e1,h⟩:=Ag h
 exact ha.pu O σ H ρ ds _ ok er e1 fun vs H1 s1 r1=>hc.pu O H1 vs ds d Q (ok.mono s1) r1 h fun v H' s' rv=>q v H' (s1.trans s') rv⟩
theorem AFa {T:String}{rc:List V→Hp→VK→Prop}{g:List D→Option D}(hc:Nz X K (.type T) rc g)(hg:Gl X x)(hm:X.mg x=none)(hv:bootBuiltins x=some (.type T))(ha:JA X K (e::es) t r)(hn:x≠"__name__":=by decide)(hdb:(x == ("__debug__":Str))=false:=by decide)
  (he:starEach (e::es) X.env=(false,eval e X.env)::starEach es X.env:=by rfl) (hpl:(backTo pos (starEach es X.env)).any (·.1)=false:=by rfl):JE X K (.Call (.Name x p) (e::es) [] pos) (Ht rc t) (Am g r):=⟨Pk hc.pe hg hm hv ha.pe hn hdb he hpl,by
 intro O σ H ρ d Q ok er h q
 obtain⟨ds,e1,h⟩:=Ag h
 exact ha.pu O σ H ρ ds _ ok er e1 fun vs H1 s1 r1=>hc.pu O H1 vs ds d Q (ok.mono s1) r1 h fun v H' s' rv=>q v H' (s1.trans s') rv⟩
theorem AJj {T:String}{rc:List V→Hp→VK→Prop}{g:List D→Option (List D)}(hc:oZ X K (.type T) rc g)(hg:Gl X x)(hm:X.mg x=none)(hv:bootBuiltins x=some (.type T))(ha:JA X K (e::es) t r)(hn:x≠"__name__":=by decide)(hdb:(x == ("__debug__":Str))=false:=by decide)
  (he:starEach (e::es) X.env=(false,eval e X.env)::starEach es X.env:=by rfl) (hpl:(backTo pos (starEach es X.env)).any (·.1)=false:=by rfl):JL X K (.Call (.Name x p) (e::es) [] pos) (Ht rc t) (Az g r):=⟨Pk hc.pe hg hm hv ha.pe hn hdb he hpl,by
 intro O σ H ρ d Q ok er h q
 obtain⟨ds,e1,h⟩:=Ag h
 exact ha.pu O σ H ρ ds _ ok er e1 fun vs H1 s1 r1=>hc.pu O H1 vs ds d Q (ok.mono s1) r1 h fun a xs H' s' hn2 ha2 rv=>q a xs H' (s1.trans s') (s1.free hn2) ha2 rv⟩
end
section
variable {X:Cx}{K:Frag}
noncomputable def Bm:List D→Option D
 | [.list ds]=>some (.int ds.length)
 | [.tuple ds]=>some (.int ds.length)
 | _=>none
noncomputable def G4:List D→Option (List D)
 | [.list ds]=>some ds
 | [.tuple ds]=>some ds
 | _=>none
noncomputable def rM:List D→Option (List Bool)
 | []=>some []
 | .bool b::r=>(rM r).bind fun bs=>some (b::bs)
 | _=>none
noncomputable def ADe:List D→Option D
 | [.list ds]=>(rM ds).bind fun bs=>some (.bool (bs.all id))
 | _=>none
noncomputable def Ja:List D→Option D
 | [.int i,.int j]=>some (.int (max i j))
 | _=>none
noncomputable def NK:List D→Option D
 | [.int i,.int j]=>some (.int (min i j))
 | _=>none
noncomputable def Jw:List D→Option D
 | [.int i]=>some (.int i)
 | [.bool b]=>some (.int (if b then 1 else 0))
 | _=>none
theorem rep1 {H:Hp}{vs:List V}{d:D}(r:Ar K H vs [d]):∃ v,vs=[v]∧Rep K H v d:=by
 cases r with
 | cons a b=>cases b;exact⟨_,rfl,a⟩
theorem rep2 {H:Hp}{vs:List V}{d e:D}(r:Ar K H vs [d,e]):∃ v u,vs=[v,u]∧Rep K H v d∧Rep K H u e:=by
 cases r with
 | cons a b =>
  obtain⟨u,e1,r2⟩:=rep1 b
  exact⟨_,u,by rw[e1],a,r2⟩
theorem wR (hK:X.K=K):Nz X K (.builtin "len") (fun xs H Q=>∃ p ys,xs=[.ref p]∧(BP K H p ys∨Ds K H p ys)∧Q (.int ys.length) H) Bm:=⟨by subst hK;exact wM,by
 intro O H vs ds d Q ok r hg q
 unfold Bm at hg
 split at hg
 ·rename_i es
  cases hg
  obtain⟨v,rfl,r1⟩:=rep1 r
  cases r1 with
  | lst h r'=>exact⟨_,_,rfl,.inl (Cq.seq h),by rw[r'.length];exact q _ H (Aj.refl H) (.int _)⟩
 ·rename_i es
  cases hg
  obtain⟨v,rfl,r1⟩:=rep1 r
  cases r1 with
  | tup h r'=>exact⟨_,_,rfl,.inr (Cq.Km h),by rw[r'.length];exact q _ H (Aj.refl H) (.int _)⟩
 ·cases hg⟩
theorem AJp (hK:X.K=K):oZ X K (.type "list") (fun xs H Q=>∃ p ys,xs=[.ref p]∧(BP K H p ys∨Ds K H p ys)∧∀ l,H l=none→Q (.ref l) (upd H l (.lst ys))) G4:=⟨by subst hK;exact ABp,by
 intro O H vs ds d Q ok r hg q
 unfold G4 at hg
 split at hg
 ·rename_i es
  cases hg
  obtain⟨v,rfl,r1⟩:=rep1 r
  cases r1 with
  | lst h r'=>exact⟨_,_,rfl,.inl (Cq.seq h),fun l hl=>q l _ _ (Aj.new hl) hl Cm (r'.mono (QS hl))⟩
 ·rename_i es
  cases hg
  obtain⟨v,rfl,r1⟩:=rep1 r
  cases r1 with
  | tup h r'=>exact⟨_,_,rfl,.inr (Cq.Km h),fun l hl=>q l _ _ (Aj.new hl) hl Cm (r'.mono (QS hl))⟩
 ·cases hg⟩
theorem zQ (hc:X.calm=true):Nz X K (.builtin "max") (fun xs H Q=>∃ i j,xs=[.int i,.int j]∧Q (.int (if j > i then j else i)) H) Ja:=⟨AG0 hc,by
 intro O H vs ds d Q ok r hg q
 unfold Ja at hg
 split at hg
 ·rename_i i j
  cases hg
  obtain⟨v,u,rfl,r1,r2⟩:=rep2 r
  cases r1
  cases r2
  refine⟨i,j,rfl,?_⟩
  have e:(if j > i then j else i)=max i j:=by omega
  rw[e]
  exact q _ H (Aj.refl H) (.int _)
 ·cases hg⟩
theorem yS (hc:X.calm=true):Nz X K (.builtin "min") (fun xs H Q=>∃ i j,xs=[.int i,.int j]∧Q (.int (if j<i then j else i)) H) NK:=⟨AHS hc,by
 intro O H vs ds d Q ok r hg q
 unfold NK at hg
 split at hg
 ·rename_i i j
  cases hg
  obtain⟨v,u,rfl,r1,r2⟩:=rep2 r
  cases r1
  cases r2
  refine⟨i,j,rfl,?_⟩
  have e:(if j<i then j else i)=min i j:=by omega
  rw[e]
  exact q _ H (Aj.refl H) (.int _)
 ·cases hg⟩
theorem AH6:Nz X K (.type "int") (fun xs H Q=>(∃ i,xs=[.int i]∧Q (.int i) H)∨∃ k,xs=[.bl k]∧Q (.int (if k then 1 else 0)) H) Jw:=⟨AGR,by
 intro O H vs ds d Q ok r hg q
 unfold Jw at hg
 split at hg
 ·rename_i i
  cases hg
  obtain⟨v,rfl,r1⟩:=rep1 r
  cases r1
  exact .inl ⟨i,rfl,q _ H (Aj.refl H) (.int _)⟩
 ·rename_i b
  cases hg
  obtain⟨v,rfl,r1⟩:=rep1 r
  cases r1
  exact .inr ⟨b,rfl,q _ H (Aj.refl H) (.int _)⟩
 ·cases hg⟩
noncomputable def Nj:D→String
 | .none=>"NoneType"
 | .bool _=>"bool"
 | .int _=>"int"
 | .str _=>"str"
 | .list _=>"list"
 | .tuple _=>"tuple"
 | .dict []=>"dict"
 | .dict (_::_)=>"object"
noncomputable def f9 (U:String)(f:PF):PF:=fun ρ=>(f ρ).bind fun d=>some (.bool (PQ (Nj d) U))
noncomputable def PuO (K:Frag)(t:TO)(f:BR→Option (Option Int)):Prop:=∀ (O:List Addr) (σ:St) (H:Hp) (ρ:BR) (b:Option Int) (Q:Option Int→Hp→Prop),Bu O H→Dm K (Ah O H) σ ρ→f ρ=some b →
 (∀ H',Aj H H'→Q b H')→t σ H Q
structure JO (X:Cx)(K:Frag)(e:Option Expr)(t:TO)(f:BR→Option (Option Int)):Prop where
 pe:PO X e t
 pu:PuO K t f
noncomputable def Ez:D→Option Int
 | .int i=>some i
 | _=>none
noncomputable def JQ:BR→Option (Option Int):=fun _=>some none
noncomputable def Ea (f:PF):BR→Option (Option Int):=fun ρ=>(f ρ).bind fun d=>(Ez d).bind fun i=>some (some i)
theorem ABt:JO X K none uP JQ:=⟨xH,by
 intro O σ H ρ b Q ok er h q
 cases h
 exact q H (Aj.refl H)⟩
theorem xU {e:Expr}{te:TE}{f:PF}(h:JE X K e te f):JO X K (some e) (gA te) (Ea f):=⟨AFd h.pe,by
 intro O σ H ρ b Q ok er hf q
 obtain⟨x,e1,hf⟩:=Ag hf
 obtain⟨i,e2,hf⟩:=Ag hf
 cases hf
 refine h.pu O σ H ρ x _ ok er e1 fun v H1 s1 r1=>?_
 cases r1 with
 | int j=>cases e2;exact⟨_,rfl,q H1 s1⟩
 | _=>cases e2⟩
noncomputable def cutD (xs:List D)(lo hi:Option Int):List D:=(xs.drop (HT.DY xs.length 0 lo)).take (HT.DY xs.length xs.length hi-HT.DY xs.length 0 lo)
theorem Ar.cut {H:Hp}{xs:List V}{ds:List D}(r:Ar K H xs ds)(lo hi:Option Int):Ar K H (Nr xs lo hi) (cutD ds lo hi):=by
 unfold Nr cutD
 rw[r.length]
 exact (r.drop _).take _
noncomputable def Gk:D→Option (List D)
 | .list ds=>some ds
 | _=>none
noncomputable def jB:D→Option (List D)
 | .tuple ds=>some ds
 | _=>none
noncomputable def Fd (f:PF)(l u:BR→Option (Option Int)):BJ:=fun ρ=>(f ρ).bind fun d=>(l ρ).bind fun lo=>(u ρ).bind fun hi=>(Gk d).bind fun ds=>some (cutD ds lo hi)
theorem xP {e:Expr}{te:TE}{f:PF}{lo hi:Option Expr}{tl th:TO}{fl fh:BR→Option (Option Int)}{p2 pos:Pos}(hK:X.K=K)(he:JE X K e te f)(hl:JO X K lo tl fl)(hu:JO X K hi th fh) :
  JL X K (.Subscript e (.Slice lo hi none p2) pos) (eF (mR K) te tl th) (Fd f fl fh):=⟨by subst hK;exact ABJ AHE he.pe hl.pe hu.pe,by
 intro O σ H ρ ds Q ok er hf q
 obtain⟨x,e1,hf⟩:=Ag hf
 obtain⟨l,e2,hf⟩:=Ag hf
 obtain⟨u,e3,hf⟩:=Ag hf
 obtain⟨es,e4,hf⟩:=Ag hf
 cases hf
 refine he.pu O σ H ρ x _ ok er e1 fun v H1 s1 r1=>?_
 refine hl.pu O σ H1 ρ l _ (ok.mono s1) (er.Ah s1) e2 fun H2 s2=>?_
 refine hu.pu O σ H2 ρ u _ ((ok.mono s1).mono s2) (er.Ah (s1.trans s2)) e3 fun H3 s3=>?_
 have r3:=r1.Ah (s2.trans s3)
 cases r3 with
 | lst h r' =>
  cases e4
  refine⟨_,_,rfl,Cq.seq h,fun p hp=>?_⟩
  have s03:=(s1.trans s2).trans s3
  exact q p _ _ (s03.trans (Aj.new hp)) (s03.free hp) Cm ((r'.cut l u).mono (QS hp))
 | _=>cases e4⟩
noncomputable def iU (K:Frag):R2:=fun x y H Q=>∃ l b xs zs,x=.ref l∧y=.ref b∧BP K H l xs∧BP K H b zs∧xs.length+zs.length≤sizeLine∧∀ p,H p=none→Q (.ref p) (upd H p (.lst (xs++zs)))
theorem ACi:EY X (binaryOp .Add) (iU X.K):=by
 intro pins s σ H x y v u Q I rx ry h
 obtain⟨l,b,xs,zs,rfl,rfl,hH,hB,hz,q⟩:=h
 cases rx
 cases ry
 obtain⟨its,r,pl,hl⟩:=I.list hH
 obtain⟨its2,r2,pl2,hl2⟩:=I.list hB
 obtain⟨⟨cls,dd,data,sl⟩,n,ho,hc,hd,hs⟩:=pl
 obtain⟨⟨cls2,dd2,data2,sl2⟩,n2,ho2,hc2,hd2,hs2⟩:=pl2
 simp only at hc hd hs hc2 hd2 hs2
 subst hc hd hs hc2 hd2 hs2
 have e:its.toArray++its2.toArray=(its++its2).toArray:=by simp
 refine concat_meets ⟨_,ho,rfl⟩ ⟨_,ho2,rfl⟩ noFill_list_add seq_list_add PySem.F.slot_list_add PySem.F.entry_list_add (PySem.F.args_list_add_2 _ _) (list_addW l b its.toArray its2.toArray n n2 none none sl sl2 (by have:=r.length;have:=r2.length;simp;omega)) ⟨ho,ho2,?_⟩
 rw[e]
 exact⟨.ref _,_,I.Wn (t':=s.toks) (r.append r2) (by rw[List.length_append];omega),rfl,q _ I.fresh⟩
noncomputable def G9 (a b:PF):BJ:=fun ρ=>(a ρ).bind fun x=>(b ρ).bind fun y=>(Gk x).bind fun xs=>(Gk y).bind fun ys=>if fits (xs.length+ys.length)=true then some (xs++ys) else none
theorem ADU {a b:Expr}{ta tb:TE}{fa fb:PF}{pos:Pos}(hK:X.K=K)(ha:JE X K a ta fa)(hb:JE X K b tb fb):JL X K (.BinOp a .Add b pos) (Fq (iU K) ta tb) (G9 fa fb):=⟨by subst hK;exact jL ACi ha.pe hb.pe,by
 intro O σ H ρ ds Q ok er hf q
 obtain⟨x,e1,hf⟩:=Ag hf
 obtain⟨y,e2,hf⟩:=Ag hf
 obtain⟨xs,e3,hf⟩:=Ag hf
 obtain⟨ys,e4,hf⟩:=Ag hf
 by_cases hc:fits (xs.length+ys.length)=true
 ·rw[if_pos hc] at hf
  cases hf
  refine ha.pu O σ H ρ x _ ok er e1 fun v H1 s1 r1=>?_
  refine hb.pu O σ H1 ρ y _ (ok.mono s1) (er.Ah s1) e2 fun u H2 s2 r2=>?_
  have r1':=r1.Ah s2
  cases r1' with
  | lst h r' =>
   cases e3
   cases r2 with
   | lst h2 r2' =>
    cases e4
    refine⟨_,_,_,_,rfl,rfl,Cq.seq h,Cq.seq h2,by rw[r'.length,r2'.length];exact Yn hc,fun p hp=>?_⟩
    have s02:=s1.trans s2
    exact q p _ _ (s02.trans (Aj.new hp)) (s02.free hp) Cm ((r'.append r2').mono (QS hp))
   | _=>cases e4
  | _=>cases e3
 ·rw[if_neg hc] at hf
  cases hf⟩
end
noncomputable def Oh (K:Frag)(G:Hp)(J:It)(items:List D):Prop:=∀ (Oc:List Addr) (H':Hp),Bu Oc H'→Aj G (Ah Oc H') →
 (∀ i,i<items.length→J.go i H')∧(∀ i x H'',i<items.length→J.yld i H' x H''→∃ d,items[i]?=some d∧Aj H' H''∧Rep K (Ah Oc H'') x d)∧J.stop items.length H'
noncomputable def Su (K:Frag)(wi:TI)(f:BJ):Prop:=∀ (O:List Addr) (σ:St) (H:Hp) (ρ:BR) (items:List D) (R:It→Hp→Prop),Bu O H→Dm K (Ah O H) σ ρ→f ρ=some items →
 (∀ J H1,Aj H H1→Oh K (Ah O H1) J items→R J H1)→wi σ H R
structure JI (X:Cx)(K:Frag)(tg e:Expr)(wi:TI)(f:BJ):Prop where
 pe:PI X tg e wi
 pu:Su K wi f
noncomputable def Be (f:PF):BJ:=fun ρ=>(f ρ).bind Gk
noncomputable def bW (f:PF):BJ:=fun ρ=>(f ρ).bind jB
noncomputable def Ci (lo:Int)(n:Nat):List D:=(List.range n).map fun i=>.int (lo+(i:Nat))
noncomputable def Dn:List D→Option (List D)
 | [.int j]=>if -(2 ^ 62)≤j∧j<2 ^ 62 then some (Ci 0 j.toNat) else none
 | _=>none
noncomputable def Im:List D→Option (List D)
 | [.int i,.int j]=>if -(2 ^ 62)≤i∧i<2 ^ 62∧-(2 ^ 62)≤j∧j<2 ^ 62 then some (Ci i (j-i).toNat) else none
 | _=>none
noncomputable def Gf (ds:List D):List D:=ds.zipIdx.map fun p=>.tuple [.int (p.2:Nat),p.1]
noncomputable def HX:List D→Option (List D)
 | [.list ds]=>some (Gf ds)
 | _=>none
noncomputable def Kv (xs ys:List D):List D:=List.zipWith (fun a b=>.tuple [a,b]) xs ys
noncomputable def VM:List D→Option (List D)
 | [.list xs,.list ys]=>some (Kv xs ys)
 | _=>none
section
variable {X:Cx}{K:Frag}{tg:Expr}
theorem AGt {G:Hp}{a:Addr}{xs:List V}{ds:List D}(h:BP K G a xs)(r:Ar K G xs ds):Oh K G (V4 K a) ds:=by
 intro Oc H' ok s
 have hq:BP K H' a xs:=(s.trans Cq).seq h
 have hl:=r.length
 refine⟨fun i hi=>⟨xs,xs[i],hq,by simp [show i<xs.length by omega]⟩,fun i x H'' hi y=>?_,⟨xs,hq,by omega⟩⟩
 obtain⟨e,y⟩:=y
 subst e
 obtain⟨d,e,rd⟩:=r.Ot (y xs hq)
 exact⟨d,e,Aj.refl _,rd.mono s⟩
theorem gU (lo:Int)(n:Nat):(Ci lo n).length=n:=by simp [Ci]
theorem AFi {lo:Int}{n i:Nat}(h:i<n):(Ci lo n)[i]?=some (.int (lo+(i:Nat))):=by simp [Ci,h]
theorem Zc {G:Hp}{lo:Int}{n:Nat}:Oh K G (Pj lo n) (Ci lo n):=by
 intro Oc H' ok s
 rw[gU]
 refine⟨fun i hi=>hi,fun i x H'' hi y=>?_,Nat.le_refl _⟩
 obtain⟨e,y⟩:=y
 subst e y
 exact⟨_,AFi hi,Aj.refl _,.int _⟩
theorem ADh {ds:List D}{i:Nat}{d:D}(h:ds[i]?=some d):(Gf ds)[i]?=some (.tuple [.int (i:Nat),d]):=by
 unfold Gf
 rw[List.getElem?_map,List.getElem?_zipIdx,h]
 simp
theorem AJc {G:Hp}{a:Addr}{xs:List V}{ds:List D}(h:BP K G a xs)(r:Ar K G xs ds):Oh K G (XN K a) (Gf ds):=by
 intro Oc H' ok s
 have hq:BP K H' a xs:=(s.trans Cq).seq h
 have hl:=r.length
 have hn:(Gf ds).length=ds.length:=by simp [Gf]
 rw[hn]
 refine⟨fun i hi=>⟨xs,xs[i],hq,by simp [show i<xs.length by omega]⟩,fun i x H'' hi y=>?_,⟨xs,hq,by omega⟩⟩
 obtain⟨p,z,hp,rfl,rfl,y⟩:=y
 obtain⟨d,e,rd⟩:=r.Ot (y xs hq)
 have sn:Aj H' (upd H' p (.tup [.int i,z])):=Aj.new hp
 refine⟨_,ADh e,sn,.tup (Ds.of ?_) (.cons (.int _) (.cons ((rd.mono s).Ah sn) .nil))⟩
 rw[Bw (ok.fresh hp)]
 exact Cm
theorem AJL {l:Expr}{tl:TE}{f:PF}(hK:X.K=K)(h:JE X K l tl f):JI X K tg l (jP K tl) (Be f):=⟨by subst hK;exact yZ h.pe,by
 intro O σ H ρ items R ok er hf q
 obtain⟨x,e1,hf⟩:=Ag hf
 refine h.pu O σ H ρ x _ ok er e1 fun v H1 s1 r1=>?_
 cases r1 with
 | lst hq r'=>cases hf;exact⟨_,rfl,⟨_,Cq.seq hq⟩,q _ H1 s1 (AGt hq r')⟩
 | _=>cases hf⟩
theorem ADY {a:Expr}{ta:TA}{r:BJ}{p pos:Pos}(hg:Gl X "range")(hm:X.mg "range"=none)(ha:JA X K [a] ta r)(hs:starEach [a] X.env=[(false,eval a X.env)]:=by rfl):JI X K tg (.Call (.Name "range" p) [a] [] pos) (Xo ta) (Az Dn r):=⟨cI hg hm ha.pe hs,by
 intro O σ H ρ items R ok er hf q
 obtain⟨ds,e1,hf⟩:=Ag hf
 refine ha.pu O σ H ρ ds _ ok er e1 fun vs H1 s1 r1=>?_
 unfold Dn at hf
 split at hf
 ·rename_i j
  obtain⟨v,rfl,rv⟩:=rep1 r1
  cases rv
  by_cases hc:-(2 ^ 62)≤j∧j<2 ^ 62
  ·rw[if_pos hc] at hf
   cases hf
   exact⟨j,rfl,hc.1,hc.2,q _ H1 s1 Zc⟩
  ·rw[if_neg hc] at hf
   cases hf
 ·cases hf⟩
theorem AAu {a b:Expr}{ta:TA}{r:BJ}{p pos:Pos}(hg:Gl X "range")(hm:X.mg "range"=none)(ha:JA X K [a,b] ta r)(hs:starEach [a,b] X.env=[(false,eval a X.env),(false,eval b X.env)]:=by rfl)(hs2:starEach [b] X.env=[(false,eval b X.env)]:=by rfl) :
  JI X K tg (.Call (.Name "range" p) [a,b] [] pos) (j7 ta) (Az Im r):=⟨yE hg hm ha.pe hs hs2,by
 intro O σ H ρ items R ok er hf q
 obtain⟨ds,e1,hf⟩:=Ag hf
 refine ha.pu O σ H ρ ds _ ok er e1 fun vs H1 s1 r1=>?_
 unfold Im at hf
 split at hf
 ·rename_i i j
  obtain⟨v,u,rfl,rv,ru⟩:=rep2 r1
  cases rv
  cases ru
  by_cases hc:-(2 ^ 62)≤i∧i<2 ^ 62∧-(2 ^ 62)≤j∧j<2 ^ 62
  ·rw[if_pos hc] at hf
   cases hf
   exact⟨i,j,rfl,hc,q _ H1 s1 Zc⟩
  ·rw[if_neg hc] at hf
   cases hf
 ·cases hf⟩
theorem ACI {elts:List Expr}{k1:Nat}{tpos:Pos}{a:Expr}{ta:TA}{r:BJ}{p pos:Pos}(hK:X.K=K)(hg:Gl X "enumerate")(hm:X.mg "enumerate"=none)(ha:JA X K [a] ta r)(hs:starEach [a] X.env=[(false,eval a X.env)]:=by rfl) :
  JI X K (.Tuple elts k1 tpos) (.Call (.Name "enumerate" p) [a] [] pos) (jV K ta) (Az HX r):=⟨by subst hK;exact AH1 hg hm ha.pe hs,by
 intro O σ H ρ items R ok er hf q
 obtain⟨ds,e1,hf⟩:=Ag hf
 refine ha.pu O σ H ρ ds _ ok er e1 fun vs H1 s1 r1=>?_
 unfold HX at hf
 split at hf
 ·rename_i es
  obtain⟨v,rfl,rv⟩:=rep1 r1
  cases hf
  cases rv with
  | lst hq r'=>exact⟨_,rfl,⟨_,Cq.seq hq⟩,q _ H1 s1 (AJc hq r')⟩
 ·cases hf⟩
end
noncomputable def W6 (K:Frag)(g:TG)(bd:D→BR→Option BR):Prop:=∀ (O:List Addr) (v:V) (d:D) (σ:St) (H:Hp) (ρ ρ':BR) (Q:St→Hp→Prop),Bu O H→Rep K (Ah O H) v d→Dm K (Ah O H) σ ρ→σ.length=ρ.length→bd d ρ=some ρ' →
 (∀ σ',σ'.length=ρ'.length→Dm K (Ah O H) σ' ρ'→Q σ' H)→g v σ H Q
structure JG (X:Cx)(K:Frag)(tg:Expr)(g:TG)(bd:D→BR→Option BR):Prop where
 pe:PG X tg g
 pu:W6 K g bd
noncomputable def Bg (i:Nat):D→BR→Option BR:=fun d ρ=>some (ρ.set i (some d))
noncomputable def J0 (i j:Nat):D→BR→Option BR
 | .tuple [a,b],ρ=>some ((ρ.set i (some a)).set j (some b))
 | _,_=>none
theorem Dm.set {K:Frag}{H:Hp}{σ:St}{ρ:BR}{v:V}{d:D}(e:Dm K H σ ρ)(hl:σ.length=ρ.length)(r:Rep K H v d)(i:Nat):Dm K H (σ.set i (some v)) (ρ.set i (some d)):=fun j d' h=>by
 by_cases hj:i=j
 ·subst hj
  by_cases hi:i<ρ.length
  ·rw[List.getElem?_set_self hi] at h
   cases h
   exact⟨v,by rw[List.getElem?_set_self (by omega)],r⟩
  ·rw[List.getElem?_eq_none (by simp;omega)] at h
   cases h
 ·rw[List.getElem?_set_ne hj] at h
  obtain⟨u,e1,r1⟩:=e j d' h
  exact⟨u,by rw[List.getElem?_set_ne hj];exact e1,r1⟩
section
variable {X:Cx}{K:Frag}{pos:Pos}
theorem AHa {i:Nat}{x:Str}(hN:X.N.Nodup)(hi:X.N[i]?=some x)(hx:Loc X.env.scope x)(hf:X.fn x=true∨X.env.scope.names.lookup x=some .local:=by first | exact .inl rfl | exact .inr rfl | assumption):JG X K (.Name x pos) (Df i) (Bg i):=⟨Iu hN hi hx hf,by
 intro O v d σ H ρ ρ' Q ok r er hl hb q
 cases hb
 exact q _ (by simp [hl]) (er.set hl r i)⟩
theorem AHi {i j:Nat}{x y:Str}{p1 p2:Pos}{k:Nat}(hK:X.K=K)(hc:X.calm=true)(hN:X.N.Nodup)(hi:X.N[i]?=some x)(hx:Loc X.env.scope x)(hj:X.N[j]?=some y)(hy:Loc X.env.scope y)(hf:X.fn x=true∨X.env.scope.names.lookup x=some .local:=by first | exact .inl rfl | exact .inr rfl | assumption)(hf2:X.fn y=true∨X.env.scope.names.lookup y=some .local:=by first | exact .inl rfl | exact .inr rfl | assumption)(h1:(assignEach [.Name x p1,.Name y p2] X.env).map (·.2)=assign (.Name x p1) X.env::(assignEach [.Name y p2] X.env).map (·.2):=by rfl)(h2:(assignEach [.Name y p2] X.env).map (·.2)=assign (.Name y p2) X.env::(assignEach [] X.env).map (·.2):=by rfl)(hn:(assignEach [.Name x p1,.Name y p2] X.env).length=2:=by rfl)(hst:(assignEach [.Name x p1,.Name y p2] X.env).findIdx? (·.1)=none:=by rfl) :
  JG X K (.Tuple [.Name x p1,.Name y p2] k pos) (Qe K 2 (Iv (Df i) (Iv (Df j) QR))) (J0 i j):=⟨by
 subst hK
 exact aG hc (Lf (Iu hN hi hx hf) (Lf (Iu hN hj hy hf2) X6 h2) h1) hn hst,by
 intro O v d σ H ρ ρ' Q ok r er hl hb q
 unfold J0 at hb
 split at hb
 ·rename_i a b _
  cases hb
  cases r with
  | tup hq r' =>
   obtain⟨v1,v2,rfl,r1,r2⟩:=rep2 r'
   refine⟨_,_,rfl,Cq.Km hq,rfl,_,_,rfl,_,_,rfl,rfl,?_⟩
   exact q _ (by simp [hl]) ((er.set hl r1 i).set (by simp [hl]) r2 j)
 ·cases hb⟩
end
noncomputable def JB (bd:D→BR→Option BR)(pt:PB)(fe:PF)(ρ0:BR):List D→Option (List D)
 | []=>some []
 | d::ds=>(bd d ρ0).bind fun ρ1=>(pt ρ1).bind fun b=>if b=true then (fe ρ1).bind fun e=>(JB bd pt fe ρ0 ds).bind fun r=>some (e::r) else JB bd pt fe ρ0 ds
noncomputable def compEnv (n:Nat)(is:List Nat)(ρ:BR):BR:=List.replicate n none++is.map fun i=>(ρ[i]?).join
noncomputable def BX (fi:BJ)(bd:D→BR→Option BR)(pt:PB)(fe:PF)(n:Nat)(is:List Nat):BJ:=fun ρ=>(fi ρ).bind fun items=>if fits items.length=true then JB bd pt fe (compEnv n is ρ) items else none
theorem vV {K:Frag}{H:Hp}{σ:St}{ρ:BR}{n:Nat}{fv:List (Nat×Str)}(e:Dm K H σ ρ):Dm K H (GF n fv σ) (compEnv n (fv.map (·.1)) ρ):=fun i d h=>by
 unfold compEnv at h
 by_cases hi:i<n
 ·rw[List.getElem?_append_left (by simpa using hi),List.getElem?_replicate,if_pos hi] at h
  cases h
 ·have hn:n≤i:=by omega
  rw[List.getElem?_append_right (by simpa using hn),List.length_replicate,List.getElem?_map,List.getElem?_map] at h
  cases e1:fv[i-n]? with
  | none=>rw[e1] at h;cases h
  | some p =>
   rw[e1] at h
   have h':(ρ[p.1]?).join=some d:=Option.some.inj h
   have h2:ρ[p.1]?=some (some d):=by
    cases e2:ρ[p.1]? with
    | none=>rw[e2] at h';cases h'
    | some o=>rw[e2] at h';rw[show o=some d from h']
   obtain⟨v,e3,r⟩:=e p.1 d h2
   refine⟨v,?_,r⟩
   unfold GF
   rw[List.getElem?_append_right (by simpa using hn),List.length_replicate,List.getElem?_map,e1]
   show some (σ[p.1]?).join=_
   rw[e3]
   rfl
section
variable {K:Frag}{wi:TI}{g:TG}{tc:TT}{te:TE}{fi:BJ}{bd:D→BR→Option BR}{pt:PB}{fe:PF}
theorem fY (hi:Su K wi fi)(hg:W6 K g bd)(ht:Kf K tc pt)(he:Fg K te fe)(n:Nat)(fv:List (Nat×Str)):Iw K (HN wi g tc te n fv) (BX fi bd pt fe n (fv.map (·.1))):=by
 intro O σ H ρ total Q ok er hf q
 obtain⟨items,e1,hf⟩:=Ag hf
 by_cases hc:fits items.length=true
 case neg=>rw[if_neg hc] at hf;cases hf
 rw[if_pos hc] at hf
 refine hi O σ H ρ items _ ok er e1 fun J H1 s1 it=>fun D0 hD0=>?_
 have hlt:items.length<sizeLine:=of_decide_eq_true hc
 have okD:∀ {H'},H' D0≠none→Aj H1 H'→Bu (D0::O) H':=fun {H'} hn s' a ha=>by
  rcases List.mem_cons.mp ha with rfl | ha
  ·cases e:H' a with
   | none=>exact absurd e hn
   | some o=>exact⟨o,rfl⟩
  ·exact ((ok.mono s1).mono s') a ha
 have sD:∀ {H'},Aj H1 H'→Aj (Ah O H1) (Ah (D0::O) H'):=fun {H'} s' b o e=>by
  obtain⟨n1,e⟩:=GD e
  have nb:b≠D0:=Cg e hD0
  rw[Bw (by simp [nb,n1])]
  exact s' b o e
 have er1:Dm K (Ah O H1) σ ρ:=er.Ah s1
 have Yd:(GF n fv σ).length=(compEnv n (fv.map (·.1)) ρ).length:=by simp [GF,compEnv]
 refine dD (n:=items.length) (fun i ys H'=>H' D0=some (.lst ys)∧Aj H1 H'∧ys.length≤i∧∃ es rest,Ar K (Ah (D0::O) H') ys es∧JB bd pt fe (compEnv n (fv.map (·.1)) ρ) (items.drop i)=some rest∧es++rest=total)
  ⟨Cm,Aj.new hD0,Nat.zero_le _,[],total,.nil,by simpa using hf,rfl⟩ (fun i ys H' p=>p.1) (fun i ys H' hi' p=>((it (D0::O) H' (okD (by rw[p.1];simp) p.2.1) (sD p.2.1)).1 i hi')) ?_ ?_
 ·rintro i ys H' x H'' hi' ⟨hD',s',hy,es,rest,rr,hcp,htot⟩ yl
  obtain⟨d,ed,s'',rd⟩:=(it (D0::O) H' (okD (by rw[hD'];simp) s') (sD s')).2.1 i x H'' hi' yl
  have hdrop:items.drop i=d::items.drop (i+1):=by
   rw[List.drop_eq_getElem_cons hi']
   congr 1
   exact Option.some.inj ((List.getElem?_eq_getElem hi').symm.trans ed)
  rw[hdrop] at hcp
  obtain⟨ρ1,eb,hcp⟩:=Ag hcp
  obtain⟨b,et,hcp⟩:=Ag hcp
  have s2:=s'.trans s''
  have Rf:=s'' _ _ hD'
  have ok2:Bu (D0::O) H'':=okD (by rw[Rf];simp) s2
  refine hg (D0::O) x d _ H'' _ ρ1 _ ok2 rd ((vV er1).mono (sD s2)) Yd eb fun σ2 hl2 er2=>?_
  refine ht (D0::O) σ2 H'' ρ1 b _ ok2 er2 et fun H3 s3=>?_
  have s03:=s2.trans s3
  have hD3:=s3 _ _ Rf
  cases b with
  | false =>
   rw[if_neg Bool.false_ne_true] at hcp ⊢
   exact⟨hD3,s03,by omega,es,rest,rr.Ah (s''.trans s3),hcp,htot⟩
  | true =>
   rw[if_pos rfl] at hcp ⊢
   obtain⟨e,ee,hcp⟩:=Ag hcp
   obtain⟨r,er',hcp⟩:=Ag hcp
   cases hcp
   refine he (D0::O) σ2 H3 ρ1 e _ (ok2.mono s3) (er2.Ah s3) ee fun v H4 s4 rv=>?_
   have hD4:=s4 _ _ hD3
   have s04:=s03.trans s4
   refine⟨hD4,by omega,Cm,?_,by rw[List.length_append];show ys.length+1≤i+1;omega,es++[e],r,?_,er',by rw[List.append_assoc];exact htot⟩
   ·intro b' o' eb'
    rw[Bb (Cg eb' hD0)]
    exact s04 b' o' eb'
   ·rw[Gz (Bf)]
    exact (rr.Ah ((s''.trans s3).trans s4)).append (.cons rv .nil)
 ·rintro ys H' ⟨hD',s',hy,es,rest,rr,hcp,htot⟩
  refine⟨(it (D0::O) H' (okD (by rw[hD'];simp) s') (sD s')).2.2,?_⟩
  rw[List.drop_length] at hcp
  cases hcp
  rw[List.append_nil] at htot
  subst htot
  exact q D0 ys H' (s1.trans s') (s1.free hD0) hD' rr
end
section
variable {X:Cx}{K:Frag}{tg elt iter:Expr}{ifs:List Expr}{scope:Scope}{wi:TI}{g:TG}{tc:TT}{te:TE}{fi:BJ}{bd:D→BR→Option BR}{pt:PB}{fe:PF}
structure Hz (X:Cx)(K:Frag)(ifs:List Expr)(t:TT)(f:PB):Prop where
 pe:Ob X ifs t
 pu:Kf K t f
theorem AFS:Hz X K [] t6 DK:=⟨AFX,by
 intro O σ H ρ b Q ok er h q
 cases h
 exact q H (Aj.refl H)⟩
theorem ADs {c:Expr}{t:TT}{f:PB}(h:JT X K c t f):Hz X K [c] t f:=⟨AH4 h.pe,h.pu⟩
theorem AAH {pos:Pos}(own:List Str)(fv:List (Nat×Str))(hc:X.calm=true)(hi:JI X K tg iter wi fi)(fo:GX X scope fv)(gk:HW own.length g)(bg:∀ fp pins s H,JG (Cd X (own++fv.map (·.2)) scope (Dc X.env scope.names []) fp pins s H) K tg g bd)(bt:∀ fp pins s H,Hz (Cd X (own++fv.map (·.2)) scope (Dc X.env scope.names []) fp pins s H) K ifs tc pt)(be:∀ fp pins s H,JE (Cd X (own++fv.map (·.2)) scope (Dc X.env scope.names []) fp pins s H) K elt te fe)(kind:scope.kind=.function)(cell:∀ y∈scope.names,y.2≠.cell)(names:∀ x∈scope.names,x.2=.local→scope.names.lookup x.1=some .local)(free:freeOk X scope=true)(hs:∀ x,foldedSetIterable iter X.env x=pure x:=by intro _;rfl) :
  JL X K (.ListComp elt [⟨tg,iter,ifs,0⟩] scope pos) (HN wi g tc te own.length fv) (BX fi bd pt fe own.length (fv.map (·.1))) :=
 ⟨cW own fv hc hi.pe fo gk (fun fp pins s H=>(bg fp pins s H).pe) (fun fp pins s H=>(bt fp pins s H).pe) (fun fp pins s H=>(be fp pins s H).pe) kind cell names free hs,
   fY hi.pu (bg [] [] X.s₀ X.H₀).pu (bt [] [] X.s₀ X.H₀).pu (be [] [] X.s₀ X.H₀).pu _ _⟩
end
inductive Cn where
 | obj (ks:List Str) (ds:List D)
 | lst (ds:List D)
 | dct (kvs:List (Int×D))
 | nst (dss:List (List D))
noncomputable def Cn.eG:Cn→Bool
 | .nst _=>true
 | _=>false
noncomputable def Cn.view:Cn→Option D
 | .obj ks ds=>some (.dict (pO ks ds))
 | .lst ds=>some (.list ds)
 | .dct _=>none
 | .nst dss=>some (.list (dss.map .list))
inductive Sl where
 | no
 | sh (d:D)
 | ow (ds:List D)
 | on (dss:List (List D))
 | tr (a:Addr) (c:Cn)
noncomputable abbrev Af:=List Sl
noncomputable def Sl.view:Sl→Option D
 | .no=>none
 | .sh d=>some d
 | .ow ds=>some (.list ds)
 | .on dss=>some (.list (dss.map .list))
 | .tr _ c=>c.view
noncomputable def Sl.mask:Sl→Option D
 | .sh d=>some d
 | _=>none
noncomputable def full (ρ:Af):BR:=ρ.map Sl.view
noncomputable def masked (ρ:Af):BR:=ρ.map Sl.mask
theorem Sq {H:Hp}{a:Addr}{ps qs:List Addr}(e:H a=some (.lst (ps.map V.ref)))(e':H a=some (.lst (qs.map V.ref))):ps=qs:=by
 rw[e] at e'
 have:ps.map V.ref=qs.map V.ref:=by injection e' with e';injection e'
 exact (List.map_inj_right fun x y z=>by injection z).mp this
inductive Inner (K:Frag)(G H:Hp):List Addr→List (List D)→Prop
 | nil:Inner K G H [] []
 | cons {p:Addr}{xs:List V}{ds:List D}{ps:List Addr}{dss:List (List D)}:H p=some (.lst xs)→Ar K G xs ds→Inner K G H ps dss→Inner K G H (p::ps) (ds::dss)
section
variable {K:Frag}{G G' H H':Hp}
theorem Inner.len {ps:List Addr}{dss:List (List D)}(i:Inner K G H ps dss):ps.length=dss.length:=by
 induction i with
 | nil=>rfl
 | cons _ _ _ ih=>simp [ih]
theorem Inner.mem {ps:List Addr}{dss:List (List D)}(i:Inner K G H ps dss):∀ a∈ps,∃ xs,H a=some (.lst xs):=by
 induction i with
 | nil=>intro a h;cases h
 | cons e _ _ ih =>
  intro b h
  rcases List.mem_cons.mp h with rfl | h
  ·exact⟨_,e⟩
  ·exact ih b h
theorem Inner.mono {ps:List Addr}{dss:List (List D)}(i:Inner K G H ps dss)(g:Aj G G')(h:∀ a∈ps,∀ o,H a=some o→H' a=some o):Inner K G' H' ps dss:=by
 induction i with
 | nil=>exact .nil
 | cons e r _ ih=>exact .cons (h _ Bf _ e) (r.mono g) (ih fun a ha=>h a (Bt ha))
theorem Inner.full {ps:List Addr}{dss:List (List D)}(i:Inner K G H ps dss)(g:Aj G G')(h:∀ a∈ps,∀ o,H a=some o→G' a=some o):Ar K G' (ps.map V.ref) (dss.map .list):=by
 induction i with
 | nil=>exact .nil
 | cons e r _ ih=>exact .cons (.lst (BP.of (h _ Bf _ e)) (r.mono g)) (ih fun a ha=>h a (Bt ha))
theorem Inner.get:∀ {ps:List Addr}{dss:List (List D)}{j:Nat}{ds:List D},Inner K G H ps dss→dss[j]?=some ds→∃ p xs,ps[j]?=some p∧H p=some (.lst xs)∧Ar K G xs ds
 | _,_,_,_,.nil,h=>by simp at h
 | _,_,0,_,.cons e r _,h=>by simp at h;subst h;exact⟨_,_,rfl,e,r⟩
 | _,_,j+1,_,.cons _ _ t,h=>by
  obtain⟨p,xs,h1,h2,h3⟩:=Inner.get (j:=j) t (by simpa using h)
  exact⟨p,xs,by simpa using h1,h2,h3⟩
theorem Inner.write {p:Addr}{ys:List V}{es:List D}(r:Ar K G ys es):∀ {ps:List Addr}{dss:List (List D)}{j:Nat},ps.Nodup→Inner K G H ps dss→ps[j]?=some p→Inner K G (upd H p (.lst ys)) ps (dss.set j es)
 | _,_,_,_,.nil,h=>by simp at h
 | _,_,0,nd,.cons e _ t,h=>by
  simp at h
  subst h
  have nd':=List.nodup_cons.mp nd
  exact .cons Cm r (t.mono (Aj.refl _) fun b hb o e=>by rw[Bb fun z=>nd'.1 (by rw[← z];exact hb)];exact e)
 | _,_,j+1,nd,.cons e q t,h=>by
  have nd':=List.nodup_cons.mp nd
  rw[List.getElem?_cons_succ] at h
  have h':=h
  have hm:=List.mem_of_getElem? h'
  exact .cons (by rw[Bb fun z=>nd'.1 (by rw[z];exact hm)];exact e) q (Inner.write (j:=j) r nd'.2 t h')
end
noncomputable def MF:HO→Bool
 | .lst _=>true
 | .ins _ _ _=>true
 | .dK _=>true
 | _=>false
noncomputable def Gm (K:Frag)(G H:Hp)(a:Addr):Cn→Prop
 | .obj ks ds=>∃ C dx fs,qC K C∧H a=some (.ins C dx fs)∧fs.map (·.1)=ks∧Ar K G (fs.map (·.2)) ds
 | .lst ds=>∃ xs,H a=some (.lst xs)∧Ar K G xs ds
 | .dct kvs=>∃ ps:List (Int×V),H a=some (.dK (ps.map fun p=>(Sum.inl p.1,p.2)))∧ps.map (·.1)=kvs.map (·.1)∧Ar K G (ps.map (·.2)) (kvs.map (·.2))
 | .nst _=>False
theorem Gm.own {K:Frag}{G H:Hp}{a:Addr}{c:Cn}(h:Gm K G H a c):∃ o,H a=some o∧MF o=true:=by
 cases c with
 | obj ks ds=>obtain⟨C,dx,fs,_,e,_⟩:=h;exact⟨_,e,rfl⟩
 | lst ds=>obtain⟨xs,e,_⟩:=h;exact⟨_,e,rfl⟩
 | dct kvs=>obtain⟨ps,e,_⟩:=h;exact⟨_,e,rfl⟩
 | nst _=>exact h.elim
theorem Gm.mono {K:Frag}{G G' H H':Hp}{a:Addr}{c:Cn}(h:Gm K G H a c)(g:Aj G G')(e:∀ o,H a=some o→H' a=some o):Gm K G' H' a c:=by
 cases c with
 | obj ks ds=>obtain⟨C,dx,fs,k,q,z,r⟩:=h;exact⟨C,dx,fs,k,e _ q,z,r.mono g⟩
 | lst ds=>obtain⟨xs,q,r⟩:=h;exact⟨xs,e _ q,r.mono g⟩
 | dct kvs=>obtain⟨ps,q,z,r⟩:=h;exact⟨ps,e _ q,z,r.mono g⟩
 | nst _=>exact h.elim
theorem Gm.rep {K:Frag}{G G' H:Hp}{a:Addr}{c:Cn}{d:D}(h:Gm K G H a c)(g:Aj G G')(e:∀ o,H a=some o→G' a=some o)(v:c.view=some d):Rep K G' (.ref a) d:=by
 cases c with
 | obj ks ds=>obtain⟨C,dx,fs,k,q,rfl,r⟩:=h;cases v;exact .obj k (e _ q) (r.mono g) rfl
 | lst ds=>obtain⟨xs,q,r⟩:=h;cases v;exact .lst (BP.of (e _ q)) (r.mono g)
 | dct kvs=>cases v
 | nst _=>exact h.elim
inductive Head (K:Frag)(G H:Hp):Option V→Sl→List Addr→Prop
 | no {v:Option V}:Head K G H v .no []
 | sh {v:V}{d:D}:Rep K G v d→Head K G H (some v) (.sh d) []
 | ow {a:Addr}{xs:List V}{ds:List D}:H a=some (.lst xs)→Ar K G xs ds→Head K G H (some (.ref a)) (.ow ds) [a]
 | on {a:Addr}{ps:List Addr}{dss:List (List D)}:H a=some (.lst (ps.map V.ref))→Inner K G H ps dss→Head K G H (some (.ref a)) (.on dss) (a::ps)
 | tn {a:Addr}{ps:List Addr}{dss:List (List D)}:H a=some (.lst (ps.map V.ref))→Inner K G H ps dss→Head K G H (some (.ref a)) (.tr a (.nst dss)) (a::ps)
 | tr {a:Addr}{c:Cn}:Gm K G H a c→Head K G H (some (.ref a)) (.tr a c) [a]
inductive Slots (K:Frag)(G H:Hp):St→Af→List Addr→Prop
 | nil:Slots K G H [] [] []
 | cons {v:Option V}{s:Sl}{B:List Addr}{σ:St}{ρ:Af}{O:List Addr}:Head K G H v s B→Slots K G H σ ρ O→Slots K G H (v::σ) (s::ρ) (B++O)
section
variable {K:Frag}{G G' H H':Hp}{σ:St}{ρ:Af}{O B:List Addr}{v:Option V}{s:Sl}
theorem Head.mem (h:Head K G H v s B):∀ a∈B,∃ o,H a=some o∧MF o=true:=by
 have key:∀ {a:Addr}{ps:List Addr}{dss:List (List D)},H a=some (.lst (ps.map V.ref))→Inner K G H ps dss→∀ b∈a::ps,∃ o,H b=some o∧MF o=true:=fun e i b hb=>by
  rcases List.mem_cons.mp hb with rfl | hb
  ·exact⟨_,e,rfl⟩
  ·obtain⟨xs,e⟩:=i.mem b hb
   exact⟨_,e,rfl⟩
 intro b hb
 cases h with
 | no=>cases hb
 | sh _=>cases hb
 | ow e _=>rw[List.mem_singleton.mp hb];exact⟨_,e,rfl⟩
 | tr e=>rw[List.mem_singleton.mp hb];exact e.own
 | on e i=>exact key e i b hb
 | tn e i=>exact key e i b hb
theorem Head.mono (h:Head K G H v s B)(g:Aj G G')(k:∀ a∈B,∀ o,H a=some o→H' a=some o):Head K G' H' v s B:=by
 cases h with
 | no=>exact .no
 | sh r=>exact .sh (r.mono g)
 | ow e r=>exact .ow (k _ Bf _ e) (r.mono g)
 | tr e=>exact .tr (e.mono g (k _ Bf))
 | on e i=>exact .on (k _ Bf _ e) (i.mono g fun a ha=>k a (Bt ha))
 | tn e i=>exact .tn (k _ Bf _ e) (i.mono g fun a ha=>k a (Bt ha))
theorem Head.mask (h:Head K G H v s B){d:D}(e:s.mask=some d):∃ u,v=some u∧Rep K G u d:=by
 cases h with
 | sh r=>cases e;exact⟨_,rfl,r⟩
 | _=>cases e
theorem Head.full (h:Head K G H v s B)(g:Aj G G')(k:∀ a∈B,∀ o,H a=some o→G' a=some o){d:D}(e:s.view=some d):∃ u,v=some u∧Rep K G' u d:=by
 cases h with
 | no=>cases e
 | sh r=>cases e;exact⟨_,rfl,r.mono g⟩
 | ow q r=>cases e;exact⟨_,rfl,.lst (BP.of (k _ Bf _ q)) (r.mono g)⟩
 | tr q=>exact⟨_,rfl,q.rep g (k _ Bf) e⟩
 | on q i=>cases e;exact⟨_,rfl,.lst (BP.of (k _ Bf _ q)) (i.full g fun a ha=>k a (Bt ha))⟩
 | tn q i=>cases e;exact⟨_,rfl,.lst (BP.of (k _ Bf _ q)) (i.full g fun a ha=>k a (Bt ha))⟩
theorem Head.uniq {A:List Addr}(h:Head K G H v s A)(h':Head K G' H v s B):A=B:=by
 cases h with
 | no=>cases h';rfl
 | sh _=>cases h';rfl
 | ow _ _=>cases h';rfl
 | on e _=>cases h' with | on e' _=>rw[Sq e e']
 | tn e _=>cases h' with
  | tn e' _=>rw[Sq e e']
  | tr e'=>exact e'.elim
 | tr e=>cases h' with
  | tr _=>rfl
  | tn _ _=>exact e.elim
theorem Slots.no (t:Slots K G H σ ρ O):Slots K G H (v::σ) (.no::ρ) O:=.cons .no t
theorem Slots.sh {x:V}{d:D}(r:Rep K G x d)(t:Slots K G H σ ρ O):Slots K G H (some x::σ) (.sh d::ρ) O:=.cons (.sh r) t
theorem Slots.len (t:Slots K G H σ ρ O):σ.length=ρ.length:=by
 induction t with
 | nil=>rfl
 | cons _ _ ih=>simp [ih]
theorem Slots.mem (t:Slots K G H σ ρ O):∀ a∈O,∃ o,H a=some o∧MF o=true:=by
 induction t with
 | nil=>intro a h;cases h
 | cons h _ ih=>exact fun b hb=>(List.mem_append.mp hb).elim (h.mem b) (ih b)
theorem Slots.mono (t:Slots K G H σ ρ O)(g:Aj G G')(h:∀ a∈O,∀ o,H a=some o→H' a=some o):Slots K G' H' σ ρ O:=by
 induction t with
 | nil=>exact .nil
 | cons q _ ih=>exact .cons (q.mono g fun a ha=>h a (Cw ha)) (ih fun a ha=>h a (Bc ha))
theorem Slots.mask (t:Slots K G H σ ρ O):Dm K G σ (masked ρ):=by
 induction t with
 | nil=>intro i d h;cases h
 | cons q _ ih =>
  intro i d h
  cases i with
  | zero=>obtain⟨u,rfl,r⟩:=q.mask (Option.some.inj h);exact⟨u,rfl,r⟩
  | succ i=>exact ih i d h
theorem Slots.full {G':Hp}(t:Slots K G H σ ρ O)(g:Aj G G')(h:∀ a∈O,∀ o,H a=some o→G' a=some o):Dm K G' σ (full ρ):=by
 induction t with
 | nil=>intro i d h;cases h
 | cons q _ ih =>
  intro i d h'
  cases i with
  | zero=>obtain⟨u,rfl,r⟩:=q.full g (fun a ha=>h a (Cw ha)) (Option.some.inj h');exact⟨u,rfl,r⟩
  | succ i=>exact ih (fun a ha=>h a (Bc ha)) i d h'
theorem Slots.uniq {A:List Addr}(t:Slots K G H σ ρ A):∀ {B:List Addr},Slots K G' H σ ρ B→A=B:=by
 induction t with
 | nil=>intro B s;cases s;rfl
 | cons q _ ih=>intro B s;cases s with | cons q' s=>rw[q.uniq q',ih s]
theorem U0 {α:Type}:∀ {l:List α}{i:Nat}{x:α},l[i]?=some x→l.set i x=l
 | [],_,_,h=>by simp at h
 | y::l,0,x,h=>by simp at h;rw[h];rfl
 | y::l,i+1,x,h=>by rw[List.set_cons_succ,U0 (by simpa using h)]
theorem Slots.get:∀ {σ:St}{ρ:Af}{O:List Addr}{i:Nat}{s:Sl},Slots K G H σ ρ O→ρ[i]?=some s→∃ v B,σ[i]?=some v∧Head K G H v s B∧(∀ b∈B,b∈O)∧(O.Nodup→B.Nodup ∧
  ∀ {G' H':Hp}{v':Option V}{s':Sl}{B':List Addr},Aj G G'→(∀ b∈O,b ∉ B→∀ o,H b=some o→H' b=some o)→Head K G' H' v' s' B'→B'.Nodup→(∀ b∈B',b∈O→b∈B)→∃ O',(B'=B→O'=O)∧O'.Nodup∧(∀ b,b∈O' ↔ b∈B'∨(b∈O∧b ∉ B))∧Slots K G' H' (σ.set i v') (ρ.set i s') O')
 | _,_,_,_,_,.nil,h=>by cases h
 | _,_,_,0,_,.cons (B:=B) (O:=O) q t,h=>by
  cases h
  refine⟨_,B,rfl,q,fun b hb=>Cw hb,fun nd=>?_⟩
  obtain⟨n1,n2,n3⟩:=List.nodup_append.mp nd
  refine⟨n1,fun {G' H' v' s' B'} g k q' nB f=>⟨B'++O,fun z=>by rw[z],List.nodup_append.mpr ⟨nB,n2,fun x hx y hy z=>?_⟩,fun b=>?_,.cons q' (t.mono g fun b hb=>k b (Bc hb) fun z=>n3 b z b hb rfl)⟩⟩
  ·subst z
   exact n3 x (f x hx (Bc hy)) x hy rfl
  ·rw[List.mem_append]
   exact⟨fun z=>z.imp id fun z=>⟨Bc z,fun w=>n3 b w b z rfl⟩,fun z=>z.imp id fun z=>(List.mem_append.mp z.1).resolve_left z.2⟩
 | _,_,_,i+1,_,.cons (B:=B0) (O:=O) q t,h=>by
  obtain⟨v,B,h1,h2,h4,h5⟩:=Slots.get (i:=i) t h
  refine⟨v,B,h1,h2,fun b hb=>Bc (h4 b hb),fun nd=>?_⟩
  obtain⟨n1,n2,n3⟩:=List.nodup_append.mp nd
  obtain⟨h3,h5⟩:=h5 n2
  have h0:∀ b∈B0,b ∉ B:=fun b hb z=>n3 b hb b (h4 b z) rfl
  refine⟨h3,fun {G' H' v' s' B'} g k q' nB f=>?_⟩
  obtain⟨O',m0,m1,m2,m3⟩:=h5 g (fun b hb=>k b (Bc hb)) q' nB fun b hb z=>f b hb (Bc z)
  refine⟨B0++O',fun z=>by rw[m0 z],List.nodup_append.mpr ⟨n1,m1,fun x hx y hy z=>?_⟩,fun b=>?_,.cons (q.mono g fun b hb=>k b (Cw hb) (h0 b hb)) m3⟩
  ·subst z
   rcases (m2 x).mp hy with z | z
   ·exact h0 x hx (f x z (Cw hx))
   ·exact n3 x hx x z.1 rfl
  ·rw[List.mem_append,List.mem_append,m2]
   constructor
   ·rintro (z | z | z)
    ·exact .inr ⟨.inl z,h0 b z⟩
    ·exact .inl z
    ·exact .inr ⟨.inr z.1,z.2⟩
   ·rintro (z | ⟨z | z,w⟩)
    ·exact .inr (.inl z)
    ·exact .inl z
    ·exact .inr (.inr ⟨z,w⟩)
theorem Slots.Ud {i:Nat}(t:Slots K G H σ ρ O)(nd:O.Nodup)(h:ρ[i]?=some s):∃ v B,σ[i]?=some v∧Head K G H v s B∧B.Nodup∧(∀ b∈B,b∈O)∧∀ {H':Hp}{s':Sl},(∀ b∈O,b ∉ B→∀ o,H b=some o→H' b=some o)→Head K G H' v s' B→Slots K G H' σ (ρ.set i s') O:=by
 obtain⟨v,B,h1,h2,h3,h4⟩:=t.get h
 obtain⟨n,h4⟩:=h4 nd
 refine⟨v,B,h1,h2,n,h3,fun {H' s'} k q=>?_⟩
 obtain⟨O',e,_,_,m⟩:=h4 (Aj.refl _) k q n fun b hb _=>hb
 rw[U0 h1,e rfl] at m
 exact m
theorem Slots.fill {v':Option V}{s':Sl}{B':List Addr}(q:Head K G H v' s' B')(nB:B'.Nodup)(i:Nat)(f:∀ b∈B',b ∉ O)(nd:O.Nodup)(t:Slots K G H σ ρ O):∃ O',(∀ b∈O',b∈B'∨b∈O)∧O'.Nodup∧Slots K G H (σ.set i v') (ρ.set i s') O':=by
 by_cases hi:i<ρ.length
 ·obtain⟨v,B,_,_,_,h⟩:=t.get (List.getElem?_eq_getElem hi)
  obtain⟨O',_,m1,m2,m3⟩:=(h nd).2 (Aj.refl _) (fun _ _ _ _ e=>e) q nB fun b hb z=>absurd z (f b hb)
  exact⟨O',fun b hb=>((m2 b).mp hb).imp id fun z=>z.1,m1,m3⟩
 ·rw[List.set_eq_of_length_le (by rw[t.len];omega),List.set_eq_of_length_le (by omega)]
  exact⟨O,fun b hb=>.inr hb,nd,t⟩
theorem Slots.aL {x:V}{d:D}(r:Rep K G x d):∀ {σ:St}{ρ:Af}{O:List Addr} (i:Nat),Slots K G H σ ρ O→∃ O',O'.Sublist O∧Slots K G H (σ.set i (some x)) (ρ.set i (.sh d)) O'
 | _,_,_,_,.nil=>⟨_,.refl _,.nil⟩
 | _,_,_,0,.cons _ t=>⟨_,List.sublist_append_right _ _,.sh r t⟩
 | _,_,_,i+1,.cons q t=>by obtain⟨O',h,s⟩:=Slots.aL r i t;exact⟨_,List.Sublist.append_left h _,.cons q s⟩
theorem Slots.AEz {a:Addr}{xs:List V}{ds:List D}(e:H a=some (.lst xs))(r:Ar K G xs ds){σ:St}{ρ:Af}{O:List Addr}(i:Nat)(na:a ∉ O)(nd:O.Nodup)(t:Slots K G H σ ρ O) :
  ∃ O',(∀ b∈O',b=a∨b∈O)∧O'.Nodup∧Slots K G H (σ.set i (some (.ref a))) (ρ.set i (.ow ds)) O':=by
 obtain⟨O',h,z⟩:=t.fill (.ow e r) (by simp) i (fun b hb=>by rw[List.mem_singleton.mp hb];exact na) nd
 exact⟨O',fun b hb=>(h b hb).imp List.mem_singleton.mp id,z⟩
theorem Slots.AId {a:Addr}{ps:List Addr}{dss:List (List D)}(e:H a=some (.lst (ps.map V.ref)))(r:Inner K G H ps dss)(hap:(a::ps).Nodup){σ:St}{ρ:Af}{O:List Addr}(i:Nat)(na:∀ b∈a::ps,b ∉ O)(nd:O.Nodup)(t:Slots K G H σ ρ O) :
  ∃ O',(∀ b∈O',b∈a::ps∨b∈O)∧O'.Nodup∧Slots K G H (σ.set i (some (.ref a))) (ρ.set i (.on dss)) O':=t.fill (.on e r) hap i na nd
theorem Slots.AJB {a:Addr}{c:Cn}(e:Gm K G H a c){σ:St}{ρ:Af}{O:List Addr}(i:Nat)(na:a ∉ O)(nd:O.Nodup)(t:Slots K G H σ ρ O) :
  ∃ O',(∀ b∈O',b=a∨b∈O)∧O'.Nodup∧Slots K G H (σ.set i (some (.ref a))) (ρ.set i (.tr a c)) O':=by
 obtain⟨O',h,z⟩:=t.fill (.tr e) (by simp) i (fun b hb=>by rw[List.mem_singleton.mp hb];exact na) nd
 exact⟨O',fun b hb=>(h b hb).imp List.mem_singleton.mp id,z⟩
theorem Slots.JK {i:Nat}{a:Addr}{c:Cn}(t:Slots K G H σ ρ O)(h:ρ[i]?=some (.tr a c))(hc:c.eG=false):σ[i]?=some (some (.ref a))∧a∈O∧Gm K G H a c:=by
 obtain⟨v,B,h1,h2,h4,_⟩:=t.get h
 cases h2 with
 | tr e=>exact⟨h1,h4 _ Bf,e⟩
 | tn _ _=>cases hc
theorem Slots.qL {a:Addr}{o:HO}{c c':Cn}{i:Nat}(e':Gm K G (upd H a o) a c')(nd:O.Nodup)(t:Slots K G H σ ρ O)(h:ρ[i]?=some (.tr a c))(hc:c.eG=false):Slots K G (upd H a o) σ (ρ.set i (.tr a c')) O:=by
 obtain⟨v,B,h1,h2,_,_,h5⟩:=t.Ud nd h
 cases h2 with
 | tn _ _=>cases hc
 | tr e=>exact h5 (fun b _ hb o e=>by rw[Bb fun z=>hb (by rw[z];exact Bf)];exact e) (.tr e')
theorem Slots.Hg {i:Nat}{ds:List D}(t:Slots K G H σ ρ O)(h:ρ[i]?=some (.ow ds)):∃ a xs,σ[i]?=some (some (.ref a))∧a∈O∧H a=some (.lst xs)∧Ar K G xs ds:=by
 obtain⟨v,B,h1,h2,h4,_⟩:=t.get h
 cases h2 with
 | ow e r=>exact⟨_,_,h1,h4 _ Bf,e,r⟩
theorem Slots.V7 {i:Nat}{dss:List (List D)}(nd:O.Nodup)(t:Slots K G H σ ρ O)(h:ρ[i]?=some (.on dss)):∃ a ps,σ[i]?=some (some (.ref a))∧(∀ b∈a::ps,b∈O)∧(a::ps).Nodup∧H a=some (.lst (ps.map V.ref))∧Inner K G H ps dss:=by
 obtain⟨v,B,h1,h2,h4,h5⟩:=t.get h
 cases h2 with
 | on e r=>exact⟨_,_,h1,h4,(h5 nd).1,e,r⟩
theorem Slots.write {a:Addr}{ys:List V}{es:List D}(r:Ar K G ys es){i:Nat}{ds:List D}(nd:O.Nodup)(t:Slots K G H σ ρ O)(h:ρ[i]?=some (.ow ds))(h2:σ[i]?=some (some (.ref a))) :
  Slots K G (upd H a (.lst ys)) σ (ρ.set i (.ow es)) O:=by
 obtain⟨v,B,h1,h3,_,_,h5⟩:=t.Ud nd h
 cases h3 with
 | ow e _ =>
  rw[h1] at h2
  cases h2
  exact h5 (fun b _ hb o e=>by rw[Bb fun z=>hb (by rw[z];exact Bf)];exact e) (.ow Cm r)
end
structure Bk (K:Frag)(H0:Hp)(O0:List Addr)(G:Hp)(σ:St)(H:Hp)(ρ:Af):Prop where
 ex:∃ O,Aj H0 H∧(∀ a∈O,H0 a=none)∧O.Nodup∧Aj G (Ah (O0++O) H)∧Slots K (Ah (O0++O) H) H σ ρ O
structure Ey (K:Frag)(H0:Hp)(O0:List Addr)(G:Hp)(σ:St)(H:Hp)(ρ:Af)(v:V)(s:Sl):Prop where
 ex:∃ O P,Aj H0 H∧(∀ a∈O,H0 a=none)∧O.Nodup∧Aj G (Ah (O0++(P++O)) H)∧Slots K (Ah (O0++(P++O)) H) H σ ρ O ∧
  match s with
  | .no=>False
  | .sh d=>P=[]∧Rep K (Ah (O0++(P++O)) H) v d
  | .ow ds=>∃ a xs,P=[a]∧v=.ref a∧a ∉ O∧H0 a=none∧H a=some (.lst xs)∧Ar K (Ah (O0++(P++O)) H) xs ds
  | .on dss=>∃ a ps,P=a::ps∧v=.ref a∧(a::ps).Nodup∧(∀ b∈a::ps,b ∉ O∧H0 b=none)∧H a=some (.lst (ps.map V.ref))∧Inner K (Ah (O0++(P++O)) H) H ps dss
  | .tr a c=>P=[a]∧v=.ref a∧a ∉ O∧H0 a=none∧Gm K (Ah (O0++(P++O)) H) H a c
section
variable {K:Frag}{H0:Hp}{O0:List Addr}{G:Hp}{σ:St}{H H':Hp}{ρ:Af}
theorem G5 (ok:Bu O0 H0){O:List Addr}(s0:Aj H0 H)(sl:Slots K G H σ ρ O):Bu (O0++O) H:=fun a ha=>by
 rcases List.mem_append.mp ha with h | h
 ·exact (ok.mono s0) a h
 ·obtain⟨o,e,_⟩:=sl.mem a h
  exact⟨_,e⟩
theorem Bk.grow (t:Bk K H0 O0 G σ H ρ)(s:Aj H H'):Bk K H0 O0 G σ H' ρ:=by
 obtain⟨O,s0,n,nd,g,sl⟩:=t.ex
 exact⟨O,s0.trans s,n,nd,g.trans (DQ s),sl.mono (DQ s) fun a _ o e=>s a o e⟩
theorem Ey.grow {v:V}{d:D}(t:Ey K H0 O0 G σ H ρ v (.sh d))(s:Aj H H'):Ey K H0 O0 G σ H' ρ v (.sh d):=by
 obtain⟨O,P,s0,n,nd,g,sl,hp,r⟩:=t.ex
 exact⟨O,P,s0.trans s,n,nd,g.trans (DQ s),sl.mono (DQ s) fun a _ o e=>s a o e,hp,r.Ah s⟩
theorem Ey.str {v:V}{d:D}(t:Ey K H0 O0 G σ H ρ v (.sh d)):Bk K H0 O0 G σ H ρ:=by
 obtain⟨O,P,s0,n,nd,g,sl,hp,r⟩:=t.ex
 subst hp
 exact⟨O,s0,n,nd,g,sl⟩
theorem Ey.set {v:V}{s:Sl}(t:Ey K H0 O0 G σ H ρ v s)(i:Nat):Bk K H0 O0 G (σ.set i (some v)) H (ρ.set i s):=by
 obtain⟨O,P,s0,n,nd,g,sl,h⟩:=t.ex
 cases s with
 | no=>exact h.elim
 | sh d =>
  obtain⟨rfl,r⟩:=h
  obtain⟨O',hs,sl'⟩:=sl.aL r i
  have sub:∀ b,b∈O0++O'→b∈O0++([]++O):=fun b hb=>(List.mem_append.mp hb).elim (fun z=>Cw z) fun z=>Bc (hs.subset z)
  exact⟨O',s0,fun a ha=>n a (hs.subset ha),hs.nodup nd,g.trans (DN sub),sl'.mono (DN sub) fun _ _ _ e=>e⟩
 | ow ds =>
  obtain⟨a,xs,rfl,rfl,na,h0,e,r⟩:=h
  obtain⟨O',hs,nd',sl'⟩:=sl.AEz e r i na nd
  have sub:∀ b,b∈O0++O'→b∈O0++([a]++O):=fun b hb=>(List.mem_append.mp hb).elim (fun z=>Cw z) fun z=>Bc (by
   rcases hs b z with rfl | z
   ·simp
   ·simp [z])
  refine⟨O',s0,fun b hb=>?_,nd',g.trans (DN sub),sl'.mono (DN sub) fun _ _ _ e=>e⟩
  rcases hs b hb with rfl | z
  ·exact h0
  ·exact n b z
 | on dss =>
  obtain⟨a,ps,rfl,rfl,nda,na,e,r⟩:=h
  obtain⟨O',hs,nd',sl'⟩:=sl.AId e r nda i (fun b hb=>(na b hb).1) nd
  have sub:∀ b,b∈O0++O'→b∈O0++((a::ps)++O):=fun b hb=>(List.mem_append.mp hb).elim (fun z=>Cw z) fun z=>Bc (by
   rcases hs b z with z | z
   ·exact Cw z
   ·exact Bc z)
  refine⟨O',s0,fun b hb=>?_,nd',g.trans (DN sub),sl'.mono (DN sub) fun _ _ _ e=>e⟩
  rcases hs b hb with z | z
  ·exact (na b z).2
  ·exact n b z
 | tr a c =>
  obtain⟨rfl,rfl,na,h0,r⟩:=h
  obtain⟨O',hs,nd',sl'⟩:=sl.AJB r i na nd
  have sub:∀ b,b∈O0++O'→b∈O0++([a]++O):=fun b hb=>(List.mem_append.mp hb).elim (fun z=>Cw z) fun z=>Bc (by
   rcases hs b z with rfl | z
   ·simp
   ·simp [z])
  refine⟨O',s0,fun b hb=>?_,nd',g.trans (DN sub),sl'.mono (DN sub) fun _ _ _ e=>e⟩
  rcases hs b hb with rfl | z
  ·exact h0
  ·exact n b z
end
inductive Out where
 | nx (ρ:Af)
 | rt (d:D)
 | rl (ds:List D)
 | rn (dss:List (List D))
 | rp (ds:List D) (d:D)
 | ro (d:D) (ρ:Af)
 | bk (ρ:Af)
 | ct (ρ:Af)
noncomputable def vW (K:Frag)(H0:Hp)(O0:List Addr)(G:Hp)(E:Ends):Out→Prop
 | .nx ρ=>∀ σ H,Bk K H0 O0 G σ H ρ→E.nx σ H
 | .rt d=>∀ v H',Aj H0 H'→Rep K (Ah O0 H') v d→E.rt v H'
 | .rl ds=>∀ a xs H',Aj H0 H'→H0 a=none→H' a=some (.lst xs)→Ar K (Ah (a::O0) H') xs ds→E.rt (.ref a) H'
 | .rn dss=>∀ a ps H',Aj H0 H'→(a::ps).Nodup→(∀ b∈a::ps,H0 b=none)→H' a=some (.lst (ps.map V.ref))→Inner K (Ah ((a::ps)++O0) H') H' ps dss→E.rt (.ref a) H'
 | .rp ds d=>∀ p a xs v H',Aj H0 H'→H0 a=none→H0 p=none→H' a=some (.lst xs)→H' p=some (.tup [.ref a,v])→Ar K (Ah (a::O0) H') xs ds→Rep K (Ah (a::O0) H') v d→E.rt (.ref p) H'
 | .ro d ρ=>∀ v σ H',Ey K H0 O0 (fun _=>none) σ H' ρ v (.sh d)→E.rt v H'
 | .bk ρ=>∀ σ H,Bk K H0 O0 G σ H ρ→E.bk σ H
 | .ct ρ=>∀ σ H,Bk K H0 O0 G σ H ρ→E.ct σ H
noncomputable abbrev Ai:=Af→Option Out
noncomputable def Mg (K:Frag)(ts:TS)(F:Ai):Prop:=∀ (H0:Hp) (O0:List Addr) (G:Hp) (σ:St) (H:Hp) (ρ:Af) (o:Out) (E:Ends),Bu O0 H0→Bk K H0 O0 G σ H ρ→F ρ=some o→vW K H0 O0 G E o→ts E σ H
noncomputable def Dg (K:Frag)(te:TE)(vf:Af→Option Sl):Prop:=∀ (H0:Hp) (O0:List Addr) (G:Hp) (σ:St) (H:Hp) (ρ:Af) (s:Sl) (Q:VK),Bu O0 H0→Bk K H0 O0 G σ H ρ→vf ρ=some s →
 (∀ v H',Aj H H'→Ey K H0 O0 G σ H' ρ v s→Q v H')→te σ H Q
structure JS (X:Cx)(K:Frag)(st:Stmt)(ts:TS)(F:Ai):Prop where
 pe:PS X st ts
 pu:Mg K ts F
structure Dd (X:Cx)(K:Frag)(st:List Stmt)(ts:TS)(F:Ai):Prop where
 pe:Gh X st ts
 pu:Mg K ts F
mutual
noncomputable def Ft:D→Bool
 | .list _=>false
 | .dict _=>false
 | .tuple ds=>Em ds
 | _=>true
noncomputable def Em:List D→Bool
 | []=>true
 | d::ds=>Ft d && Em ds
end
section
variable {K:Frag}{O0 O:List Addr}{H:Hp}
mutual
theorem gK (h:∀ a∈O,∃ o,H a=some o∧MF o=true):∀ {v:V}{d:D},Rep K (Ah O0 H) v d→Ft d=true→Rep K (Ah (O0++O) H) v d
 | _,_,.non,_=>.non
 | _,_,.bl b,_=>.bl b
 | _,_,.int i,_=>.int i
 | _,_,.str x,_=>.str x
 | _,_,.lst _ _,f=>by simp [Ft] at f
 | _,_,.tup (a:=a) q r,f=>by
  have hr:=Ni h r (by simpa [Ft] using f)
  refine .tup ?_ hr
  rcases q with (q | ⟨o,q⟩) | q
  ·obtain⟨n,q⟩:=GD q
   have na:a ∉ O:=fun z=>by
    obtain⟨_,e,e2⟩:=h a z
    rw[q] at e
    cases e
    cases e2
   exact .inl (.inl (by rw[Bw (by simp [n,na])];exact q))
  ·obtain⟨n,q⟩:=GD q
   have na:a ∉ O:=fun z=>by
    obtain⟨_,e,e2⟩:=h a z
    rw[q] at e
    cases e
    cases e2
   exact .inl (.inr ⟨o,by rw[Bw (by simp [n,na])];exact q⟩)
  ·exact .inr q
theorem Ni (h:∀ a∈O,∃ o,H a=some o∧MF o=true):∀ {vs:List V}{ds:List D},Ar K (Ah O0 H) vs ds→Em ds=true→Ar K (Ah (O0++O) H) vs ds
 | _,_,.nil,_=>.nil
 | _,_,.cons r t,f=>by
  have f':=Bool.and_eq_true_iff.mp (show (Ft _ && Em _)=true from f)
  exact .cons (gK h r f'.1) (Ni h t f'.2)
end
end
noncomputable def vF (f:PF):Af→Option Sl:=fun ρ=>(f (full ρ)).bind fun d=>if Ft d=true then some (.sh d) else none
noncomputable def vS (f:PF):Af→Option Sl:=fun ρ=>(f (masked ρ)).bind fun d=>some (.sh d)
noncomputable def vL (f:BJ):Af→Option Sl:=fun ρ=>(f (masked ρ)).bind fun ds=>some (.ow ds)
noncomputable def Jv (f:BJ):Af→Option Sl:=fun ρ=>(f (full ρ)).bind fun ds=>if Em ds=true then some (.ow ds) else none
section
variable {K:Frag}{te:TE}{f:PF}{fl:BJ}
theorem Bk.HR {H0:Hp}{O0:List Addr}{G:Hp}{σ:St}{H:Hp}{ρ:Af}(ok:Bu O0 H0)(t:Bk K H0 O0 G σ H ρ):Bu O0 H∧Dm K (Ah O0 H) σ (full ρ):=by
 obtain⟨O,s0,n,nd,g,sl⟩:=t.ex
 refine⟨ok.mono s0,sl.full (DN fun b hb=>Cw hb) fun a ha o e=>?_⟩
 rw[Bw (ok.fresh (n a ha))]
 exact e
theorem Hr (h:Fg K te f):Dg K te (vS f):=by
 intro H0 O0 G σ H ρ s Q ok t hf q
 obtain⟨d,e1,hf⟩:=Ag hf
 cases hf
 obtain⟨O,s0,n,nd,g,sl⟩:=t.ex
 refine h (O0++O) σ H (masked ρ) d Q (G5 ok s0 sl) sl.mask e1 fun v H' s' r=>q v H' s' ⟨O,[],s0.trans s',n,nd,g.trans (DQ s'),sl.mono (DQ s') fun a _ o e=>s' a o e,rfl,r⟩
theorem AFY (h:Fg K te f):Dg K te (vF f):=by
 intro H0 O0 G σ H ρ s Q ok t hf q
 obtain⟨d,e1,hf⟩:=Ag hf
 by_cases hc:Ft d=true
 ·rw[if_pos hc] at hf
  cases hf
  have ⟨o1,e2⟩:=t.HR ok
  obtain⟨O,s0,n,nd,g,sl⟩:=t.ex
  refine h O0 σ H (full ρ) d Q o1 e2 e1 fun v H' s' r=>?_
  have sl':=sl.mono (DQ (O:=O0++O) s') fun a _ o e=>s' a o e
  exact q v H' s' ⟨O,[],s0.trans s',n,nd,g.trans (DQ s'),sl',rfl,gK sl'.mem r hc⟩
 ·rw[if_neg hc] at hf
  cases hf
theorem oX {O0 O:List Addr}{a:Addr}{H:Hp}:Ah (a::(O0++O)) H=Ah (O0++([a]++O)) H:=by
 funext b
 by_cases h:b∈a::(O0++O)
 ·rw[Mq h,Mq (by simp at h ⊢;rcases h with h | h | h<;>simp [h])]
 ·rw[Bw h,Bw (by simp at h ⊢;exact⟨h.2.1,h.1,h.2.2⟩)]
theorem qI (h:Iw K te fl):Dg K te (vL fl):=by
 intro H0 O0 G σ H ρ s Q ok t hf q
 obtain⟨d,e1,hf⟩:=Ag hf
 cases hf
 obtain⟨O,s0,n,nd,g,sl⟩:=t.ex
 have okA:=G5 ok s0 sl
 refine h (O0++O) σ H (masked ρ) d Q okA sl.mask e1 fun a xs H' s' hn ha r=>?_
 have na:a ∉ O:=fun z=>okA.fresh hn (Bc z)
 have big:Aj (Ah (O0++O) H) (Ah (O0++([a]++O)) H'):=fun b o e=>by
  obtain⟨n1,e⟩:=GD e
  have nb:b≠a:=Cg e hn
  rw[Bw (by simp at n1 ⊢;exact⟨n1.1,nb,n1.2⟩)]
  exact s' b o e
 refine q (.ref a) H' s' ⟨O,[a],s0.trans s',n,nd,g.trans big,sl.mono big fun b _ o e=>s' b o e,a,xs,rfl,rfl,na,s0.free hn,ha,?_⟩
 rw[← oX]
 exact r
theorem ABZ (h:Iw K te fl):Dg K te (Jv fl):=by
 intro H0 O0 G σ H ρ s Q ok t hf q
 obtain⟨d,e1,hf⟩:=Ag hf
 by_cases hc:Em d=true
 ·rw[if_pos hc] at hf
  cases hf
  have ⟨o1,e2⟩:=t.HR ok
  obtain⟨O,s0,n,nd,g,sl⟩:=t.ex
  have okA:=G5 ok s0 sl
  refine h O0 σ H (full ρ) d Q o1 e2 e1 fun a xs H' s' hn ha r=>?_
  have na:a ∉ O:=fun z=>okA.fresh hn (Bc z)
  have big:Aj (Ah (O0++O) H) (Ah (O0++([a]++O)) H'):=fun b o e=>by
   obtain⟨n1,e⟩:=GD e
   have nb:b≠a:=Cg e hn
   rw[Bw (by simp at n1 ⊢;exact⟨n1.1,nb,n1.2⟩)]
   exact s' b o e
  have sl':=sl.mono big fun b _ o e=>s' b o e
  refine q (.ref a) H' s' ⟨O,[a],s0.trans s',n,nd,g.trans big,sl',a,xs,rfl,rfl,na,s0.free hn,ha,?_⟩
  have:=Ni (K:=K) (O0:=a::O0) (O:=O) sl'.mem r hc
  rw[← oX]
  exact this
 ·rw[if_neg hc] at hf
  cases hf
theorem Bk.Hy {H0:Hp}{O0:List Addr}{G:Hp}{σ:St}{H:Hp}{ρ:Af}{d:D}{Q:VK}(h:Fg K te f)(ok:Bu O0 H0)(t:Bk K H0 O0 G σ H ρ)(e1:f (L2.full ρ)=some d)(q:∀ v H',Aj H H'→Bk K H0 O0 G σ H' ρ→Rep K (Ah O0 H') v d→Q v H'):te σ H Q:=by
 have ⟨o1,e2⟩:=t.HR ok
 exact h O0 σ H (L2.full ρ) d Q o1 e2 e1 fun v H' s' r=>q v H' s' (t.grow s') r
theorem Bk.same {H0:Hp}{O0:List Addr}{G:Hp}{σ:St}{H:Hp}{ρ:Af}(t:Bk K H0 O0 G σ H ρ):Aj H0 H:=by
 obtain⟨O,s0,_⟩:=t.ex
 exact s0
end
noncomputable def CQ:Ai:=fun ρ=>some (.nx ρ)
noncomputable def Ak (F F':Ai):Ai:=fun ρ=>(F ρ).bind fun o=>match o with
 | .nx ρ'=>F' ρ'
 | .rt d=>some (.rt d)
 | .rl d=>some (.rl d)
 | .rn d=>some (.rn d)
 | .rp d e=>some (.rp d e)
 | .ro d e=>some (.ro d e)
 | .bk ρ'=>some (.bk ρ')
 | .ct ρ'=>some (.ct ρ')
noncomputable def Aq (i:Nat)(vf:Af→Option Sl):Ai:=fun ρ=>(vf ρ).bind fun s=>some (.nx (ρ.set i s))
noncomputable def cR (f:PF):Ai:=fun ρ=>(f (full ρ)).bind fun _=>some (.nx ρ)
noncomputable def Bs (f:PF):Ai:=fun ρ=>(f (full ρ)).bind fun d=>some (.rt d)
noncomputable def El (f:BJ):Ai:=fun ρ=>(f (full ρ)).bind fun d=>some (.rl d)
noncomputable def Jd:Sl→Option (List D)
 | .ow ds=>some ds
 | _=>none
noncomputable def Gy:Sl→Option D
 | .sh d=>some d
 | _=>none
noncomputable def Je (i:Nat):Ai:=fun ρ=>(ρ[i]?).bind fun s=>(Jd s).bind fun ds=>some (.rl ds)
noncomputable def Vt:Ai:=fun _=>some (.rt .none)
noncomputable def CN (c:PB)(F F':Ai):Ai:=fun ρ=>(c (full ρ)).bind fun b=>if b=true then F ρ else F' ρ
noncomputable def AJM:Ai:=fun ρ=>some (.bk ρ)
noncomputable def AAp:Ai:=fun ρ=>some (.ct ρ)
noncomputable def R1:Ai:=fun _=>none
noncomputable def Jh (i:Nat)(vf:Af→Option Sl):Ai:=fun ρ=>(vf ρ).bind fun s=>(Gy s).bind fun d=>(ρ[i]?).bind fun s'=>(Jd s').bind fun ds=>if fits ds.length=true then some (.nx (ρ.set i (.ow (ds++[d])))) else none
noncomputable def Ir (i:Nat)(fi:PF)(vf:Af→Option Sl):Ai:=fun ρ=>(vf ρ).bind fun s=>(Gy s).bind fun d=>(fi (full ρ)).bind fun k=>(Ez k).bind fun k=>(ρ[i]?).bind fun s'=>(Jd s').bind fun ds=>(Ei ds.length k).bind fun j=>some (.nx (ρ.set i (.ow (ds.set j d))))
noncomputable def uC (i:Nat):Ai:=fun ρ=>(ρ[i]?).bind fun s'=>(Jd s').bind fun _=>some (.nx (ρ.set i (.ow [])))
noncomputable def AHr:Sl→Sl
 | .ow ds=>.sh (.list ds)
 | s=>s
noncomputable def AEm (i:Nat)(ρ:Af):Af:=ρ.modify i AHr
noncomputable def Wk (i:Nat)(F:Ai):Ai:=fun ρ=>F (AEm i ρ)
section
variable {X:Cx}{K:Frag}{st:Stmt}{rest:List Stmt}{t u:TS}{F F':Ai}{pos:Pos}
theorem AJk:Dd X K [] lF CQ:=⟨zJ,by
 intro H0 O0 G σ H ρ o E ok s hf q
 cases hf
 exact q σ H s⟩
theorem o5 (h:JS X K st t F):Dd X K [st] t F:=⟨AJw h.pe,h.pu⟩
theorem AJb (h1:JS X K st t F)(h2:Dd X K rest u F'):Dd X K (st::rest) (ZP t u) (Ak F F'):=⟨uY h1.pe h2.pe,by
 intro H0 O0 G σ H ρ o E ok s hf q
 obtain⟨o1,e1,hf⟩:=Ag hf
 refine h1.pu H0 O0 G σ H ρ o1 _ ok s e1 ?_
 cases o1 with
 | nx ρ'=>exact fun σ' H' s'=>h2.pu H0 O0 G σ' H' ρ' o E ok s' hf q
 | rt d=>cases hf;exact q
 | rl d=>cases hf;exact q
 | rn d=>cases hf;exact q
 | rp d e=>cases hf;exact q
 | ro d e=>cases hf;exact q
 | bk d=>cases hf;exact q
 | ct d=>cases hf;exact q⟩
theorem AAw:JS X K st jK R1:=⟨AEu,by
 intro H0 O0 G σ H ρ o E ok s hf q
 cases hf⟩
theorem K7 {te:TE}{i:Nat}{vf:Af→Option Sl}(h:PS X st (Dq te (Df i)))(pv:Dg K te vf):JS X K st (Dq te (Df i)) (Aq i vf):=⟨h,by
 intro H0 O0 G σ H ρ o E ok s hf q
 obtain⟨v,e1,hf⟩:=Ag hf
 cases hf
 exact pv H0 O0 G σ H ρ v _ ok s e1 fun x H' s' sv=>q _ H' (sv.set i)⟩
section
variable {i:Nat}{x:Str}{e:Expr}{te:TE}{pos':Pos}
theorem lM {f:PF}(hN:X.N.Nodup)(hi:X.N[i]?=some x)(hx:Loc X.env.scope x)(he:JE X K e te f)(hs:swapsWith e (some (.Name x pos')) pos.line X.env=pure false:=by rfl)(hf:X.fn x=true∨X.env.scope.names.lookup x=some .local:=by first | exact .inl rfl | exact .inr rfl | assumption) :
  JS X K (.Assign [.Name x pos'] e pos) (Dq te (Df i)) (Aq i (vS f)):=K7 (Jl hN hi hx he.pe hs hf) (Hr he.pu)
theorem AIo {f:BJ}(hN:X.N.Nodup)(hi:X.N[i]?=some x)(hx:Loc X.env.scope x)(he:JL X K e te f)(hs:swapsWith e (some (.Name x pos')) pos.line X.env=pure false:=by rfl)(hf:X.fn x=true∨X.env.scope.names.lookup x=some .local:=by first | exact .inl rfl | exact .inr rfl | assumption) :
  JS X K (.Assign [.Name x pos'] e pos) (Dq te (Df i)) (Aq i (vL f)):=K7 (Jl hN hi hx he.pe hs hf) (qI he.pu)
end
theorem AI2 {e:Expr}{te:TE}{f:PF}(he:JE X K e te f):JS X K (.Return (some e) pos) (Ib te) (Bs f):=⟨M6 he.pe,by
 intro H0 O0 G σ H ρ o E ok s hf q
 obtain⟨d,e1,hf⟩:=Ag hf
 cases hf
 exact s.Hy he.pu ok e1 fun v H' s' t' r=>q v H' t'.same r⟩
theorem AGV {e:Expr}{te:TE}{f:BJ}(he:JL X K e te f):JS X K (.Return (some e) pos) (Ib te) (El f):=⟨M6 he.pe,by
 intro H0 O0 G σ H ρ o E ok s hf q
 obtain⟨d,e1,hf⟩:=Ag hf
 cases hf
 have ⟨o1,e2⟩:=s.HR ok
 exact he.pu O0 σ H (full ρ) d _ o1 e2 e1 fun a xs H' s' hn ha r=>q a xs H' (s.same.trans s') (s.same.free hn) ha r⟩
theorem AHB (i:Nat){x:Str}{p:Pos}(hN:X.N[i]?=some x:=by rfl)(hv:Es X.env.scope x:=by first | exact Or.inl rfl | exact Or.inr (Or.inl rfl) | exact Or.inr (Or.inr rfl))(hd:(x == ("__debug__":Str))=false:=by decide)
  (hcd:(x == ("__classdict__":Str))=false:=by decide):JS X K (.Return (some (.Name x p)) pos) (Ib (CJ i)) (Je i):=⟨M6 (G6 hN hv hd hcd),by
 intro H0 O0 G σ H ρ o E ok s hf q
 obtain⟨sl,e1,hf⟩:=Ag hf
 obtain⟨ds,e2,hf⟩:=Ag hf
 cases hf
 cases sl with
 | ow es =>
  cases e2
  obtain⟨O,s0,n,nd,g,sl⟩:=s.ex
  obtain⟨a,xs,h1,h2,h3,h4⟩:=sl.Hg e1
  refine⟨_,h1,q a xs H s0 (n a h2) h3 (h4.mono (DN fun b hb=>?_))⟩
  rcases List.mem_cons.mp hb with rfl | hb
  ·exact Bc h2
  ·exact Cw hb
 | _=>cases e2⟩
theorem AI1 {c:Expr}{a b:List Stmt}{tc:TT}{pc:PB}(hc:JT X K c tc pc)(ha:Dd X K a t F)(hb:Dd X K b u F'):JS X K (.If c a b pos) (PJ tc t u) (CN pc F F'):=⟨Yw hc.pe ha.pe hb.pe,by
 intro H0 O0 G σ H ρ o E ok s hf q
 obtain⟨k,e1,hf⟩:=Ag hf
 have ⟨o1,e2⟩:=s.HR ok
 refine hc.pu O0 σ H (full ρ) k _ o1 e2 e1 fun H' s'=>?_
 cases k with
 | true =>
  rw[if_pos rfl] at hf ⊢
  exact ha.pu H0 O0 G σ H' ρ o E ok (s.grow s') hf q
 | false =>
  rw[if_neg Bool.false_ne_true] at hf ⊢
  exact hb.pu H0 O0 G σ H' ρ o E ok (s.grow s') hf q⟩
end
structure Gi (K:Frag)(H0:Hp)(O0:List Addr)(G:Hp)(σ:St)(H:Hp)(ρ:Af)(vs:List V)(ds:List D):Prop where
 ex:∃ O,Aj H0 H∧(∀ a∈O,H0 a=none)∧O.Nodup∧Aj G (Ah (O0++O) H)∧Slots K (Ah (O0++O) H) H σ ρ O∧Ar K (Ah (O0++O) H) vs ds
noncomputable def Vk (K:Frag)(g:TG)(bs:D→Af→Option Af):Prop:=∀ (H0:Hp) (O0:List Addr) (G:Hp) (σ:St) (H:Hp) (ρ:Af) (v:V) (d:D) (ρ':Af) (Q:St→Hp→Prop),Ey K H0 O0 G σ H ρ v (.sh d)→bs d ρ=some ρ' →
 (∀ σ',Bk K H0 O0 G σ' H ρ'→Q σ' H)→g v σ H Q
structure K4 (X:Cx)(K:Frag)(tg:Expr)(g:TG)(bs:D→Af→Option Af):Prop where
 pe:PG X tg g
 pu:Vk K g bs
noncomputable def Ek (i:Nat):D→Af→Option Af:=fun d ρ=>some (ρ.set i (.sh d))
noncomputable def Eb (i j:Nat):D→Af→Option Af
 | .tuple [a,b],ρ=>some ((ρ.set i (.sh a)).set j (.sh b))
 | _,_=>none
noncomputable def NP (i j k:Nat):D→Af→Option Af
 | .tuple [a,b,c],ρ=>some (((ρ.set i (.sh a)).set j (.sh b)).set k (.sh c))
 | _,_=>none
section
variable {X:Cx}{K:Frag}{pos:Pos}
theorem Gi.set {H0:Hp}{O0:List Addr}{G:Hp}{σ:St}{H:Hp}{ρ:Af}{v:V}{d:D}{vs:List V}{ds:List D}(t:Gi K H0 O0 G σ H ρ (v::vs) (d::ds))(i:Nat):Gi K H0 O0 G (σ.set i (some v)) H (ρ.set i (.sh d)) vs ds:=by
 obtain⟨O,s0,n,nd,g,sl,r⟩:=t.ex
 cases r with
 | cons r rs =>
  obtain⟨O',hs,sl'⟩:=sl.aL r i
  have sub:∀ b,b∈O0++O'→b∈O0++O:=fun b hb=>(List.mem_append.mp hb).elim (fun z=>Cw z) fun z=>Bc (hs.subset z)
  exact⟨O',s0,fun a ha=>n a (hs.subset ha),hs.nodup nd,g.trans (DN sub),sl'.mono (DN sub) fun _ _ _ e=>e,rs.mono (DN sub)⟩
theorem Gi.str {H0:Hp}{O0:List Addr}{G:Hp}{σ:St}{H:Hp}{ρ:Af}{vs:List V}{ds:List D}(t:Gi K H0 O0 G σ H ρ vs ds):Bk K H0 O0 G σ H ρ:=by
 obtain⟨O,s0,n,nd,g,sl,r⟩:=t.ex
 exact⟨O,s0,n,nd,g,sl⟩
theorem Ey.parts {H0:Hp}{O0:List Addr}{G:Hp}{σ:St}{H:Hp}{ρ:Af}{v:V}{ds:List D}(t:Ey K H0 O0 G σ H ρ v (.sh (.tuple ds))):∃ a xs,v=.ref a∧Ds K H a xs∧Gi K H0 O0 G σ H ρ xs ds:=by
 obtain⟨O,P,s0,n,nd,g,sl,rfl,r⟩:=t.ex
 cases r with
 | tup q r'=>exact⟨_,_,rfl,Cq.Km q,O,s0,n,nd,g,sl,r'⟩
theorem Gi.len {H0:Hp}{O0:List Addr}{G:Hp}{σ:St}{H:Hp}{ρ:Af}{vs:List V}{ds:List D}(t:Gi K H0 O0 G σ H ρ vs ds):vs.length=ds.length:=by
 obtain⟨O,s0,n,nd,g,sl,r⟩:=t.ex
 exact r.length
theorem AIs {i:Nat}{x:Str}(hN:X.N.Nodup)(hi:X.N[i]?=some x)(hx:Loc X.env.scope x)(hf:X.fn x=true∨X.env.scope.names.lookup x=some .local:=by first | exact .inl rfl | exact .inr rfl | assumption):K4 X K (.Name x pos) (Df i) (Ek i):=⟨Iu hN hi hx hf,by
 intro H0 O0 G σ H ρ v d ρ' Q t hb q
 cases hb
 exact q _ (t.set i)⟩
theorem AFq {i j:Nat}{x y:Str}{p1 p2:Pos}{k:Nat}(hK:X.K=K)(hc:X.calm=true)(hN:X.N.Nodup)(hi:X.N[i]?=some x)(hx:Loc X.env.scope x)(hj:X.N[j]?=some y)(hy:Loc X.env.scope y)(hf:X.fn x=true∨X.env.scope.names.lookup x=some .local:=by first | exact .inl rfl | exact .inr rfl | assumption)(hf2:X.fn y=true∨X.env.scope.names.lookup y=some .local:=by first | exact .inl rfl | exact .inr rfl | assumption)(h1:(assignEach [.Name x p1,.Name y p2] X.env).map (·.2)=assign (.Name x p1) X.env::(assignEach [.Name y p2] X.env).map (·.2):=by rfl)(h2:(assignEach [.Name y p2] X.env).map (·.2)=assign (.Name y p2) X.env::(assignEach [] X.env).map (·.2):=by rfl)(hn:(assignEach [.Name x p1,.Name y p2] X.env).length=2:=by rfl)(hst:(assignEach [.Name x p1,.Name y p2] X.env).findIdx? (·.1)=none:=by rfl) :
  K4 X K (.Tuple [.Name x p1,.Name y p2] k pos) (Qe K 2 (Iv (Df i) (Iv (Df j) QR))) (Eb i j):=⟨by
 subst hK
 exact aG hc (Lf (Iu hN hi hx hf) (Lf (Iu hN hj hy hf2) X6 h2) h1) hn hst,by
 intro H0 O0 G σ H ρ v d ρ' Q t hb q
 unfold Eb at hb
 split at hb
 ·rename_i a b _
  cases hb
  obtain⟨p,xs,rfl,hq,ts⟩:=t.parts
  have hl:=ts.len
  match xs,hl with
  | [v1,v2],_=>exact⟨p,_,rfl,hq,rfl,_,_,rfl,_,_,rfl,rfl,q _ ((ts.set i).set j).str⟩
 ·cases hb⟩
theorem yV {i j l:Nat}{x y z:Str}{p1 p2 p3:Pos}{k:Nat}(hK:X.K=K)(hc:X.calm=true)(hN:X.N.Nodup)(hi:X.N[i]?=some x)(hx:Loc X.env.scope x)(hj:X.N[j]?=some y)(hy:Loc X.env.scope y)(hl:X.N[l]?=some z)(hz:Loc X.env.scope z)(hf:X.fn x=true∨X.env.scope.names.lookup x=some .local:=by first | exact .inl rfl | exact .inr rfl | assumption)(hf2:X.fn y=true∨X.env.scope.names.lookup y=some .local:=by first | exact .inl rfl | exact .inr rfl | assumption)(hf3:X.fn z=true∨X.env.scope.names.lookup z=some .local:=by first | exact .inl rfl | exact .inr rfl | assumption)(h1:(assignEach [.Name x p1,.Name y p2,.Name z p3] X.env).map (·.2)=assign (.Name x p1) X.env::(assignEach [.Name y p2,.Name z p3] X.env).map (·.2):=by rfl)(h2:(assignEach [.Name y p2,.Name z p3] X.env).map (·.2)=assign (.Name y p2) X.env::(assignEach [.Name z p3] X.env).map (·.2):=by rfl)(h3:(assignEach [.Name z p3] X.env).map (·.2)=assign (.Name z p3) X.env::(assignEach [] X.env).map (·.2):=by rfl)(hn:(assignEach [.Name x p1,.Name y p2,.Name z p3] X.env).length=3:=by rfl)(hst:(assignEach [.Name x p1,.Name y p2,.Name z p3] X.env).findIdx? (·.1)=none:=by rfl) :
  K4 X K (.Tuple [.Name x p1,.Name y p2,.Name z p3] k pos) (Qe K 3 (Iv (Df i) (Iv (Df j) (Iv (Df l) QR)))) (NP i j l):=⟨by
 subst hK
 exact aG hc (Lf (Iu hN hi hx hf) (Lf (Iu hN hj hy hf2) (Lf (Iu hN hl hz hf3) X6 h3) h2) h1) hn hst,by
 intro H0 O0 G σ H ρ v d ρ' Q t hb q
 unfold NP at hb
 split at hb
 ·rename_i a b c _
  cases hb
  obtain⟨p,xs,rfl,hq,ts⟩:=t.parts
  have hl:=ts.len
  match xs,hl with
  | [v1,v2,v3],_=>exact⟨p,_,rfl,hq,rfl,_,_,rfl,_,_,rfl,_,_,rfl,rfl,q _ (((ts.set i).set j).set l).str⟩
 ·cases hb⟩
noncomputable def Iz (bs:D→Af→Option Af)(vf:Af→Option Sl):Ai:=fun ρ=>(vf ρ).bind fun s=>(Gy s).bind fun d=>(bs d ρ).bind fun ρ'=>some (.nx ρ')
theorem Jf {s:Sl}{d:D}(h:Gy s=some d):s=.sh d:=by
 cases s with
 | sh e=>cases h;rfl
 | _=>cases h
theorem Pg {s:Sl}{d:List D}(h:Jd s=some d):s=.ow d:=by
 cases s with
 | ow e=>cases h;rfl
 | _=>cases h
theorem xZ {tg e:Expr}{te:TE}{g:TG}{bs:D→Af→Option Af}{vf:Af→Option Sl}(he:PE X e te)(pv:Dg K te vf)(hg:K4 X K tg g bs)(hs:swapsWithSole [tg] e pos.line X.env=pure false:=by rfl)(hw:swappedStores [tg] e X.env=pure none:=by rfl)
  (h1:(assignEach [tg] X.env).map (·.2)=[assign tg X.env]:=by rfl):JS X K (.Assign [tg] e pos) (Dq te g) (Iz bs vf):=⟨O5 he hg.pe hs hw h1,by
 intro H0 O0 G σ H ρ o E ok s hf q
 obtain⟨sl,e1,hf⟩:=Ag hf
 obtain⟨d,e2,hf⟩:=Ag hf
 obtain⟨ρ',e3,hf⟩:=Ag hf
 cases hf
 cases Jf e2
 exact pv H0 O0 G σ H ρ _ _ ok s e1 fun v H' s' sv=>hg.pu H0 O0 G σ H' ρ v d ρ' _ sv e3 fun σ' t=>q σ' H' t⟩
theorem AAi {tg e:Expr}{te:TE}{f:PF}{g:TG}{bs:D→Af→Option Af}(he:JE X K e te f)(hg:K4 X K tg g bs)(hs:swapsWithSole [tg] e pos.line X.env=pure false:=by rfl)(hw:swappedStores [tg] e X.env=pure none:=by rfl)
  (h1:(assignEach [tg] X.env).map (·.2)=[assign tg X.env]:=by rfl):JS X K (.Assign [tg] e pos) (Dq te g) (Iz bs (vS f)):=xZ he.pe (Hr he.pu) hg hs hw h1
noncomputable def Bx (bs:D→Af→Option Af)(F:Ai):List D→Af→Option Out
 | [],ρ=>some (.nx ρ)
 | d::ds,ρ=>(bs d ρ).bind fun ρ1=>(F ρ1).bind fun o=>match o with
  | .nx ρ'=>Bx bs F ds ρ'
  | .ct ρ'=>Bx bs F ds ρ'
  | .bk ρ'=>some (.nx ρ')
  | .rt d=>some (.rt d)
  | .rl d=>some (.rl d)
  | .rn d=>some (.rn d)
  | .rp d e=>some (.rp d e)
  | .ro d e=>some (.ro d e)
noncomputable def Eu (fi:BJ)(bs:D→Af→Option Af)(F:Ai):Ai:=fun ρ=>(fi (masked ρ)).bind fun items=>Bx bs F items ρ
theorem Bk.ghost {H0:Hp}{O0:List Addr}{G G1:Hp}{σ:St}{H:Hp}{ρ:Af}(t:Bk K H0 O0 G1 σ H ρ)(g:Aj G G1):Bk K H0 O0 G σ H ρ:=by
 obtain⟨O,s0,n,nd,g1,sl⟩:=t.ex
 exact⟨O,s0,n,nd,g.trans g1,sl⟩
theorem AGZ {wi:TI}{g:TG}{tb:TS}{fi:BJ}{bs:D→Af→Option Af}{F:Ai}(hi:Su K wi fi)(hg:Vk K g bs)(hb:Mg K tb F):Mg K (VJ wi g tb) (Eu fi bs F):=by
 intro H0 O0 G σ H ρ o E ok s hf q
 obtain⟨items,e1,hf⟩:=Ag hf
 obtain⟨O,s0,n,nd,gg,sl⟩:=s.ex
 refine hi (O0++O) σ H (masked ρ) items _ (G5 ok s0 sl) sl.mask e1 fun J H1 s1 it=>?_
 have t1:Bk K H0 O0 (Ah (O0++O) H1) σ H1 ρ:=⟨O,s0.trans s1,n,nd,Aj.refl _,sl.mono (DQ s1) fun a _ o e=>s1 a o e⟩
 have gG:Aj G (Ah (O0++O) H1):=gg.trans (DQ s1)
 refine⟨fun i m σ H=>m=items.length-i∧i≤items.length∧∃ ρi,Bk K H0 O0 (Ah (O0++O) H1) σ H ρi∧Bx bs F (items.drop i) ρi=some o,⟨items.length,by simp,Nat.zero_le _,ρ,t1,by simpa using hf⟩,?_⟩
 rintro i m σ' H' ⟨rfl,hil,ρi,ti,hfi⟩
 obtain⟨O',s0',n',nd',g',sl'⟩:=ti.ex
 have I:=it (O0++O') H' (G5 ok s0' sl') g'
 by_cases hlt:i<items.length
 ·refine .inr ⟨I.1 i hlt,fun σ' H'=>∃ ρ',Bk K H0 O0 (Ah (O0++O) H1) σ' H' ρ'∧Bx bs F (items.drop (i+1)) ρ'=some o,fun σ2 H2 ⟨ρ',t',h'⟩=>⟨items.length-(i+1),by omega,rfl,hlt,ρ',t',h'⟩,fun x H'' y=>?_⟩
  obtain⟨d,ed,s'',rd⟩:=I.2.1 i x H'' hlt y
  have hdrop:items.drop i=d::items.drop (i+1):=by
   rw[List.drop_eq_getElem_cons hlt]
   congr 1
   exact Option.some.inj ((List.getElem?_eq_getElem hlt).symm.trans ed)
  rw[hdrop] at hfi
  obtain⟨ρ1,eb,hfi⟩:=Ag hfi
  obtain⟨o1,eo,hfi⟩:=Ag hfi
  have sv:Ey K H0 O0 (Ah (O0++O) H1) σ' H'' ρi x (.sh d):=⟨O',[],s0'.trans s'',n',nd',g'.trans (DQ s''),sl'.mono (DQ s'') fun a _ o e=>s'' a o e,rfl,rd⟩
  refine hg H0 O0 _ σ' H'' ρi x d ρ1 _ sv eb fun σ2 t2=>?_
  refine hb H0 O0 _ σ2 H'' ρ1 o1 _ ok t2 eo ?_
  cases o1 with
  | nx ρ'=>exact fun σ3 H3 t3=>⟨ρ',t3,hfi⟩
  | ct ρ'=>exact fun σ3 H3 t3=>⟨ρ',t3,hfi⟩
  | bk ρ'=>cases hfi;exact fun σ3 H3 t3=>q σ3 H3 (t3.ghost gG)
  | rt d=>cases hfi;exact q
  | rl d=>cases hfi;exact q
  | rn d=>cases hfi;exact q
  | rp d e=>cases hfi;exact q
  | ro d e=>cases hfi;exact q
 ·have e:i=items.length:=by omega
  subst e
  rw[List.drop_length] at hfi
  cases hfi
  exact .inl ⟨I.2.2,q σ' H' (ti.ghost gG)⟩
theorem ABs {tg iter:Expr}{body:List Stmt}{wi:TI}{g:TG}{tb:TS}{fi:BJ}{bs:D→Af→Option Af}{F:Ai}(hp:PassesOwn (model X.prog X.w) X.A X.env X.xe)(hc:X.calm=true)(hi:JI X K tg iter wi fi)(hg:K4 X K tg g bs)(hb:Dd X K body tb F)(hs:∀ x,foldedSetIterable iter X.env x=pure x:=by intro _;rfl):JS X K (.For tg iter body [] pos) (VJ wi g tb) (Eu fi bs F):=⟨vH hp hc hi.pe hg.pe hb.pe hs,AGZ hi.pu hg.pu hb.pu⟩
noncomputable def Gu (c:PB)(F:Ai):Nat→Ai
 | 0=>fun _=>none
 | n+1=>fun ρ=>(c (full ρ)).bind fun b=>if b=true then (F ρ).bind fun o=>match o with
   | .nx ρ'=>Gu c F n ρ'
   | .ct ρ'=>Gu c F n ρ'
   | .bk ρ'=>some (.nx ρ')
   | .rt d=>some (.rt d)
   | .rl d=>some (.rl d)
   | .rn d=>some (.rn d)
   | .rp d e=>some (.rp d e)
   | .ro d e=>some (.ro d e)
  else some (.nx ρ)
theorem AJY {c:TT}{tb:TS}{pc:PB}{F:Ai}(n:Nat)(hc:Kf K c pc)(hb:Mg K tb F):Mg K (WD c tb) (Gu pc F n):=by
 intro H0 O0 G σ H ρ o E ok s hf q
 refine⟨fun m σ H=>∃ ρ,Bk K H0 O0 G σ H ρ∧Gu pc F m ρ=some o,⟨n,ρ,s,hf⟩,?_⟩
 rintro m σ' H' ⟨ρ',t,hf⟩
 cases m with
 | zero=>cases hf
 | succ m =>
  obtain⟨b,e1,hf⟩:=Ag hf
  have ⟨o1,e2⟩:=t.HR ok
  refine hc O0 σ' H' (full ρ') b _ o1 e2 e1 fun H1 s1=>?_
  have t1:=t.grow s1
  cases b with
  | true =>
   rw[if_pos rfl] at hf ⊢
   obtain⟨o2,eo,hf⟩:=Ag hf
   refine⟨fun σ2 H2=>∃ ρ2,Bk K H0 O0 G σ2 H2 ρ2∧Gu pc F m ρ2=some o,fun σ2 H2 z=>⟨m,Nat.lt_succ_self m,z⟩,?_⟩
   refine hb H0 O0 G σ' H1 ρ' o2 _ ok t1 eo ?_
   cases o2 with
   | nx ρ2=>exact fun σ3 H3 t3=>⟨ρ2,t3,hf⟩
   | ct ρ2=>exact fun σ3 H3 t3=>⟨ρ2,t3,hf⟩
   | bk ρ2=>cases hf;exact fun σ3 H3 t3=>q σ3 H3 t3
   | rt d=>cases hf;exact q
   | rl d=>cases hf;exact q
   | rn d=>cases hf;exact q
   | rp d e=>cases hf;exact q
   | ro d e=>cases hf;exact q
  | false =>
   rw[if_neg Bool.false_ne_true] at hf ⊢
   cases hf
   exact q σ' H1 t1
theorem AAb {c:Expr}{body:List Stmt}{tc:TT}{tb:TS}{pc:PB}{F:Ai}(n:Nat)(hp:PassesOwn (model X.prog X.w) X.A X.env X.xe)(hc:JT X K c tc pc)(hb:Dd X K body tb F):JS X K (.While c body [] pos) (WD tc tb) (Gu pc F n):=⟨AHd hp hc.pe hb.pe,AJY n hc.pu hb.pu⟩
theorem Bk.write {H0:Hp}{O0:List Addr}{G:Hp}{σ:St}{H:Hp}{ρ:Af}{v:V}{d:D}{i:Nat}{ds:List D}(t:Ey K H0 O0 G σ H ρ v (.sh d))(hi:ρ[i]?=some (.ow ds)) :
  ∃ a xs,σ[i]?=some (some (.ref a))∧H a=some (.lst xs)∧xs.length=ds.length∧Bk K H0 O0 G σ (upd H a (.lst (xs++[v]))) (ρ.set i (.ow (ds++[d])))∧(∀ j,Bk K H0 O0 G σ (upd H a (.lst (xs.set j v))) (ρ.set i (.ow (ds.set j d)))):=by
 obtain⟨O,P,s0,n,nd,g,sl,rfl,r⟩:=t.ex
 obtain⟨a,xs,h1,h2,h3,h4⟩:=sl.Hg hi
 have s0':∀ ys,Aj H0 (upd H a (.lst ys)):=fun ys b o e=>by
  rw[Bb (Cg e (n a h2))]
  exact s0 b o e
 have hh:∀ ys,Ah (O0++([]++O)) (upd H a (.lst ys))=Ah (O0++([]++O)) H:=fun ys=>Gz (by simp [h2])
 refine⟨a,xs,h1,h3,h4.length,⟨O,s0' _,n,nd,?_,?_⟩,fun j=>⟨O,s0' _,n,nd,?_,?_⟩⟩
 ·have:=hh (xs++[v]);simp only[List.nil_append] at this g ⊢;rw[this];exact g
 ·have:=sl.write (h4.append (.cons r .nil)) nd hi h1;have e:=hh (xs++[v]);simp only[List.nil_append] at this e ⊢;rw[e];exact this
 ·have:=hh (xs.set j v);simp only[List.nil_append] at this g ⊢;rw[this];exact g
 ·have:=sl.write (h4.set r j) nd hi h1;have e:=hh (xs.set j v);simp only[List.nil_append] at this e ⊢;rw[e];exact this
theorem Bk.Hg {H0:Hp}{O0:List Addr}{G:Hp}{σ:St}{H:Hp}{ρ:Af}{i:Nat}{ds:List D}(t:Bk K H0 O0 G σ H ρ)(hi:ρ[i]?=some (.ow ds)):∃ a xs,σ[i]?=some (some (.ref a))∧H a=some (.lst xs)∧xs.length=ds.length:=by
 obtain⟨O,s0,n,nd,g,sl⟩:=t.ex
 obtain⟨a,xs,h1,h2,h3,h4⟩:=sl.Hg hi
 exact⟨a,xs,h1,h3,h4.length⟩
theorem AGF (i:Nat){x:Str}{e:Expr}{te:TE}{vf:Af→Option Sl}{p apos cpos:Pos}(he:PE X e te)(pv:Dg K te vf)(hK:X.K=K)(hN:X.N[i]?=some x:=by rfl)(hv:Es X.env.scope x:=by first | exact Or.inl rfl | exact Or.inr (Or.inl rfl) | exact Or.inr (Or.inr rfl))(hd:(x == ("__debug__":Str))=false:=by decide)
  (hcd:(x == ("__classdict__":Str))=false:=by decide) (hbase:attributeBase (.Name x p) "append" X.env (eval (.Name x p) X.env)=eval (.Name x p) X.env:=by rfl)
  (hfew:((backTo cpos (starEach [e] X.env)).all (fun x=>!x.1) && (backToKw cpos (keywordEach [] X.env)).all (fun x=>x.1.isSome)
   && decide ([e].length+([]:List Keyword).length+(if ([]:List Keyword).isEmpty then 0 else 1)<30))=true:=by rfl)
  (hline:(apos.endLine == cpos.line)=true:=by rfl) (hs:starEach [e] X.env=(false,eval e X.env)::starEach [] X.env:=by rfl) (hplain:(backTo cpos (starEach [] X.env)).any (·.1)=false:=by rfl)
  (hs2:swapsWith (.Call (.Attribute (.Name x p) "append" apos) [e] [] cpos) none pos.line X.env=pure false:=by rfl) :
  JS X K (.Expr (.Call (.Attribute (.Name x p) "append" apos) [e] [] cpos) pos) (LC (Ka K "list" bM (CJ i) (Dz te Fw))) (Jh i vf):=⟨by
 subst hK
 exact S6 (Qn PySem.F.plainAttrs_list PySem.F.slot_list_append PySem.F.type_list_append sJ (G6 hN hv hd hcd) (GK he Ho hs) hbase hfew hline hs hplain) hs2,by
 intro H0 O0 G σ H ρ o E ok s hf q
 obtain⟨sl,e1,hf⟩:=Ag hf
 obtain⟨d,e2,hf⟩:=Ag hf
 obtain⟨sl2,e3,hf⟩:=Ag hf
 obtain⟨ds,e4,hf⟩:=Ag hf
 rw[Jf e2] at e1
 rw[Pg e4] at e3
 by_cases hc:fits ds.length=true
 ·rw[if_pos hc] at hf
  cases hf
  obtain⟨a,xs,h1,h2,h3⟩:=s.Hg e3
  refine⟨_,h1,.inl ⟨rfl,_,BP.of h2⟩,?_⟩
  refine pv H0 O0 G σ H ρ _ _ ok s e1 fun v H' s' sv=>?_
  obtain⟨a',xs',h1',h2',h3',t',_⟩:=Bk.write sv e3
  rw[h1] at h1'
  cases h1'
  exact⟨a,xs',v,rfl,rfl,h2',by rw[h3'];exact of_decide_eq_true hc,q σ _ t'⟩
 ·rw[if_neg hc] at hf
  cases hf⟩
theorem AHc (i:Nat){x:Str}{e ix:Expr}{te ti:TE}{fi:PF}{vf:Af→Option Sl}{p spos:Pos}(he:PE X e te)(pv:Dg K te vf)(hi:JE X K ix ti fi)(hN:X.N[i]?=some x:=by rfl)(hv:Es X.env.scope x:=by first | exact Or.inl rfl | exact Or.inr (Or.inl rfl) | exact Or.inr (Or.inr rfl))(hd:(x == ("__debug__":Str))=false:=by decide)
  (hcd:(x == ("__classdict__":Str))=false:=by decide)
  (ha:∀ v,assign (.Subscript (.Name x p) ix spos) X.env v=(do
   let ov ← holding [v] (eval (.Name x p) X.env)
   let iv ← holding [v,ov] (eval ix X.env)
   standAt spos
   holding [v,ov,iv] (setItem ov iv v)
   release [v,ov,iv] []):=by intro _;rfl)
  (hs:swapsWithSole [.Subscript (.Name x p) ix spos] e pos.line X.env=pure false:=by rfl) (hw:swappedStores [.Subscript (.Name x p) ix spos] e X.env=pure none:=by rfl)
  (h1:(assignEach [.Subscript (.Name x p) ix spos] X.env).map (·.2)=[assign (.Subscript (.Name x p) ix spos) X.env]:=by rfl) :
  JS X K (.Assign [.Subscript (.Name x p) ix spos] e pos) (Dq te (JC (CJ i) ti Ip)) (Ir i fi vf):=⟨O5 he (Sd (G6 hN hv hd hcd) hi.pe set_list ha) hs hw h1,by
 intro H0 O0 G σ H ρ o E ok s hf q
 obtain⟨sl,e1,hf⟩:=Ag hf
 obtain⟨d,e2,hf⟩:=Ag hf
 obtain⟨kd,e5,hf⟩:=Ag hf
 obtain⟨k,e6,hf⟩:=Ag hf
 obtain⟨sl2,e3,hf⟩:=Ag hf
 obtain⟨ds,e4,hf⟩:=Ag hf
 obtain⟨j,e7,hf⟩:=Ag hf
 rw[Jf e2] at e1
 rw[Pg e4] at e3
 cases hf
 refine pv H0 O0 G σ H ρ _ _ ok s e1 fun v H' s' sv=>?_
 obtain⟨a,xs,h1,h2,h3⟩:=sv.str.Hg e3
 refine⟨_,h1,?_⟩
 refine sv.str.Hy hi.pu ok e5 fun vi H2 s2 t2 ri=>?_
 obtain⟨a',xs',h1',h2',h3',_,t'⟩:=Bk.write (sv.grow s2) e3
 rw[h1] at h1'
 cases h1'
 cases ri with
 | int m=>cases e6;exact⟨a,xs',_,j,rfl,rfl,h2',by rw[h3'];exact e7,q σ _ (t' j)⟩
 | _=>cases e6⟩
end
noncomputable def Gr (m:Nat)(ds:List D):Af:=ds.map .sh++List.replicate (m-ds.length) .no
noncomputable def outD:Out→Option D
 | .rt d=>some d
 | .rl ds=>some (.list ds)
 | .rn dss=>some (.list (dss.map .list))
 | .rp ds d=>some (.tuple [.list ds,d])
 | .nx _=>some .none
 | _=>none
noncomputable def zP:Out→Option (List D)
 | .rl ds=>some ds
 | _=>none
noncomputable def Cz (n m:Nat)(F:Ai):List D→Option D:=fun ds=>if ds.length=n then (F (Gr m ds)).bind outD else none
noncomputable def Dt (n m:Nat)(F:Ai):List D→Option (List D):=fun ds=>if ds.length=n then (F (Gr m ds)).bind zP else none
theorem ACu (n m:Nat)(F:Ai):KJ n (Cz n m F):=fun ds a h=>by
 unfold Cz at h
 by_cases hc:ds.length=n
 ·exact hc
 ·rw[if_neg hc] at h;cases h
theorem lO (n m:Nat)(F:Ai):KJ n (Dt n m F):=fun ds a h=>by
 unfold Dt at h
 by_cases hc:ds.length=n
 ·exact hc
 ·rw[if_neg hc] at h;cases h
section
variable {P:Program}{w:World}{K:Frag}{mg:Str→Option Value}{base:Heap}
theorem fK {H:Hp}{O:List Addr}{vs:List V}{ds:List D}(r:Ar K (Ah O H) vs ds)(k:Nat):Slots K (Ah O H) H (vs.map some++List.replicate k none) (ds.map .sh++List.replicate k .no) []:=by
 induction r using Ar.rec (motive_1:=fun _ _ _=>True) with
 | non=>trivial
 | bl=>trivial
 | int=>trivial
 | str=>trivial
 | lst=>trivial
 | tup=>trivial
 | dic=>trivial
 | obj=>trivial
 | nil =>
  simp only[List.map_nil,List.nil_append]
  induction k with
  | zero=>exact .nil
  | succ k ih=>exact .no ih
 | cons q _ _ ih=>exact .sh q ih
theorem Vl {H:Hp}{O:List Addr}{vs:List V}{ds:List D}(r:Ar K (Ah O H) vs ds)(N:List Str):Bk K H O (Ah O H) (start N vs) H (Gr N.length ds):=by
 refine⟨[],Aj.refl _,(fun a h=>by cases h),List.nodup_nil,?_,?_⟩
 ·rw[List.append_nil];exact Aj.refl _
 ·rw[List.append_nil]
  unfold start Gr
  rw[r.length]
  exact fK r _
theorem Def.En {x:Str}{st:Stmt}{N ps:List Str}{k n m:Nat}{F:Ai}{fn:List D→Option D}(hfn:fn=Cz n m F)(D:Def K mg x st ps)(S:K1 N ps (Dj st))(hn:ps.length=n)(hm:N.length=m) (hb:∀ (f:Addr) (cdv:Value) (A:Around) (outer:List Env) (s:Shared) (H:Hp) (E:XK),Cy k (A.deeper (envOfC x (Dj st) s.heap.objs.size f cdv)) →
   ∃ t,Dd (IW Hd P w K mg base N x (Dj st) f cdv A outer s H E).Jr K (Gq st) t F):Callee P w K mg base (k+1) x ps (Dv K n fn):=by
 subst hfn hm
 refine D.ok S (fun vs H Q E h=>by rw[h.1,hn]) fun f cdv A outer s H vs Q E hr h=>?_
 obtain⟨t,j⟩:=hb f cdv A outer s H E hr
 refine⟨t,j.pe,?_⟩
 obtain⟨hl,O,ds,d,ok,r,hf,q⟩:=h
 have hl2:ds.length=n:=by rw[← r.length];exact hl
 unfold Cz at hf
 rw[if_pos hl2] at hf
 obtain⟨o,e1,hf⟩:=Ag hf
 refine j.pu H O (Ah O H) _ H _ o _ ok (Vl r N) e1 ?_
 cases o with
 | nx ρ=>cases hf;exact fun σ' H' t'=>q .non H' t'.same .non
 | rt d'=>cases hf;exact fun v H' s' r'=>q v H' s' r'
 | rl es =>
  cases hf
  refine fun a xs H' s' hn' ha r'=>q (.ref a) H' s' ?_
  exact .lst (BP.of (by rw[Bw (ok.fresh hn')];exact ha)) (r'.mono (DN fun b hb=>Bt hb))
 | rn ess =>
  cases hf
  refine fun a ps H' s' nd' hn' ha r'=>q (.ref a) H' s' ?_
  refine .lst (BP.of (by rw[Bw (ok.fresh (hn' a Bf))];exact ha)) (r'.full (DN fun b hb=>Bc hb) fun b hb o e=>?_)
  rw[Bw (ok.fresh (hn' b (Bt hb)))]
  exact e
 | rp es d2 =>
  cases hf
  refine fun p a xs v H' s' ha0 hp0 ha hp r' rv=>q (.ref p) H' s' ?_
  have sb:Aj (Ah (a::O) H') (Ah O H'):=DN fun b hb=>Bt hb
  exact .tup (Ds.of (by rw[Bw (ok.fresh hp0)];exact hp)) (.cons (.lst (BP.of (by rw[Bw (ok.fresh ha0)];exact ha)) (r'.mono sb)) (.cons (rv.mono sb) .nil))
 | ro d2 ρ2=>cases hf
 | bk ρ=>cases hf
 | ct ρ=>cases hf
theorem Def.Fe {x:Str}{st:Stmt}{N ps:List Str}{k n m:Nat}{F:Ai}{fn:List D→Option (List D)}(hfn:fn=Dt n m F)(D:Def K mg x st ps)(S:K1 N ps (Dj st))(hn:ps.length=n)(hm:N.length=m) (hb:∀ (f:Addr) (cdv:Value) (A:Around) (outer:List Env) (s:Shared) (H:Hp) (E:XK),Cy k (A.deeper (envOfC x (Dj st) s.heap.objs.size f cdv)) →
   ∃ t,Dd (IW Hd P w K mg base N x (Dj st) f cdv A outer s H E).Jr K (Gq st) t F):Callee P w K mg base (k+1) x ps (Ef K n fn):=by
 subst hfn hm
 refine D.ok S (fun vs H Q E h=>by rw[h.1,hn]) fun f cdv A outer s H vs Q E hr h=>?_
 obtain⟨t,j⟩:=hb f cdv A outer s H E hr
 refine⟨t,j.pe,?_⟩
 obtain⟨hl,O,ds,d,ok,r,hf,q⟩:=h
 have hl2:ds.length=n:=by rw[← r.length];exact hl
 unfold Dt at hf
 rw[if_pos hl2] at hf
 obtain⟨o,e1,hf⟩:=Ag hf
 refine j.pu H O (Ah O H) _ H _ o _ ok (Vl r N) e1 ?_
 cases o with
 | rl es=>cases hf;exact fun a xs H' s' hn' ha r'=>q a xs H' s' hn' ha r'
 | rn ess=>cases hf
 | rp _ _=>cases hf
 | ro d e=>cases hf
 | nx ρ=>cases hf
 | rt d'=>cases hf
 | bk ρ=>cases hf
 | ct ρ=>cases hf
end
section
variable {X:Cx}{pins:List (Addr×Obj)}{σ:St}{H:Hp}{s:Shared}
theorem Inv.dict_cls {a:Addr}{kvs:List (Key×V)}(I:Inv X pins σ H s)(h:H a=some (.dK kvs)):∃ o,s.heap.get? a=some o∧o.cls=.type "dict":=by
 obtain⟨_,_,vs,_,hd⟩:=I.hok a _ h
 obtain⟨o,es,ep,e1,e2,_⟩:=hd
 exact⟨o,e1,e2.1⟩
theorem rB {a:Addr}{kvs:List (Key×V)}{xs:List V}(I:Inv X pins σ H s)(h:H a=some (.dK kvs))(q:BP X.K H a xs):False:=by
 obtain⟨_,_,⟨o,n,e,c,_⟩,_⟩:=I.list q
 obtain⟨o',e',c'⟩:=I.dict_cls h
 rw[e] at e'
 cases e'
 rw[c] at c'
 exact absurd c' (by intro z;injection z with z;exact absurd z (by decide))
theorem rW {a:Addr}{kvs:List (Key×V)}{xs:List V}(I:Inv X pins σ H s)(h:H a=some (.dK kvs))(q:Ds X.K H a xs):False:=by
 obtain⟨_,_,⟨o,e,c,_⟩,_⟩:=I.tuple q
 obtain⟨o',e',c'⟩:=I.dict_cls h
 rw[e] at e'
 cases e'
 rw[c] at c'
 exact absurd c' (by intro z;injection z with z;exact absurd z (by decide))
theorem Inv.cQ {a C dx:Addr}{fs:List (Str×V)}(I:Inv X pins σ H s)(h:H a=some (.ins C dx fs)):∃ o,s.heap.get? a=some o∧o.cls=.ref C:=by
 obtain⟨mA,O,_⟩:=AJm I.hok h
 obtain⟨od,⟨e,_⟩,_⟩:=O.look
 exact⟨_,e,rfl⟩
theorem m6 {a C dx:Addr}{fs:List (Str×V)}{xs:List V}(I:Inv X pins σ H s)(h:H a=some (.ins C dx fs))(q:BP X.K H a xs):False:=by
 obtain⟨_,_,⟨o,n,e,c,_⟩,_⟩:=I.list q
 obtain⟨o',e',c'⟩:=I.cQ h
 rw[e] at e'
 cases e'
 rw[c] at c'
 cases c'
theorem oH {a C dx:Addr}{fs:List (Str×V)}{xs:List V}(I:Inv X pins σ H s)(h:H a=some (.ins C dx fs))(q:Ds X.K H a xs):False:=by
 obtain⟨_,_,⟨o,e,c,_⟩,_⟩:=I.tuple q
 obtain⟨o',e',c'⟩:=I.cQ h
 rw[e] at e'
 cases e'
 rw[c] at c'
 cases c'
mutual
theorem Rep.uniq (I:Inv X pins σ H s):∀ {x:V}{d d':D},Rep X.K H x d→Rep X.K H x d'→d=d'
 | _,_,_,.non,r=>by cases r;rfl
 | _,_,_,.bl b,r=>by cases r;rfl
 | _,_,_,.int i,r=>by cases r;rfl
 | _,_,_,.str x,r=>by cases r;rfl
 | _,_,_,.lst q t,r=>by
  cases r with
  | lst q' t' =>
   cases I.Ul q q'
   rw[Ar.uniq I t t']
  | tup q' t' =>
   obtain⟨_,_,⟨o,n,e,c,_⟩,_⟩:=I.list q
   obtain⟨_,_,⟨o',e',c',_⟩,_⟩:=I.tuple q'
   rw[e] at e'
   cases e'
   rw[c] at c'
   exact absurd c' (by intro z;injection z with z;exact absurd z (by decide))
  | dic q'=>exact (rB I q' q).elim
  | obj _ q' _ _=>exact (m6 I q' q).elim
 | _,_,_,.obj k q t z,r=>by
  cases r with
  | dic q'=>rw[q] at q';cases q'
  | lst q' t'=>exact (m6 I q q').elim
  | tup q' t'=>exact (oH I q q').elim
  | obj k' q' t' z' =>
   rw[q] at q'
   cases q'
   rw[z,z',Ar.uniq I t t']
 | _,_,_,.dic q,r=>by
  cases r with
  | dic q'=>rfl
  | obj _ q' _ _=>rw[q] at q';cases q'
  | lst q' t'=>exact (rB I q q').elim
  | tup q' t'=>exact (rW I q q').elim
 | _,_,_,.tup q t,r=>by
  cases r with
  | dic q'=>exact (rW I q' q).elim
  | obj _ q' _ _=>exact (oH I q' q).elim
  | tup q' t' =>
   cases I.ADS q q'
   rw[Ar.uniq I t t']
  | lst q' t' =>
   obtain⟨_,_,⟨o,n,e,c,_⟩,_⟩:=I.list q'
   obtain⟨_,_,⟨o',e',c',_⟩,_⟩:=I.tuple q
   rw[e] at e'
   cases e'
   rw[c] at c'
   exact absurd c' (by intro z;injection z with z;exact absurd z (by decide))
theorem Ar.uniq (I:Inv X pins σ H s):∀ {xs:List V}{ds ds':List D},Ar X.K H xs ds→Ar X.K H xs ds'→ds=ds'
 | _,_,_,.nil,r=>by cases r;rfl
 | _,_,_,.cons q t,r=>by
  cases r with
  | cons q' t'=>rw[Rep.uniq I q q',Ar.uniq I t t']
end
end
noncomputable def gB (d:D):List D→Option Nat
 | []=>none
 | e::es=>if PyData.eqv e d=true then some 0 else (gB d es).bind fun n=>some (n+1)
noncomputable def LR (ds:List D):Bool:=ds.all SeqAt.shaped
noncomputable def AJR (l d:D):Option D:=(Gk l).bind fun ds=>if LR ds=true∧SeqAt.shaped d=true∧fits ds.length=true then (gB d ds).bind fun n=>some (.int (n:Nat)) else none
section
variable {X:Cx}{K:Frag}
theorem o6 {A:Around}{k:Nat}(hr:Cy k A):A.units+66<cLine:=by have:=hr.un;omega
noncomputable def Hb (f:BJ):Af→Option Sl:=fun ρ=>(f (full ρ)).bind fun ds=>if Em ds=true then some (.sh (.list ds)) else none
theorem qY {te:TE}{fl:BJ}(h:Iw K te fl):Dg K te (Hb fl):=by
 intro H0 O0 G σ H ρ s Q ok t hf q
 obtain⟨d,e1,hf⟩:=Ag hf
 by_cases hc:Em d=true
 ·rw[if_pos hc] at hf
  cases hf
  have ⟨o1,e2⟩:=t.HR ok
  obtain⟨O,s0,n,nd,g,sl⟩:=t.ex
  have okA:=G5 ok s0 sl
  refine h O0 σ H (full ρ) d Q o1 e2 e1 fun a xs H' s' hn ha r=>?_
  have sl':=sl.mono (DQ (O:=O0++O) s') fun b _ o e=>s' b o e
  have na:a ∉ O0++O:=okA.fresh hn
  refine q (.ref a) H' s' ⟨O,[],s0.trans s',n,nd,g.trans (DQ s'),sl',rfl,.lst (BP.of (by rw[show O0++([]++O)=O0++O from rfl,Bw na];exact ha)) ?_⟩
  have:=Ni (K:=K) (O0:=a::O0) (O:=O) sl'.mem r hc
  exact this.mono (DN fun b hb=>Bt hb)
 ·rw[if_neg hc] at hf
  cases hf
end
section
variable {X:Cx}{K:Frag}{i:Nat}{x:Str}{e:Expr}{te:TE}{pos pos':Pos}
theorem AEt {f:BJ}(hN:X.N.Nodup)(hi:X.N[i]?=some x)(hx:Loc X.env.scope x)(he:JL X K e te f)(hs:swapsWith e (some (.Name x pos')) pos.line X.env=pure false:=by rfl)(hf:X.fn x=true∨X.env.scope.names.lookup x=some .local:=by first | exact .inl rfl | exact .inr rfl | assumption) :
  JS X K (.Assign [.Name x pos'] e pos) (Dq te (Df i)) (Aq i (Hb f)):=K7 (Jl hN hi hx he.pe hs hf) (qY he.pu)
end
section
variable {X:Cx}{K:Frag}{tg elt iter:Expr}{ifs:List Expr}{scope:Scope}{wi:TI}{g:TG}{tc:TT}{te:TE}{fi:BJ}{bd:D→BR→Option BR}{pt:PB}{fe:PF}
theorem AHV {pos spos py:Pos}{i:Nat}{y:Str}(vk:BJ→Af→Option Sl)(hvk:∀ {te:TE}{fl:BJ},Iw K te fl→Dg K te (vk fl))(own:List Str)(fv:List (Nat×Str))(hN:X.N.Nodup)(hy:X.N[i]?=some y)(hx:Loc X.env.scope y)(hc:X.calm=true)(hi:JI X K tg iter wi fi)(fo:GX X scope fv)(gk:HW own.length g)(bg:∀ fp pins s H,JG (Cd X (own++fv.map (·.2)) scope (Dc X.env scope.names []) fp pins s H) K tg g bd)(bt:∀ fp pins s H,Hz (Cd X (own++fv.map (·.2)) scope (Dc X.env scope.names []) fp pins s H) K ifs tc pt)(be:∀ fp pins s H,JE (Cd X (own++fv.map (·.2)) scope (Dc X.env scope.names []) fp pins s H) K elt te fe)(kind:scope.kind=.function)(cell:∀ y∈scope.names,y.2≠.cell)(names:∀ x∈scope.names,x.2=.local→scope.names.lookup x.1=some .local)(free:freeOk X scope=true)(hsw:swapsWith (.ListComp elt [⟨tg,iter,ifs,0⟩] scope pos) (some (.Name y py)) spos.line X.env=pure true)(hs:∀ x,foldedSetIterable iter X.env x=pure x:=by intro _;rfl)(hf:X.fn y=true∨X.env.scope.names.lookup y=some .local:=by first | exact Or.inl rfl | exact Or.inr rfl) :
  JS X K (.Assign [.Name y py] (.ListComp elt [⟨tg,iter,ifs,0⟩] scope pos) spos) (Dq (HN wi g tc te own.length fv) (Df i)) (Aq i (vk (BX fi bd pt fe own.length (fv.map (·.1))))) :=
 K7 (qW own fv hN hy hx hc hi.pe fo gk (fun fp pins s H=>(bg fp pins s H).pe) (fun fp pins s H=>(bt fp pins s H).pe) (fun fp pins s H=>(be fp pins s H).pe) kind cell names free hsw hs hf)
  (hvk (fY hi.pu (bg [] [] X.s₀ X.H₀).pu (bt [] [] X.s₀ X.H₀).pu (be [] [] X.s₀ X.H₀).pu _ _))
noncomputable def Fx (f:BJ):Af→Option Sl:=vS (Ax f)
theorem sZ {te:TE}{fl:BJ}(h:Iw K te fl):Dg K te (Fx fl):=by
 refine Hr ?_
 intro O σ H ρ d Q ok er hf q
 have hf':(fl ρ).map PyData.list=some d:=hf
 cases e1:fl ρ with
 | none=>rw[e1] at hf';cases hf'
 | some ds =>
  rw[e1] at hf'
  cases hf'
  refine h O σ H ρ ds Q ok er e1 fun a xs H' s hn ha r=>q _ H' s ?_
  have na:a ∉ O:=ok.fresh hn
  exact .lst (BP.of (by rw[Bw na];exact ha)) (r.mono (DN fun b hb=>Bt hb))
end
section
variable {X:Cx}{K:Frag}{pos:Pos}
theorem ABP (i:Nat){x:Str}{e:Expr}{te:TE}{f:PF}{p apos cpos:Pos}(he:JE X K e te f)(hK:X.K=K)(hN:X.N[i]?=some x:=by rfl)(hv:Es X.env.scope x:=by first | exact Or.inl rfl | exact Or.inr (Or.inl rfl) | exact Or.inr (Or.inr rfl))(hd:(x == ("__debug__":Str))=false:=by decide)
  (hcd:(x == ("__classdict__":Str))=false:=by decide) (hbase:attributeBase (.Name x p) "append" X.env (eval (.Name x p) X.env)=eval (.Name x p) X.env:=by rfl)
  (hfew:((backTo cpos (starEach [e] X.env)).all (fun x=>!x.1) && (backToKw cpos (keywordEach [] X.env)).all (fun x=>x.1.isSome)
   && decide ([e].length+([]:List Keyword).length+(if ([]:List Keyword).isEmpty then 0 else 1)<30))=true:=by rfl)
  (hline:(apos.endLine == cpos.line)=true:=by rfl) (hs:starEach [e] X.env=(false,eval e X.env)::starEach [] X.env:=by rfl) (hplain:(backTo cpos (starEach [] X.env)).any (·.1)=false:=by rfl)
  (hs2:swapsWith (.Call (.Attribute (.Name x p) "append" apos) [e] [] cpos) none pos.line X.env=pure false:=by rfl) :
  JS X K (.Expr (.Call (.Attribute (.Name x p) "append" apos) [e] [] cpos) pos) (LC (Ka K "list" bM (CJ i) (Dz te Fw))) (Jh i (vS f)):=AGF i he.pe (Hr he.pu) hK hN hv hd hcd hbase hfew hline hs hplain hs2
theorem zA (i:Nat){x:Str}{e ix:Expr}{te ti:TE}{f fi:PF}{p spos:Pos}(he:JE X K e te f)(hi:JE X K ix ti fi)(hN:X.N[i]?=some x:=by rfl)(hv:Es X.env.scope x:=by first | exact Or.inl rfl | exact Or.inr (Or.inl rfl) | exact Or.inr (Or.inr rfl))(hd:(x == ("__debug__":Str))=false:=by decide)
  (hcd:(x == ("__classdict__":Str))=false:=by decide)
  (ha:∀ v,assign (.Subscript (.Name x p) ix spos) X.env v=(do
   let ov ← holding [v] (eval (.Name x p) X.env)
   let iv ← holding [v,ov] (eval ix X.env)
   standAt spos
   holding [v,ov,iv] (setItem ov iv v)
   release [v,ov,iv] []):=by intro _;rfl)
  (hs:swapsWithSole [.Subscript (.Name x p) ix spos] e pos.line X.env=pure false:=by rfl) (hw:swappedStores [.Subscript (.Name x p) ix spos] e X.env=pure none:=by rfl)
  (h1:(assignEach [.Subscript (.Name x p) ix spos] X.env).map (·.2)=[assign (.Subscript (.Name x p) ix spos) X.env]:=by rfl) :
  JS X K (.Assign [.Subscript (.Name x p) ix spos] e pos) (Dq te (JC (CJ i) ti Ip)) (Ir i fi (vS f)):=AHc i he.pe (Hr he.pu) hi hN hv hd hcd ha hs hw h1
end
noncomputable def RP (K:Frag):Sp:=fun vs H Q _=>∃ (a:Addr) (ns:List Int),vs=[.ref a]∧BP K H a (ns.map V.int)∧ns.length≤63∧∀ H',Q (.bl true) H'
theorem oA {K:Frag}{H:Hp}:∀ ns:List Int,Ar K H (ns.map V.int) (ns.map PyData.int)
 | []=>.nil
 | n::r=>.cons (.int n) (oA r)
theorem Callee.gP {P:Program}{w:World}{K:Frag}{mg:Str→Option Value}{base:Heap}{k:Nat}{x:Str}{ps:List Str}{f:List D→Option D}(C:Callee P w K mg base k x ps (Dv K 1 f))(h:∀ ns:List Int,ns.length≤63→f [.list (ns.map PyData.int)]=some (.bool true)):Callee P w K mg base k x ps (RP K) :=
 C.imp fun vs H Q E ⟨a,ns,e,hq,hl,q⟩=>by
  subst e
  refine⟨rfl,[],[.list (ns.map PyData.int)],.bool true,Bu.nil,?_,h ns hl,fun v H' s' r=>?_⟩
  ·rw[AFj]
   exact .cons (.lst hq (oA ns)) .nil
  ·cases r
   exact q H'
noncomputable def Vh:List D→Option (List Int)
 | []=>some []
 | .int i::r=>(Vh r).bind fun ns=>some (i::ns)
 | _=>none
theorem iG {K:Frag}{H:Hp}{vs:List V}{ds:List D}{ns:List Int}(r:Ar K H vs ds)(h:Vh ds=some ns):vs=ns.map V.int:=by
 induction ds generalizing vs ns with
 | nil=>cases r;cases h;rfl
 | cons d ds ih =>
  cases r with
  | cons r t =>
   cases r with
   | int b =>
    obtain⟨bs,e,h⟩:=Ag h
    cases h
    rw[ih t e]
    rfl
   | _=>cases h
noncomputable def AEr:D→Option (List D)
 | .list ds=>some ds
 | .tuple ds=>some ds
 | _=>none
noncomputable def Np (neg:Bool)(x l:D):Option D:=(Ez x).bind fun i=>(AEr l).bind fun ds=>(Vh ds).bind fun ns=>some (.bool (if neg then !(ns.any fun n=>n == i) else ns.any fun n=>n == i))
theorem nH (i:Int)(ns:List Int):RG (.int i) (ns.map V.int)=ns.any fun n=>n == i:=by
 unfold RG
 rw[List.any_map]
 rfl
theorem uU (ns:List Int):(ns.map V.int).all Jg=true:=by
 rw[List.all_map]
 exact List.all_eq_true.mpr fun _ _=>rfl
section
variable {X:Cx}{K:Frag}
theorem ACV {neg:Bool}:KC K (Xk K neg) (Np neg):=by
 intro O H x y a b d Q ok ra rb hg q
 obtain⟨i,e1,hg⟩:=Ag hg
 obtain⟨ds,e2,hg⟩:=Ag hg
 obtain⟨ns,e3,hg⟩:=Ag hg
 cases hg
 cases ra with
 | int j =>
  cases e1
  cases rb with
  | lst h r =>
   cases e2
   have e4:=iG r e3
   subst e4
   exact⟨_,_,rfl,.inl (Cq.seq h),rfl,uU ns,by rw[nH];exact q _ H (Aj.refl H) (.bl _)⟩
  | tup h r =>
   cases e2
   have e4:=iG r e3
   subst e4
   exact⟨_,_,rfl,.inr (Cq.Km h),rfl,uU ns,by rw[nH];exact q _ H (Aj.refl H) (.bl _)⟩
  | _=>cases e2
 | _=>cases e1
theorem AJF (hK:X.K=K):Ca X K (compareOp .In) (Xk K false) (Np false):=⟨by subst hK;exact AIg,ACV⟩
noncomputable def AGH:List D→Option D
 | [.list ds]=>(Vh ds).bind fun ns=>some (.int ns.sum)
 | _=>none
theorem AEp {n:Nat}{acc:Array Value}{a:Int}(h:ItemsOf (fun i v=>∃ t,v=Value.int (a+i*1) t) acc n):Vals ((List.range n).map fun i:Nat=>V.int (a+(i:Nat))) acc.toList:=by
 obtain⟨hs,hv⟩:=h
 have key:∀ (l:List Value) (k:Nat),(∀ j v,l[j]?=some v→∃ t,v=Value.int (a+((k+j:Nat):Int)*1) t)→Vals ((List.range' k l.length).map fun i:Nat=>V.int (a+(i:Nat))) l:=by
  intro l
  induction l with
  | nil=>intro k _;exact .nil
  | cons u r ih =>
   intro k hk
   rw[List.length_cons,List.range'_succ,List.map_cons]
   refine .cons ?_ (ih (k+1) fun j v hj=>?_)
   ·obtain⟨t,e⟩:=hk 0 u rfl
    exact⟨t,by rw[e];simp⟩
   ·obtain⟨t,e⟩:=hk (j+1) v (by simpa using hj)
    refine⟨t,?_⟩
    rw[e]
    congr 3
    omega
 have:=key acc.toList 0 fun j v hj=>by
  have:=hv j v (by simpa using hj)
  simpa using this
 rw[Array.length_toList,hs,← List.range_eq_range'] at this
 exact this
theorem ABj:Gw X (.type "range") (fun xs H Q=>∃ j:Int,xs=[.int j]∧∀ p,H p=none→Q (.ref p) (upd H p (.rng 0 j))):=by
 intro pins s σ H xs us Q I r h
 obtain⟨j,rfl,q⟩:=h
 obtain⟨u,rfl,rx⟩:=vals1 r
 obtain⟨t,rfl⟩:=rx
 refine call_range_1 ⟨.ref s.heap.objs.size,_,I.laid (o:=.rng 0 j) (fun b ob q=>Heap.get?_push_of_some _ q) (Nat.le_refl _) ?_,rfl,q _ (I.hok.fresh (Nat.le_refl _))⟩
 exact⟨_,_,_,Heap.get?_push_size _ rfl⟩
theorem xJ (hh:X.A.handled=none):Gw X (.type "list") (fun xs H Q=>∃ (p:Addr) (j:Int),xs=[.ref p]∧H p=some (.rng 0 j)∧-(2 ^ 62)≤j∧j<2 ^ 62∧j.toNat<sizeLine∧∀ l,H l=none→Q (.ref l) (upd H l (.lst ((List.range j.toNat).map fun i:Nat=>V.int (0+(i:Nat)))))):=by
 intro pins s σ H xs us Q I r h
 obtain⟨p,j,rfl,hp,h1,h2,h3,q⟩:=h
 obtain⟨u,rfl,rx⟩:=vals1 r
 cases rx
 obtain⟨t,u,v,e⟩:=I.hok p _ hp
 have hsz:sizeLine=16777216:=sizeLine_eq
 refine call_list_range (n:=j.toNat) hh (show IsRange s.heap p 0 j 1 t u v from e) (small_one (by decide) (by decide) h1 h2) (by rw[rangeSize_one];split<;>omega) (by omega) fun h' tk acc' c' hk hS' hacc=>?_
 have hv:=AEp hacc
 refine⟨.ref s.heap.objs.size,_,I.laid (t':=tk) (o:=.lst ((List.range j.toNat).map fun i:Nat=>V.int (0+(i:Nat)))) hk (Nat.le_refl _) ?_,rfl,q _ (I.hok.fresh (Nat.le_refl _))⟩
 exact⟨by simp;omega,acc'.toList,c',hv,hS'⟩
theorem ADv {H:Hp}(n:Nat):Ar K H ((List.range n).map fun i:Nat=>V.int (0+(i:Nat))) (Ci 0 n):=by
 unfold Ci
 generalize List.range n=l
 induction l with
 | nil=>exact .nil
 | cons a r ih=>exact .cons (.int _) ih
noncomputable def QF (r:BJ):BJ:=fun ρ=>(r ρ).bind fun ds=>(Dn ds).bind fun es=>if fits es.length=true then some es else none
theorem AGA {a:Expr}{ta:TA}{r:BJ}{p p2 pos pos2:Pos}(hh:X.A.handled=none)(hg:Gl X "list")(hm:X.mg "list"=none)(hg2:Gl X "range")(hm2:X.mg "range"=none)(ha:JA X K [a] ta r)(he:starEach [a] X.env=(false,eval a X.env)::starEach [] X.env:=by rfl)(hpl:(backTo pos2 (starEach [] X.env)).any (·.1)=false:=by rfl)(he2:starEach [.Call (.Name "range" p2) [a] [] pos2] X.env=(false,eval (.Call (.Name "range" p2) [a] [] pos2) X.env)::starEach [] X.env:=by rfl)(Qi:(backTo pos (starEach [] X.env)).any (·.1)=false:=by rfl) :
  JL X K (.Call (.Name "list" p) [.Call (.Name "range" p2) [a] [] pos2] [] pos) (Ht (fun xs H Q=>∃ (p:Addr) (j:Int),xs=[.ref p]∧H p=some (.rng 0 j)∧-(2 ^ 62)≤j∧j<2 ^ 62∧j.toNat<sizeLine∧∀ l,H l=none→Q (.ref l) (upd H l (.lst ((List.range j.toNat).map fun i:Nat=>V.int (0+(i:Nat))))))
   (Dz (Ht (fun xs H Q=>∃ j:Int,xs=[.int j]∧∀ p,H p=none→Q (.ref p) (upd H p (.rng 0 j))) ta) Fw)) (QF r) :=
 ⟨Pk (xJ hh) hg hm (by rfl) (GK (Pk ABj hg2 hm2 (by rfl) ha.pe (by decide) (by decide) he hpl) Ho he2) (by decide) (by decide) he2 Qi,by
 intro O σ H ρ es Q ok er hf q
 obtain⟨ds,e1,hf⟩:=Ag hf
 obtain⟨fs,e2,hf⟩:=Ag hf
 by_cases hc:fits fs.length=true
 ·rw[if_pos hc] at hf
  obtain rfl:fs=es:=Option.some.inj hf
  refine ha.pu O σ H ρ ds _ ok er e1 fun vs H1 s1 r1=>?_
  unfold Dn at e2
  split at e2
  ·rename_i j
   obtain⟨v,rfl,rv⟩:=rep1 r1
   cases rv
   by_cases hj:-(2 ^ 62)≤j∧j<2 ^ 62
   ·rw[if_pos hj] at e2
    obtain rfl:Ci 0 j.toNat=fs:=Option.some.inj e2
    rw[gU] at hc
    refine⟨j,rfl,fun pr hpr=>?_⟩
    refine⟨pr,j,rfl,Cm,hj.1,hj.2,of_decide_eq_true hc,fun l hl=>?_⟩
    have sn:Aj H1 (upd H1 pr (.rng 0 j)):=Aj.new hpr
    have s2:=s1.trans sn
    exact q l _ _ (s2.trans (Aj.new hl)) (s2.free hl) Cm (ADv _)
   ·rw[if_neg hj] at e2
    cases e2
  ·cases e2
 ·rw[if_neg hc] at hf
  cases hf⟩
noncomputable def ABx (f:PF):BJ:=fun ρ=>(f ρ).bind fun d=>(Gk d).bind fun ds=>some ds.reverse
noncomputable def j9 (K:Frag):V→List V→Hp→VK→Prop:=fun x vs H Q=>∃ l xs y ds d,x=.ref l∧vs=[y]∧BP K H l xs∧Ar K H xs ds∧Rep K H y d∧LR ds=true∧SeqAt.shaped d=true∧Q (.int (ds.countP (fun e=>PyData.eqv e d):Nat)) H
theorem AFm (hu:X.A.units+66<cLine):Om X "list.count" (j9 X.K):=by
 intro pins s σ H x vs v us Q I rx rv h
 obtain⟨l,xs,y,ds,d,rfl,rfl,hq,ra,rd,hsa,hsd,q⟩:=h
 cases rx
 obtain⟨u,rfl,ru⟩:=vals1 rv
 obtain⟨its,r,pl,hz⟩:=I.list hq
 obtain⟨⟨cls,dd,data,sl⟩,m,ho,hc,hd,hs⟩:=pl
 simp only at hc hd hs
 subst hc hd hs
 have hl:=r.length
 have hl2:=ra.length
 classical
 let e:Value→Bool:=fun y=>decide (∃ (i:Nat) (d':D),its[i]?=some y∧ds[i]?=some d'∧PyData.eqv d' d=true)
 have ee:∀ (i:Nat) (d':D) (y':Value),its[i]?=some y'→ds[i]?=some d'→e y'=PyData.eqv d' d:=fun i d' y' h1 h2=>by
  cases hb:PyData.eqv d' d with
  | true=>exact decide_eq_true ⟨i,d',h1,h2,hb⟩
  | false =>
   refine decide_eq_false ?_
   rintro ⟨j,d2,g1,g2,g3⟩
   obtain⟨x1,a1,b1⟩:=ra.get h2
   obtain⟨x2,a2,b2⟩:=ra.get g2
   obtain⟨u1,c1,w1⟩:=r.get a1
   obtain⟨u2,c2,w2⟩:=r.get a2
   rw[h1] at c1
   cases c1
   rw[g1] at c2
   cases c2
   have ex:=w1.inj w2
   subst ex
   have:=Rep.uniq I b1 b2
   subst this
   rw[hb] at g3
   cases g3
 have hget:∀ {i:Nat} (hi:i<its.toArray.size),∃ d',ds[i]?=some d'∧its[i]?=some its.toArray[i]:=fun {i} hi=>by
  have hi':i<its.length:=by simpa using hi
  exact⟨ds[i],by simp [show i<ds.length by omega],by simp [hi']⟩
 have hmap:its.map e=ds.map (fun d'=>PyData.eqv d' d):=by
  apply List.ext_getElem?
  intro i
  rw[List.getElem?_map,List.getElem?_map]
  by_cases hi:i<its.length
  ·have h1:its[i]?=some its[i]:=List.getElem?_eq_getElem hi
   have h2:ds[i]?=some ds[i]:=List.getElem?_eq_getElem (by omega)
   rw[h1,h2,Option.map_some,Option.map_some,ee i _ _ h1 h2]
  ·rw[List.getElem?_eq_none (by omega),List.getElem?_eq_none (by omega)]
   rfl
 have Lq:its.toArray.toList.countP e=ds.countP (fun d'=>PyData.eqv d' d):=by
  have h1:(its.map e).countP id=its.countP e:=by rw[List.countP_map];rfl
  have h2:(ds.map (fun d'=>PyData.eqv d' d)).countP id=ds.countP (fun d'=>PyData.eqv d' d):=by rw[List.countP_map];rfl
  show its.countP e=_
  rw[← h1,hmap,h2]
 refine call_meets PySem.F.slot_list_count ⟨_,ho,rfl⟩ PySem.F.entry_list_count (PySem.F.args_list_count_2 _ _) (SeqAt.list_countAt l its.toArray m none sl u e) ⟨ho,?_,?_⟩
 ·intro y' hy'
  obtain⟨i,hi',rfl⟩:=Array.mem_iff_getElem.mp hy'
  obtain⟨d',h1,h2⟩:=hget hi'
  rw[ee i d' _ h2 h1]
  obtain⟨x1,a1,b1⟩:=ra.get h1
  obtain⟨u1,c1,w1⟩:=r.get a1
  rw[h2] at c1
  cases c1
  have sh1:SeqAt.shaped d'=true:=List.all_eq_true.mp hsa d' (List.mem_of_getElem? h1)
  obtain⟨as,rd1⟩:=b1.reads I (Bool.and_eq_true_iff.mp sh1).1 w1
  obtain⟨bs,rd2⟩:=rd.reads I (Bool.and_eq_true_iff.mp hsd).1 ru
  intro prog w E Q' hQ'
  refine SeqAt.eqBoolOverData prog w _ E s _ _ d' d as bs Q' rd1 rd2 (SeqAt.canLay_of_shaped sh1) (SeqAt.canLay_of_shaped hsd) ?_ hQ'
  have:=SeqAt.depth_of_shaped sh1
  have h3:min d'.depth d.depth≤d'.depth:=Nat.min_le_left _ _
  show X.A.in1.units+_<cLine
  have h4:X.A.in1.units=X.A.units+1:=rfl
  omega
 ·rw[Lq]
  exact⟨.int _,H,I.tok _,⟨_,rfl⟩,q⟩
noncomputable def N5 (l d:D):Option D:=(Gk l).bind fun ds=>if LR ds=true∧SeqAt.shaped d=true then some (.int (ds.countP (fun e=>PyData.eqv e d):Nat)) else none
theorem AAv {o e:Expr}{to te:TE}{fo fe:PF}{apos cpos:Pos}(hK:X.K=K)(hu:X.A.units+66<cLine)(ho:JE X K o to fo)(he:JE X K e te fe)(hbase:attributeBase o "count" X.env (eval o X.env)=eval o X.env:=by rfl) (hfew:((backTo cpos (starEach [e] X.env)).all (fun x=>!x.1) && (backToKw cpos (keywordEach [] X.env)).all (fun x=>x.1.isSome)
   && decide ([e].length+([]:List Keyword).length+(if ([]:List Keyword).isEmpty then 0 else 1)<30))=true:=by rfl)
  (hline:(apos.endLine == cpos.line)=true:=by rfl) (hs:starEach [e] X.env=(false,eval e X.env)::starEach [] X.env:=by rfl) (hplain:(backTo cpos (starEach [] X.env)).any (·.1)=false:=by rfl) :
  JE X K (.Call (.Attribute o "count" apos) [e] [] cpos) (Ka K "list" (j9 K) to (Dz te Fw)) (Ab N5 fo fe):=⟨by
 subst hK
 exact Qn PySem.F.plainAttrs_list PySem.F.slot_list_count PySem.F.type_list_count (AFm hu) ho.pe (GK he.pe Ho hs) hbase hfew hline hs hplain,by
 intro O σ H ρ d Q ok er hf q
 obtain⟨x,e1,hf⟩:=Ag hf
 obtain⟨y,e2,hf⟩:=Ag hf
 obtain⟨ds,e3,hf⟩:=Ag hf
 by_cases hc:LR ds=true∧SeqAt.shaped y=true
 ·rw[if_pos hc] at hf
  cases hf
  refine ho.pu O σ H ρ x _ ok er e1 fun v H1 s1 r1=>?_
  cases r1 with
  | lst hq r' =>
   cases e3
   refine⟨.inl ⟨rfl,_,Cq.seq hq⟩,?_⟩
   refine he.pu O σ H1 ρ y _ (ok.mono s1) (er.Ah s1) e2 fun u H2 s2 r2=>?_
   exact⟨_,_,u,ds,y,rfl,rfl,(Cq.trans s2).seq hq,r'.mono (Cq.trans s2),r2.mono Cq,hc.1,hc.2,q _ H2 (s1.trans s2) (.int _)⟩
  | _=>cases e3
 ·rw[if_neg hc] at hf
  cases hf⟩
noncomputable def RT (i:Nat)(fi:PF):Ai:=fun ρ=>(fi (full ρ)).bind fun kd=>(Ez kd).bind fun k=>(ρ[i]?).bind fun s'=>(Jd s').bind fun ds=>if 0≤k∧k<ds.length∧fits ds.length=true then some (.nx (ρ.set i (.ow (ds.eraseIdx k.toNat)))) else none
theorem Ar.eraseIdx {H:Hp}:∀ {xs:List V}{ds:List D} (k:Nat),Ar K H xs ds→Ar K H (xs.eraseIdx k) (ds.eraseIdx k)
 | _,_,_,.nil=>.nil
 | _,_,0,.cons _ b=>b
 | _,_,k+1,.cons a b=>.cons a (Ar.eraseIdx k b)
theorem AI3 (i:Nat){x:Str}{e:Expr}{te:TE}{f:PF}{p apos cpos pos:Pos}(he:JE X K e te f)(hK:X.K=K)(hN:X.N[i]?=some x:=by rfl)(hv:Es X.env.scope x:=by first | exact Or.inl rfl | exact Or.inr (Or.inl rfl) | exact Or.inr (Or.inr rfl))(hd:(x == ("__debug__":Str))=false:=by decide)
  (hcd:(x == ("__classdict__":Str))=false:=by decide) (hbase:attributeBase (.Name x p) "pop" X.env (eval (.Name x p) X.env)=eval (.Name x p) X.env:=by rfl)
  (hfew:((backTo cpos (starEach [e] X.env)).all (fun x=>!x.1) && (backToKw cpos (keywordEach [] X.env)).all (fun x=>x.1.isSome)
   && decide ([e].length+([]:List Keyword).length+(if ([]:List Keyword).isEmpty then 0 else 1)<30))=true:=by rfl)
  (hline:(apos.endLine == cpos.line)=true:=by rfl) (hs:starEach [e] X.env=(false,eval e X.env)::starEach [] X.env:=by rfl) (hplain:(backTo cpos (starEach [] X.env)).any (·.1)=false:=by rfl)
  (hs2:swapsWith (.Call (.Attribute (.Name x p) "pop" apos) [e] [] cpos) none pos.line X.env=pure false:=by rfl) :
  JS X K (.Expr (.Call (.Attribute (.Name x p) "pop" apos) [e] [] cpos) pos) (LC (Ka K "list" bY (CJ i) (Dz te Fw))) (RT i f):=⟨by
 subst hK
 exact S6 (Qn PySem.F.plainAttrs_list PySem.F.slot_list_pop PySem.F.type_list_pop qM (G6 hN hv hd hcd) (GK he.pe Ho hs) hbase hfew hline hs hplain) hs2,by
 intro H0 O0 G σ H ρ o E ok s hf q
 obtain⟨kd,e1,hf⟩:=Ag hf
 obtain⟨k,e2,hf⟩:=Ag hf
 obtain⟨sl2,e3,hf⟩:=Ag hf
 obtain⟨ds,e4,hf⟩:=Ag hf
 rw[Pg e4] at e3
 by_cases hc:0≤k∧k<ds.length∧fits ds.length=true
 ·rw[if_pos hc] at hf
  cases hf
  obtain⟨a0,xs0,h10,h20,h30⟩:=s.Hg e3
  refine⟨_,h10,.inl ⟨rfl,_,BP.of h20⟩,?_⟩
  refine s.Hy he.pu ok e1 fun v H1 s1 t1 rv=>?_
  obtain⟨O,s0,n,nd,g,sl⟩:=t1.ex
  obtain⟨a,xs,h1,h2,h3,h4⟩:=sl.Hg e3
  rw[h10] at h1
  cases h1
  have hl:=h4.length
  have hsz:sizeLine=16777216:=sizeLine_eq
  have hfit:ds.length<sizeLine:=of_decide_eq_true hc.2.2
  cases rv with
  | int m =>
   obtain rfl:m=k:=Option.some.inj e2
   have hkl:m.toNat<xs.length:=by omega
   refine⟨a0,xs,m,m.toNat,xs[m.toNat],rfl,rfl,h3,by omega,by omega,seqIndex_of hc.1 (by omega),by simp [hkl],q σ _ ⟨O,fun b o e=>?_,n,nd,?_,?_⟩⟩
   ·rw[Bb (Cg e (n a0 h2))]
    exact s0 b o e
   ·rw[Gz (by simp [h2])]
    exact g
   ·rw[Gz (by simp [h2])]
    exact sl.write (h4.eraseIdx _) nd e3 h10
  | _=>cases e2
 ·rw[if_neg hc] at hf
  cases hf⟩
end
theorem AGS:typeLookup (.type "zip") "__len__"=pure none:=by rw[typeLookup_type,builtinLookup_eq_fast];kernel_rfl
theorem yM:typeLookup (.type "zip") "__length_hint__"=pure none:=by rw[typeLookup_type,builtinLookup_eq_fast];kernel_rfl
noncomputable def Mm (h:Heap)(z TI TO:Addr)(f0:Value)(f1:Bool):Prop:=h.get? z=some { cls:=.type "zip",dict:=none,data:=.fields #[f0,.bool f1,.bool false,.ref TI,.ref TO],slots:=#[] }
section
variable {prog:Program}{w:World}{A:Around}{E:Value→Shared→Prop}{s:Shared}{z TI TO i1 i2 l1 l2 T:Addr}{f:Bool}{oT:Obj}
theorem ADu {a:Addr}{o:Obj}{Q:Option Obj→Shared→Prop}(ho:s.heap.get? a=some o)(h:Q (some o) s):wpAny (model prog w) A (loadIfAlive a) Q E s:=PySem.W.kdx_alive ho h
theorem jX {Q:Bool→Shared→Prop}(hz:Mm s.heap z TI TO (rawInt T) f)(hT:s.heap.get? T=some oT)(hQ:∀ h',Mm h' z TI TO (rawInt T) true→Heap.SameBut z s.heap h'→Q false { s with heap:=h' }):wpAny (model prog w) A (Builtin.SmallTypes.ownedTupleIsFree (.ref z)) Q E s:=by
 unfold Builtin.SmallTypes.ownedTupleIsFree
 refine wpAny_bind (wpAny_field hz rfl (x:=rawInt T) rfl ?_)
 show wpAny _ _ (loadIfAlive ((T:Int).toNat) >>= _) _ _ s
 rw[Int.toNat_natCast]
 refine wpAny_bind (ADu hT ?_)
 simp only[Option.isNone_some,Bool.false_eq_true,if_false]
 refine wpAny_bind (wpAny_field hz rfl (x:=.bool f) rfl ?_)
 cases f with
 | true =>
  rw[if_neg (show ¬ ((Value.bool true != Value.bool true)=true) from Bool.false_ne_true)]
  exact wpAny_pure (hQ s.heap hz (Heap.SameBut.refl _ _))
 | false =>
  rw[if_pos (show (Value.bool false != Value.bool true)=true from rfl)]
  exact wpAny_bind (wpAny_setField_rec hz (by simp) fun h' hz' hs'=>wpAny_pure (hQ h' hz' hs'))
theorem AEg {k:Nat}{xs ys:Array Value}{x y:Value}{Q:Value→Shared→Prop}(D:ZipApart z TI TO i1 i2 l1 l2)(hz:Mm s.heap z TI TO (rawInt T) f)(hT:s.heap.get? T=some oT)(hTI:IsPair s.heap TI (.ref i1) (.ref i2))(h1:s.heap.IsListIter i1 l1 k)(h2:s.heap.IsListIter i2 l2 k)(hl1:s.heap.IsList l1 xs)(hl2:s.heap.IsList l2 ys)(hx:xs[k]?=some x)(hy:ys[k]?=some y) (hQ:∀ h',Mm h' z TI TO (rawInt T) true→h'.IsListIter i1 l1 (k+1)→h'.IsListIter i2 l2 (k+1)→IsPair h' s.heap.objs.size x y→h'.objs.size=s.heap.objs.size+1 →
   (∀ c o,c≠z→c≠i1→c≠i2→s.heap.get? c=some o→h'.get? c=some o)→Q (.ref s.heap.objs.size) { s with heap:=h' }) :
  wpAny (model prog w) A (Builtin.«zip.__next__» ⟨[.ref z],[]⟩) (fun fin s'=>∃ v,fin=.done (.ret v)∧Q v s') E s:=by
 show wpAny _ _ (field (.ref z) 2 >>= _) _ _ s
 refine wpAny_bind (wpAny_field hz rfl (x:=.bool false) rfl ?_)
 show wpAny _ _ (field (.ref z) 3 >>= _) _ _ s
 refine wpAny_bind (wpAny_field hz rfl (x:=.ref TI) rfl (wpAny_bind (wpAny_seqItems hTI rfl ?_)))
 show wpAny _ _ (Builtin.SmallTypes.ownedTupleIsFree (.ref z) >>= _) _ _ s
 refine wpAny_bind (jX hz hT fun g hzg hsg=>?_)
 simp only[Bool.false_eq_true,if_false]
 refine wpAny_bind ?_
 rw[← Array.forIn_toList]
 simp only[List.forIn_cons,List.forIn_nil]
 refine wpAny_bind (wpAny_bind (wpAny_holding ?_))
 show wpAny _ _ (Builtin.SmallTypes.nextOf (.ref i1) >>= _) _ _ _
 refine wpAny_bind (wpAny_nextOf_list_item (h1.extBut hsg.extBut D.i1z) (hl1.extBut hsg.extBut D.l1z) hx fun g1 hi1 hs1=>wpAny_pure (wpAny_pure ?_))
 refine wpAny_bind (wpAny_bind (wpAny_holding ?_))
 show wpAny _ _ (Builtin.SmallTypes.nextOf (.ref i2) >>= _) _ _ _
 refine wpAny_bind (wpAny_nextOf_list_item ((h2.extBut hsg.extBut D.i2z).extBut hs1.extBut D.i12.symm) ((hl2.extBut hsg.extBut D.l2z).extBut hs1.extBut D.l2i1) hy fun g2 hi2 hs2=>wpAny_pure (wpAny_pure (wpAny_pure ?_)))
 refine wpAny_bind (wpAny_newTuple (hsz:=by show 2≤sizeLine;decide) (wpAny_pure ⟨_,rfl,?_⟩))
 have hsz:g2.objs.size=s.heap.objs.size:=by rw[hs2.1,hs1.1,hsg.1]
 show Q (.ref g2.objs.size) _
 rw[hsz]
 refine hQ _ (Heap.get?_push_of_some _ (hs2.extBut _ _ D.i2z.symm (hs1.extBut _ _ D.i1z.symm hzg))) ((hi1.extBut hs2.extBut D.i12).at fun o e=>Heap.get?_push_of_some _ e) (hi2.at fun o e=>Heap.get?_push_of_some _ e) ?_ (by rw[Heap.size_push,hsz])
  fun c o c1 c2 c3 e=>Heap.get?_push_of_some _ (hs2.extBut _ _ c3 (hs1.extBut _ _ c2 (hsg.extBut _ _ c1 e)))
 rw[← hsz]
 exact Heap.get?_push_size _ rfl
theorem AAg {k:Nat}{xs ys:Array Value}{Q:Fin→Shared→Prop}(hh:A.handled=none)(D:ZipApart z TI TO i1 i2 l1 l2)(hz:Mm s.heap z TI TO (rawInt T) f)(hT:s.heap.get? T=some oT)(hTI:IsPair s.heap TI (.ref i1) (.ref i2))(h1:s.heap.IsListIter i1 l1 k)(h2:s.heap.IsListIter i2 l2 k)(hl1:s.heap.IsList l1 xs)(hl2:s.heap.IsList l2 ys)(hend:xs[k]?=none∨ys[k]?=none)(hE:∀ h' e,(∀ c o,c≠z→c≠i1→c≠i2→s.heap.get? c=some o→h'.get? c=some o)→(∃ o,h'.get? e=some o∧o.cls=.type "StopIteration")→E (.ref e) { s with heap:=h' }) :
  wpAny (model prog w) A (Builtin.«zip.__next__» ⟨[.ref z],[]⟩) Q E s:=by
 show wpAny _ _ (field (.ref z) 2 >>= _) _ _ s
 refine wpAny_bind (wpAny_field hz rfl (x:=.bool false) rfl ?_)
 show wpAny _ _ (field (.ref z) 3 >>= _) _ _ s
 refine wpAny_bind (wpAny_field hz rfl (x:=.ref TI) rfl (wpAny_bind (wpAny_seqItems hTI rfl ?_)))
 show wpAny _ _ (Builtin.SmallTypes.ownedTupleIsFree (.ref z) >>= _) _ _ s
 refine wpAny_bind (jX hz hT fun g hzg hsg=>?_)
 simp only[Bool.false_eq_true,if_false]
 refine wpAny_bind ?_
 rw[← Array.forIn_toList]
 simp only[List.forIn_cons,List.forIn_nil]
 refine wpAny_bind (wpAny_bind (wpAny_holding ?_))
 show wpAny _ _ (Builtin.SmallTypes.nextOf (.ref i1) >>= _) _ _ _
 cases hx:xs[k]? with
 | none =>
  exact wpAny_bind (wpAny_nextOf_list_end hh (h1.extBut hsg.extBut D.i1z) (hl1.extBut hsg.extBut D.l1z) hx fun g1 e hs1 he=>hE g1 e (fun c o c1 c2 _ q=>hs1 _ _ c2 (hsg.extBut _ _ c1 q)) he)
 | some x =>
  have hy:ys[k]?=none:=by
   rcases hend with h | h
   ·rw[hx] at h;cases h
   ·exact h
  refine wpAny_bind (wpAny_nextOf_list_item (h1.extBut hsg.extBut D.i1z) (hl1.extBut hsg.extBut D.l1z) hx fun g1 hi1 hs1=>wpAny_pure (wpAny_pure ?_))
  refine wpAny_bind (wpAny_bind (wpAny_holding ?_))
  show wpAny _ _ (Builtin.SmallTypes.nextOf (.ref i2) >>= _) _ _ _
  exact wpAny_bind (wpAny_nextOf_list_end hh ((h2.extBut hsg.extBut D.i2z).extBut hs1.extBut D.i12.symm) ((hl2.extBut hsg.extBut D.l2z).extBut hs1.extBut D.l2i1) hy fun g2 e hs2 he =>
   hE g2 e (fun c o c1 c2 c3 q=>hs2 _ _ c3 (hs1.extBut _ _ c2 (hsg.extBut _ _ c1 q))) he)
noncomputable def Gj (h:Heap)(z TI TO i1 i2 l1 l2:Addr)(i:Nat):Prop :=
 IsPair h TI (.ref i1) (.ref i2)∧(∃ a b,IsPair h TO a b)∧h.IsListIter i1 l1 i∧h.IsListIter i2 l2 i∧(IsZip h z TI TO .none∨∃ (T:Addr) (f:Bool) (oT:Obj),Mm h z TI TO (rawInt T) f∧h.get? T=some oT∧T≠z∧T≠TI∧T≠TO∧T≠i1∧T≠i2)
theorem AIl {k:Nat}{xs ys:Array Value}{x y:Value}{Q:Option Value→Shared→Prop}(D:ZipApart z TI TO i1 i2 l1 l2)(hS:Gj s.heap z TI TO i1 i2 l1 l2 k)(hl1:s.heap.IsList l1 xs)(hl2:s.heap.IsList l2 ys)(hx:xs[k]?=some x)(hy:ys[k]?=some y) (hQ:∀ h',Gj h' z TI TO i1 i2 l1 l2 (k+1)→IsPair h' s.heap.objs.size x y→h'.objs.size=s.heap.objs.size+1 →
   (∀ c o,c≠z→c≠TO→c≠i1→c≠i2→s.heap.get? c=some o→h'.get? c=some o)→Q (some (.ref s.heap.objs.size)) { s with heap:=h' }):wpAny (model prog w) A (pyNext (.ref z)) Q E s:=by
 obtain⟨hTI,⟨a,b,hTO⟩,h1,h2,hz⟩:=hS
 have nz:∀ {c o},s.heap.get? c=some o→s.heap.objs.size≠c:=fun e=>Nat.ne_of_gt (Heap.lt_size e)
 have n1:s.heap.objs.size≠i1:=by obtain⟨_,e,_⟩:=h1;exact nz e
 have n2:s.heap.objs.size≠i2:=by obtain⟨_,e,_⟩:=h2;exact nz e
 rcases hz with hz | ⟨T,f,oT,hz,hT,d1,d2,d3,d4,d5⟩
 ·refine wpAny_pyNext_zip_item D hz hTI hTO h1 h2 hl1 hl2 hx hy fun h' a1 a2 a3 a4 a5 a6 hk=>hQ h' ⟨hk _ _ D.TIz D.TITO D.TIi1 D.TIi2 hTI,⟨_,_,a2⟩,a3,a4,.inr ⟨s.heap.objs.size,false,_,a1,a5,nz hz,nz hTI,nz hTO,n1,n2⟩⟩ a5 a6 hk
 ·have ht:s.TypeIs (.ref z) "zip":=⟨_,hz,rfl⟩
  unfold pyNext
  refine wpAny_bind (wpAny_attempt (wpAny_callSpecial?_slot (name:=Str.ofString "__next__") ht PySem.F.slot_zip_next (wpAny_call_entry PySem.F.slot_zip_next ht PySem.F.entry_zip_next
   (AEg D hz hT hTI h1 h2 hl1 hl2 hx hy fun h' a1 a2 a3 a4 a5 hk=>wpAny_pure (hQ h' ?_ a4 a5 fun c o c1 _ c3 c4 e=>hk c o c1 c3 c4 e)) (PySem.F.args_zip_next_1 _))))
  exact⟨hk _ _ D.TIz D.TIi1 D.TIi2 hTI,⟨_,_,hk _ _ D.TOz D.TOi1 D.TOi2 hTO⟩,a2,a3,.inr ⟨T,true,oT,a1,hk _ _ d1 d4 d5 hT,d1,d2,d3,d4,d5⟩⟩
theorem zN {k:Nat}{xs ys:Array Value}{Q:Option Value→Shared→Prop}(hh:A.handled=none)(D:ZipApart z TI TO i1 i2 l1 l2)(hS:Gj s.heap z TI TO i1 i2 l1 l2 k)(hl1:s.heap.IsList l1 xs)(hl2:s.heap.IsList l2 ys)(hend:xs[k]?=none∨ys[k]?=none)(hQ:∀ h',(∀ c o,c≠z→c≠TO→c≠i1→c≠i2→s.heap.get? c=some o→h'.get? c=some o)→Q none { s with heap:=h' }):wpAny (model prog w) A (pyNext (.ref z)) Q E s:=by
 obtain⟨hTI,⟨a,b,hTO⟩,h1,h2,hz⟩:=hS
 rcases hz with hz | ⟨T,f,oT,hz,hT,d1,d2,d3,d4,d5⟩
 ·exact wpAny_pyNext_zip_end hh D hz hTI hTO h1 h2 hl1 hl2 hend hQ
 ·have ht:s.TypeIs (.ref z) "zip":=⟨_,hz,rfl⟩
  unfold pyNext
  refine wpAny_bind (wpAny_attempt (wpAny_callSpecial?_slot (name:=Str.ofString "__next__") ht PySem.F.slot_zip_next (wpAny_call_entry PySem.F.slot_zip_next ht PySem.F.entry_zip_next
   (AAg hh D hz hT hTI h1 h2 hl1 hl2 hend fun h' e hk he=>?_) (PySem.F.args_zip_next_1 _))))
  obtain⟨o,ho,hc⟩:=he
  exact wpAny_bind (wpAny_isInstance (T:="StopIteration") (b:=true) ⟨o,ho,hc⟩ isSubtype_stop (wpAny_pure (hQ _ fun c o c1 _ c3 c4 e=>hk c o c1 c3 c4 e)))
end
theorem Gj.typ {z TI TO i1 i2 l1 l2:Addr}{i:Nat}{s:Shared}(h:Gj s.heap z TI TO i1 i2 l1 l2 i):s.TypeIs (.ref z) "zip":=by
 obtain⟨_,_,_,_,hz | ⟨T,f,oT,hz,_⟩⟩:=h
 ·exact⟨_,hz,rfl⟩
 ·exact⟨_,hz,rfl⟩
theorem Gj.at {z TI TO i1 i2 l1 l2 S:Addr}{i:Nat}{h h':Heap}(st:Gj h z TI TO i1 i2 l1 l2 i)(k:∀ c o,c≠S→h.get? c=some o→h'.get? c=some o)(hS:∃ o,h'.get? S=some o)(n0:z≠S)(n1:TI≠S)(n2:TO≠S)(n3:i1≠S)(n4:i2≠S):Gj h' z TI TO i1 i2 l1 l2 i:=by
 obtain⟨hTI,⟨a,b,hTO⟩,h1,h2,hz⟩:=st
 refine⟨k _ _ n1 hTI,⟨a,b,k _ _ n2 hTO⟩,h1.at fun o e=>k _ o n3 e,h2.at fun o e=>k _ o n4 e,?_⟩
 rcases hz with hz | ⟨T,f,oT,hz,hT,d⟩
 ·exact .inl (k _ _ n0 hz)
 ·by_cases e:T=S
  ·subst e
   obtain⟨o,ho⟩:=hS
   exact .inr ⟨T,f,o,k _ _ n0 hz,ho,d⟩
  ·exact .inr ⟨T,f,oT,k _ _ n0 hz,k _ _ e hT,d⟩
noncomputable def RQ (H1 H2:Hp)(xs ys zs:List V):Prop:=∀ (i:Nat) (v:V),zs[i]?=some v→∃ p x y,v=.ref p∧H1 p=none∧H2 p=some (.tup [x,y])∧xs[i]?=some x∧ys[i]?=some y
section
variable {X:Cx}{pins:List (Addr×Obj)}{σ:St}{H1:Hp}{z TI TO i1 i2 a b S:Addr}{xs ys:List V}
theorem yU {A:Around}(hh:A.handled=none)(D:ZipApart z TI TO i1 i2 a b){res:Value}{R:Result→Shared→Prop}(hS1:H1 S=none)(hqa:BP X.K H1 a xs)(hqb:BP X.K H1 b ys)(hR:∀ H2 s' zs,Inv X pins σ H2 s'→Aj H1 H2→H2 S=some (.lst zs)→zs.length=min xs.length ys.length→RQ H1 H2 xs ys zs→R (.ok (.ret res)) s') :
  ∀ (k i:Nat) (s:Shared) (H2:Hp) (zs:List V),min xs.length ys.length-i=k→i≤min xs.length ys.length→Inv X pins σ H2 s→Aj H1 H2→(∀ c∈[z,TI,TO,i1,i2],Ga X pins H2 c)→Gj s.heap z TI TO i1 i2 a b i →
   H2 S=some (.lst zs)→zs.length=i→RQ H1 H2 xs ys zs→codeAny (model X.prog X.w) A (.builtin "list.extend.loop" ⟨[.ref S,.ref z,res],[]⟩) R s:=by
 intro k
 induction k with
 | zero =>
  intro i s H2 zs hk hi I sm hf st hS hl hzz
  obtain⟨its,rv,p,hz⟩:=I.list (sm.seq hqa)
  obtain⟨jts,rw',p',hz'⟩:=I.list (sm.seq hqb)
  have e1:=rv.length
  have e2:=rw'.length
  refine codeAny_builtin PySem.F.entry_extend_loop ?_
  rw[Around.under_plainId PySem.F.plain_extend_loop _]
  show wpAny _ A.in1 (pyNext (.ref z) >>= _) _ _ s
  refine wpAny_bind (zN (A:=A.in1) hh D st p.isList p'.isList (by
   by_cases hc:i<xs.length
   ·exact .inr (by simp;omega)
   ·exact .inl (by simp;omega)) fun g hkk=>wpAny_pure (hR H2 _ zs (I.n6 (t':=s.toks) (ch:=[z,TI,TO,i1,i2]) hf fun c o hc q=>hkk c o (fun e=>hc (by simp [e])) (fun e=>hc (by simp [e])) (fun e=>hc (by simp [e])) (fun e=>hc (by simp [e])) q) sm hS (by omega) hzz))
 | succ k ih =>
  intro i s H2 zs hk hi I sm hf st hS hl hzz
  obtain⟨its,rv,p,hz⟩:=I.list (sm.seq hqa)
  obtain⟨jts,rw',p',hz'⟩:=I.list (sm.seq hqb)
  have hix:i<xs.length:=by omega
  have hiy:i<ys.length:=by omega
  obtain⟨u,hu,ru⟩:=rv.get (show xs[i]?=some xs[i] by simp [hix])
  obtain⟨v,hv,rv2⟩:=rw'.get (show ys[i]?=some ys[i] by simp [hiy])
  refine codeAny_builtin PySem.F.entry_extend_loop ?_
  rw[Around.under_plainId PySem.F.plain_extend_loop _]
  show wpAny _ A.in1 (pyNext (.ref z) >>= _) _ _ s
  refine wpAny_bind (AIl (A:=A.in1) D st p.isList p'.isList (x:=u) (y:=v) (by simpa using hu) (by simpa using hv) fun g st' hP hsz hkk=>?_)
  have hp0:H2 s.heap.objs.size=none:=I.hok.fresh (Nat.le_refl _)
  have I2:Inv X pins σ (upd H2 s.heap.objs.size (.tup [xs[i],ys[i]])) { s with heap:=g,toks:=s.toks }:=I.gM (ch:=[z,TI,TO,i1,i2]) hf (fun c o hb q=>hkk c o (fun e=>hb (by simp [e])) (fun e=>hb (by simp [e])) (fun e=>hb (by simp [e])) (fun e=>hb (by simp [e])) q)
   (Nat.le_refl _) ⟨by show 2≤sizeLine;decide,[u,v],.cons ru (.cons rv2 .nil),_,hP,rfl,_,rfl⟩
  have hSn:S≠s.heap.objs.size:=Cg hS hp0
  have hS2:(upd H2 s.heap.objs.size (.tup [xs[i],ys[i]])) S=some (.lst zs):=by rw[Bb hSn];exact hS
  obtain⟨z0,Wh,n0,r0,hl0,e0⟩:=I2.La hS2
  have hsl:sizeLine=16777216:=sizeLine_eq
  have hN:∀ c∈[z,TI,TO,i1,i2],c≠S∧c≠s.heap.objs.size:=fun c hc=>by
   refine⟨fun e=>?_,fun e=>?_⟩
   ·have:=(hf c hc).1
    rw[e,hS] at this
    cases this
   ·obtain⟨hTI,⟨a',b',hTO⟩,h1,h2,AGx⟩:=st
    have lt:c<s.heap.objs.size:=by
     simp only[List.mem_cons,List.not_mem_nil,or_false] at hc
     rcases hc with rfl | rfl | rfl | rfl | rfl
     ·rcases AGx with q | ⟨_,_,_,q,_⟩
      ·exact Heap.lt_size q
      ·exact Heap.lt_size q
     ·exact Heap.lt_size hTI
     ·exact Heap.lt_size hTO
     ·obtain⟨_,q,_⟩:=h1;exact Heap.lt_size q
     ·obtain⟨_,q,_⟩:=h2;exact Heap.lt_size q
    exact absurd lt (by rw[e];exact Nat.lt_irrefl _)
  have I3:=I2.Mf (t':=s.toks) (f:=(·.push (.ref s.heap.objs.size))) (its':=Wh++[.ref s.heap.objs.size]) (ys:=zs++[.ref s.heap.objs.size]) hS2 e0 (by simp) (r0.append (.cons (show RelV (V.ref s.heap.objs.size) (Value.ref s.heap.objs.size) from rfl) .nil)) (by rw[List.length_append,List.length_singleton];omega)
  show wpAny _ A.in1 (updateSeq S (·.push (.ref s.heap.objs.size)) >>= _) _ _ _
  refine wpAny_bind (wpAny_updateSeq e0 rfl (wpAny_pure ⟨plainId_quiet PySem.F.plain_extend_loop _,ih (i+1) _ _ (zs++[.ref s.heap.objs.size]) (by omega) (by omega) I3 ?_ ?_ ?_ Cm (by simp [hl]) ?_⟩) (by rw[List.size_toArray];omega) (by show (Wh.toArray.push _).size≤sizeLine+1;rw[Array.size_push,List.size_toArray];omega))
  ·intro c o e
   have n1:c≠S:=Cg e hS1
   rw[Bb n1,Bb (Cg (sm c o e) hp0)]
   exact sm c o e
  ·intro c hc
   obtain⟨m1,m2⟩:=hN c hc
   refine⟨?_,(hf c hc).2⟩
   rw[Bb m1,Bb m2]
   exact (hf c hc).1
  ·exact st'.at (S:=S) (fun c o hc e=>(Heap.get?_update_other _ _ (Ne.symm hc)).trans e) ⟨_,Heap.get?_update_self _ e0 rfl⟩ (hN z (by simp)).1 (hN TI (by simp)).1 (hN TO (by simp)).1 (hN i1 (by simp)).1 (hN i2 (by simp)).1
  ·intro j v' hj
   rw[List.getElem?_append] at hj
   split at hj
   ·obtain⟨p2,x,y,rfl,q1,q2,q3,q4⟩:=hzz j v' hj
    refine⟨p2,x,y,rfl,q1,?_,q3,q4⟩
    have m1:p2≠S:=fun e=>by rw[e,hS] at q2;cases q2
    rw[Bb m1,Bb (Cg q2 hp0)]
    exact q2
   ·have hj':j-zs.length=0:=by
     rcases Nat.eq_zero_or_pos (j-zs.length) with q | q
     ·exact q
     ·rw[List.getElem?_eq_none (by simp;omega)] at hj
      cases hj
    rw[hj'] at hj
    cases hj
    have:j=i:=by omega
    subst this
    refine⟨s.heap.objs.size,xs[j],ys[j],rfl,?_,by rw[Bb hSn.symm,Cm],by simp [hix],by simp [hiy]⟩
    cases hc:H1 s.heap.objs.size with
    | none=>rfl
    | some o=>rw[sm _ _ hc] at hp0;cases hp0
theorem AIY {s:Shared}{Q:Value→Shared→Prop}{E:Value→Shared→Prop}(hh:X.A.handled=none)(I:Inv X pins σ H1 s)(D:ZipApart z TI TO i1 i2 a b)(st:Gj s.heap z TI TO i1 i2 a b 0)(hf:∀ c∈[z,TI,TO,i1,i2],Ga X pins H1 c)(hlt:∀ c∈[z,TI,TO,i1,i2],c<s.heap.objs.size)(hqa:BP X.K H1 a xs)(hqb:BP X.K H1 b ys)(hQ:∀ S H2 s' zs,Inv X pins σ H2 s'→Aj H1 H2→H1 S=none→H2 S=some (.lst zs)→zs.length=min xs.length ys.length→RQ H1 H2 xs ys zs→Q (.ref S) s') :
  wpAny (model X.prog X.w) X.A (call (.type "list") [.ref z]) Q E s:=by
 refine callType_codes (Q₁:=fun obj s₁=>obj=.ref s.heap.objs.size∧s₁={ s with heap:=s.heap.push { cls:=.type "list",data:=.seq #[] } }) PySem.F.called_list (PySem.F.typeCall_list_1 _) PySem.F.entry_list_init (code_list_new _ ⟨rfl,rfl⟩) fun obj s₁ h₁=>?_
 obtain⟨rfl,rfl⟩:=h₁
 have hp0:H1 s.heap.objs.size=none:=I.hok.fresh (Nat.le_refl _)
 have I1:Inv X pins σ (upd H1 s.heap.objs.size (.lst [])) { s with heap:=s.heap.push { cls:=.type "list",data:=.seq ([]:List Value).toArray },toks:=s.toks }:=I.Wn .nil (Nat.zero_le _)
 have hN:∀ c∈[z,TI,TO,i1,i2],c≠s.heap.objs.size:=fun c hc=>Nat.ne_of_lt (hlt c hc)
 generalize hSg:s.heap.objs.size=S at I1 hp0 hN
 obtain⟨z1,AIi,n1,r1,hl1,e1⟩:=I1.La Cm
 have AFQ:AIi=[]:=by cases r1;rfl
 subst AFQ
 have hSn:z≠S:=hN z (by simp)
 have st1:Gj (s.heap.push { cls:=.type "list",data:=.seq ([]:List Value).toArray }) z TI TO i1 i2 a b 0:=st.at (S:=S) (fun c o _ e=>Heap.get?_push_of_some _ e) ⟨_,e1⟩ hSn (hN TI (by simp)) (hN TO (by simp)) (hN i1 (by simp)) (hN i2 (by simp))
 refine⟨⟨_,e1,rfl⟩,PySem.F.args_list_init_2 _ _,?_⟩
 show wpAny _ _ (do let old ← Builtin.List.listItems (.ref S);Builtin.List.listUpdate (.ref S) (fun _=>#[]);letGo old.toList.reverse;Builtin.List.listExtendWith (.ref S) (.ref z) .none) _ _ _
 unfold Builtin.List.listItems
 refine wpAny_bind (wpAny_bind (wpAny_seqItems e1 rfl (wpAny_pure ?_)))
 show wpAny _ _ (updateSeq S (fun _=>#[]) >>= fun _=>letGo _ >>= fun _=>Builtin.List.listExtendWith (.ref S) (.ref z) .none) _ _ _
 refine wpAny_bind (wpAny_updateSeq e1 rfl ?_)
 have I2:=I1.Mf (t':=s.toks) (f:=fun _=>#[]) (its':=[]) Cm e1 rfl .nil (Nat.zero_le _)
 have st2:=st1.at (S:=S) (h':=(s.heap.push { cls:=.type "list",data:=.seq ([]:List Value).toArray }).update S (Obj.mapSeq fun _=>#[])) (fun c o hc e=>(Heap.get?_update_other _ _ (Ne.symm hc)).trans e) ⟨_,Heap.get?_update_self _ e1 rfl⟩ hSn (hN TI (by simp)) (hN TO (by simp)) (hN i1 (by simp)) (hN i2 (by simp))
 obtain⟨z2,its2,n2,r2,hl2,e2⟩:=I2.La Cm
 have AEU:its2=[]:=by cases r2;rfl
 subst AEU
 refine wpAny_bind (wpAny_letGo ?_)
 unfold Builtin.List.listExtendWith
 refine wpAny_bind (wpAny_typeOf (T:="zip") (Gj.typ (s:={ s with heap:=_,toks:=_ }) st2) ?_)
 have q1:Builtin.List.listSameRef (.ref S) (.ref z)=false:=by simp [Builtin.List.listSameRef,hSn.symm]
 have q2:(Value.type "zip" == Value.type "list")=false:=by decide
 have q3:(Value.type "zip" == Value.type "tuple")=false:=by decide
 simp only[q1,q2,q3,Bool.or_false,Bool.false_eq_true,if_false]
 refine wpAny_bind ?_
 have self:∀ {A:Around}{Q:Value→Shared→Prop}{E:Value→Shared→Prop}{s:Shared},Gj s.heap z TI TO i1 i2 a b 0→Q (.ref z) s→wpAny (model X.prog X.w) A (pyIter (.ref z)) Q E s:=fun {A Q E s} sz hq=>by
  obtain⟨_,_,_,_,hz | ⟨T,f,oT,hz,_⟩⟩:=sz
  ·exact wpAny_pyIter_zip hz hq
  ·refine wpAny_pyIter_slot ⟨_,hz,rfl⟩ PySem.F.slot_zip_iter (wpAny_call_entry PySem.F.slot_zip_iter ⟨_,hz,rfl⟩ PySem.F.entry_zip_iter ?_ (PySem.F.args_zip_iter_1 _))
   exact wpAny_pure ⟨_,rfl,"zip",_,⟨_,hz,rfl⟩,PySem.F.slot_zip_next.lookup,hq⟩
 refine self st2 (wpAny_bind (wpAny_holding ?_))
 unfold Builtin.List.listLengthHint
 refine wpAny_bind (wpAny_specialOf (Gj.typ (s:={ s with heap:=_,toks:=_ }) st2) AGS ?_)
 show wpAny _ _ (specialOf (Value.ref z) (Str.ofString "__length_hint__") >>= _) _ _ _
 refine wpAny_bind (wpAny_specialOf (Gj.typ (s:={ s with heap:=_,toks:=_ }) st2) yM (wpAny_pure ?_))
 show wpAny _ _ (rule "list.extend.makes-room" >>= fun _=>Builtin.List.listTouch (.ref S) >>= fun _=>again (.builtin "list.extend.loop" ⟨[.ref S,.ref z,.none],[]⟩)) _ _ _
 refine wpAny_bind (wpAny_rule (wpAny_bind ?_))
 show wpAny _ _ (updateSeq S (·.push .none) >>= fun _=>updateSeq S (·.pop)) _ _ _
 refine wpAny_bind (wpAny_updateSeq e2 rfl ?_)
 have I3:=I2.Mf (t':=s.toks) (f:=(·.push .none)) (its':=[.none]) (ys:=[.non]) Cm e2 (by simp) (.cons rfl .nil) (by decide)
 have st3:=st2.at (S:=S) (fun c o hc e=>(Heap.get?_update_other _ (Obj.mapSeq (·.push .none)) (Ne.symm hc)).trans e) ⟨_,Heap.get?_update_self _ e2 rfl⟩ hSn (hN TI (by simp)) (hN TO (by simp)) (hN i1 (by simp)) (hN i2 (by simp))
 obtain⟨z3,Xb,n3,r3,hl3,e3⟩:=I3.La Cm
 refine wpAny_updateSeq e3 rfl ?_ (by rw[List.size_toArray];omega) (by show (Xb.toArray.pop).size≤_;rw[Array.size_pop,List.size_toArray];omega)
 have I4:=I3.Mf (t':=s.toks) (f:=(·.pop)) (its':=[]) (ys:=[]) Cm e3 (by
  have:Xb.length=1:=by rw[← hl3];rfl
  match Xb,this with
  | [x],_=>simp) .nil (Nat.zero_le _)
 have st4:=st3.at (S:=S) (fun c o hc e=>(Heap.get?_update_other _ (Obj.mapSeq (·.pop)) (Ne.symm hc)).trans e) ⟨_,Heap.get?_update_self _ e3 rfl⟩ hSn (hN TI (by simp)) (hN TO (by simp)) (hN i1 (by simp)) (hN i2 (by simp))
 refine wpAny_pure ⟨plainId_quiet PySem.F.plain_extend_loop _,yU (pins:=pins) (σ:=σ) (A:=X.A.in1) hh D hp0 hqa hqb (fun H2 s' zs J sm hs hl hzz=>?_) _ 0 _ _ [] rfl (Nat.zero_le _) I4 ?_ ?_ st4 Cm rfl (fun i v h=>by simp at h)⟩
 ·exact⟨rfl,hQ S H2 s' zs J sm hp0 hs hl hzz⟩
 ·intro c o e
  have n1:c≠S:=Cg e hp0
  simp only[Bb n1]
  exact e
 ·intro c hc
  refine⟨?_,(hf c hc).2⟩
  simp only[Bb (hN c hc)]
  exact (hf c hc).1
end
noncomputable def vX (K:Frag)(ta:TA):TE:=fun σ H Q=>ta σ H fun vs H1=>∃ a b xs ys,vs=[.ref a,.ref b]∧BP K H1 a xs∧BP K H1 b ys ∧
 ∀ S H2 zs,Aj H1 H2→H1 S=none→H2 S=some (.lst zs)→zs.length=min xs.length ys.length→RQ H1 H2 xs ys zs→Q (.ref S) H2
noncomputable def Mt (r:BJ):BJ:=Az VM r
section
variable {X:Cx}{K:Frag}
theorem AG8 {a b:Expr}{ta:TA}{p p2 pos pos2:Pos}(hh:X.A.handled=none)(hg:Gl X "list")(hm:X.mg "list"=none)(hg2:Gl X "zip")(hm2:X.mg "zip"=none)(ha:PA X [a,b] ta)(hs:starEach [a,b] X.env=[(false,eval a X.env),(false,eval b X.env)]:=by rfl)(hs2:starEach [b] X.env=[(false,eval b X.env)]:=by rfl)(he2:starEach [.Call (.Name "zip" p2) [a,b] [] pos2] X.env=(false,eval (.Call (.Name "zip" p2) [a,b] [] pos2) X.env)::starEach [] X.env:=by rfl)(Qi:(backTo pos (starEach [] X.env)).any (·.1)=false:=by rfl) :
  PE X (.Call (.Name "list" p) [.Call (.Name "zip" p2) [a,b] [] pos2] [] pos) (vX X.K ta):=by
 intro pins s σ H Q I h
 refine wpAny_Call_Name_kw (KH I hg hm (by rfl) (PyProof.Rows.callWith_type1 ?_ he2 Qi))
 rw[he2]
 show wpAny _ _ (spliced ((false,eval (.Call (.Name "zip" p2) [a,b] [] pos2) X.env)::backTo pos (starEach [] X.env))) _ _ s
 refine Calls.spliced_cons (Call_ (KH I hg2 hm2 (by rfl) (PyProof.Rows.callWith_type1 (BL (ha pos2 pins s σ H _ I h) fun us s1 ⟨vs,H1,I1,r1,q1⟩=>?_) (by rw[hs,hs2]) (by rw[hs2];rfl))))
 obtain⟨l,l2,xs,ys,e,hq,hq2,q⟩:=q1
 subst e
 obtain⟨u,u2,rfl,rx,rx2⟩:=vals2 r1
 cases rx
 cases rx2
 obtain⟨its,rv,pl,hz⟩:=I1.list hq
 obtain⟨jts,rv2,pl2,hz2⟩:=I1.list hq2
 have lt1:l<s1.heap.objs.size:=by obtain⟨_,e,_⟩:=pl.isList;exact Heap.lt_size e
 have lt2:l2<s1.heap.objs.size:=by obtain⟨_,e,_⟩:=pl2.isList;exact Heap.lt_size e
 refine call_zip_2 pl.isList pl2.isList fun h' hzz hTI hTO hi1 hi2 hsz hk=>Calls.spliced_nil ?_
 have I2:Inv X pins σ H1 { s1 with heap:=h',toks:=s1.toks }:=I1.kept hk
 have up:∀ k,Ga X pins H1 (s1.heap.objs.size+k):=fun k=>I1.Ny (Nat.le_add_right _ k) (I1.hok.fresh (Nat.le_add_right _ k))
 refine AIY (s:={ s1 with heap:=h' }) (z:=s1.heap.objs.size+4) (TI:=s1.heap.objs.size+2) (TO:=s1.heap.objs.size+3) (i1:=s1.heap.objs.size) (i2:=s1.heap.objs.size+1) hh I2 (zipApart_new lt1 lt2) ⟨hTI,⟨_,_,hTO⟩,hi1,hi2,.inl hzz⟩ (fun c hc=>?_) (fun c hc=>?_) hq hq2 fun S H2 s' zs J sm hS1 hS hl hzp=>⟨.ref S,H2,J,rfl,q S H2 zs sm hS1 hS hl hzp⟩
 ·simp only[List.mem_cons,List.not_mem_nil,or_false] at hc
  rcases hc with rfl | rfl | rfl | rfl | rfl
  ·exact up 4
  ·exact up 2
  ·exact up 3
  ·exact up 0
  ·exact up 1
 ·show c<h'.objs.size
  rw[hsz]
  simp only[List.mem_cons,List.not_mem_nil,or_false] at hc
  rcases hc with rfl | rfl | rfl | rfl | rfl
  ·exact Nat.add_lt_add_left (by decide) _
  ·exact Nat.add_lt_add_left (by decide) _
  ·exact Nat.add_lt_add_left (by decide) _
  ·exact Nat.lt_add_of_pos_right (by decide)
  ·exact Nat.add_lt_add_left (by decide) _
theorem AIL {a b:Expr}{ta:TA}{r:BJ}{p p2 pos pos2:Pos}(hK:X.K=K)(hh:X.A.handled=none)(hg:Gl X "list")(hm:X.mg "list"=none)(hg2:Gl X "zip")(hm2:X.mg "zip"=none)(ha:JA X K [a,b] ta r)(hs:starEach [a,b] X.env=[(false,eval a X.env),(false,eval b X.env)]:=by rfl)(hs2:starEach [b] X.env=[(false,eval b X.env)]:=by rfl)(he2:starEach [.Call (.Name "zip" p2) [a,b] [] pos2] X.env=(false,eval (.Call (.Name "zip" p2) [a,b] [] pos2) X.env)::starEach [] X.env:=by rfl)(Qi:(backTo pos (starEach [] X.env)).any (·.1)=false:=by rfl) :
  JL X K (.Call (.Name "list" p) [.Call (.Name "zip" p2) [a,b] [] pos2] [] pos) (vX K ta) (Mt r):=⟨by subst hK;exact AG8 hh hg hm hg2 hm2 ha.pe hs hs2 he2 Qi,by
 intro O σ H ρ es Q ok er hf q
 obtain⟨ds,e1,hf⟩:=Ag hf
 refine ha.pu O σ H ρ ds _ ok er e1 fun vs H1 s1 r1=>?_
 unfold VM at hf
 split at hf
 ·rename_i d1 d2
  obtain⟨v,u,rfl,rv,ru⟩:=rep2 r1
  cases hf
  cases rv with
  | lst hq r' =>
   cases ru with
   | lst hq2 r2' =>
    rename_i a1 xs a2 ys
    refine⟨_,_,xs,ys,rfl,Cq.seq hq,Cq.seq hq2,fun S H2 zs sm hS1 hS hl hz=>?_⟩
    refine q S zs H2 (s1.trans sm) (s1.free hS1) hS ?_
    have ok1:=ok.mono s1
    have hl1:=r'.length
    have hl2:=r2'.length
    have sh:Aj (Ah O H1) (Ah (S::O) H2):=fun b o e=>by
     obtain⟨n,e⟩:=GD e
     rw[Bw (by simp [n,Cg e hS1])]
     exact sm b o e
    have key:∀ (zs:List V) (k:Nat),zs.length=min xs.length ys.length-k→(∀ i v,zs[i]?=some v→∃ p x y,v=.ref p∧H1 p=none∧H2 p=some (.tup [x,y])∧xs[k+i]?=some x∧ys[k+i]?=some y)→Ar K (Ah (S::O) H2) zs (Kv (d1.drop k) (d2.drop k)):=by
     intro zs
     induction zs with
     | nil =>
      intro k hk _
      have:Kv (d1.drop k) (d2.drop k)=[]:=by
       apply List.eq_nil_of_length_eq_zero
       simp only[Kv,List.length_zipWith,List.length_drop,List.length_nil] at hk ⊢
       omega
      rw[this]
      exact .nil
     | cons v zs ih =>
      intro k hk hv
      rw[List.length_cons] at hk
      obtain⟨p,x,y,rfl,hp1,hp2,hx,hy⟩:=hv 0 _ rfl
      rw[Nat.add_zero] at hx hy
      obtain⟨dx,ex,rx⟩:=r'.Ot hx
      obtain⟨dy,ey,ry⟩:=r2'.Ot hy
      have c1:d1.drop k=dx::d1.drop (k+1):=by
       obtain⟨hlt,e⟩:=List.getElem?_eq_some_iff.mp ex
       rw[List.drop_eq_getElem_cons hlt,e]
      have c2:d2.drop k=dy::d2.drop (k+1):=by
       obtain⟨hlt,e⟩:=List.getElem?_eq_some_iff.mp ey
       rw[List.drop_eq_getElem_cons hlt,e]
      rw[c1,c2]
      refine .cons (.tup (Ds.of ?_) (.cons (rx.mono sh) (.cons (ry.mono sh) .nil))) (ih (k+1) (by omega) fun i v h=>?_)
      ·rw[Bw (by
        rintro (_ | ⟨_,hm⟩)
        ·rw[hS] at hp2;cases hp2
        ·exact ok1.fresh hp1 hm)]
       exact hp2
      ·have:=hv (i+1) v (by simpa using h)
       rw[show k+1+i=k+(i+1) by omega]
       exact this
    have:=key zs 0 (by omega) fun i v h=>by rw[Nat.zero_add];exact hz i v h
    simpa using this
 ·cases hf⟩
end
noncomputable def bH (K:Frag)(a:Addr)(n:Nat):It :=
 ⟨fun i H=>i<n∧∃ xs x,BP K H a xs∧xs.length=n∧xs[n-1-i]?=some x,fun i H x H'=>H'=H∧∀ xs,BP K H a xs→xs[n-1-i]?=some x,fun i H=>i=n∧∃ xs,BP K H a xs∧xs.length=n⟩
theorem AGg {P:Program}{w:World}{K:Frag}{tg:Expr}(a it:Addr)(n:Nat):Turn P w K tg (bH K a n) [it] it (fun i h=>h.IsRevIter it a ((n:Int)-1-(i:Int))) where
 mem:=by simp
 obj:=fun i h st b hb=>by
  have e:b=it:=by simpa using hb
  subst e
  obtain⟨o,e,c,d⟩:=st
  exact⟨o,e,fun v z=>by rw[d] at z;cases z⟩
 keep:=fun i h h' st k=>st.at fun o e=>k it (by simp) o e
 item:=by
  intro X hP hw hK hc i pins s σ H E I hf st hg
  subst hP hw hK
  obtain⟨hi,xs,x,hq,hn,hx⟩:=hg
  obtain⟨its,rv,p,hz⟩:=I.list hq
  obtain⟨u,hu,ru⟩:=rv.get hx
  obtain⟨f0,f1,f2,f3,f4,f5⟩:=hf it (by simp)
  have e:(n:Int)-1-(i:Int)=((n-1-i:Nat):Int):=by omega
  rw[e] at st
  refine wpAny_pyNext_rev_item st p.isList (x:=u) (by simpa using hu) fun h' st' sb=>?_
  have e2:((n-1-i:Nat):Int)-1=(n:Int)-1-((i+1:Nat):Int):=by omega
  rw[e2] at st'
  have I1:Inv X pins σ H { s with heap:=h' }:=I.turned (t':=s.toks) (fun b o hb e=>(sb.2 b hb).trans e) f0 f1 f3 f4 f5
  obtain⟨o,eo,c,d⟩:=id st'
  exact⟨u,rfl,Y7 (s:={ s with heap:=h' }) eo c d (by decide) ⟨x,H,I1,ru,⟨rfl,fun ys hy=>by rw[I.Ul hy hq];exact hx⟩,st',fun b hb=>(hf b hb).1⟩⟩
 done:=by
  intro X hP hw hK hc i pins s σ H E I hf st hg
  subst hP hw hK
  obtain⟨hi,xs,hq,hn⟩:=hg
  obtain⟨f0,f1,f2,f3,f4,f5⟩:=hf it (by simp)
  have e:(n:Int)-1-(i:Int) = -1:=by omega
  rw[e] at st
  exact wpAny_pyNext_rev_end (I.ok.hd hc) st fun h' eb=>⟨rfl,I.turned (t':=s.toks) (fun b o hb e=>eb b o hb e) f0 f1 f3 f4 f5⟩
 self:=fun _ _ _ _ _ st h=>wpAny_pyIter_revIter st h
noncomputable def pX (K:Frag)(ta:TA):TI:=fun σ H R=>ta σ H fun vs H1=>∃ a xs,vs=[.ref a]∧BP K H1 a xs∧R (bH K a xs.length) H1
section
variable {X:Cx}{K:Frag}{tg:Expr}
theorem AGy {a:Expr}{ta:TA}{p pos:Pos}(hg:Gl X "reversed")(hm:X.mg "reversed"=none)(ha:PA X [a] ta)(hs:starEach [a] X.env=[(false,eval a X.env)]:=by rfl) :
  PI X tg (.Call (.Name "reversed" p) [a] [] pos) (pX X.K ta):=by
 intro pins s σ H R I h
 refine Call_ (KH I hg hm (by rfl) (PyProof.Rows.callWith_type1 (BL (ha pos pins s σ H _ I h) fun us s1 ⟨vs,H1,I1,r1,q1⟩=>?_) hs rfl))
 obtain⟨l,xs,e,hq,q⟩:=q1
 subst e
 obtain⟨u,rfl,rx⟩:=vals1 r1
 cases rx
 obtain⟨its,rv,pl,hz⟩:=I1.list hq
 have hl:=rv.length
 refine call_reversed_list pl.isList ?_
 have hr:(s1.heap.push (revObj l ((its.toArray.size:Int)-1))).IsRevIter s1.heap.objs.size l ((xs.length:Int)-1-((0:Nat):Int)):=⟨_,Heap.get?_push_size _ rfl,rfl,by
  show Data.fields #[.ref l,rawInt ((its.toArray.size:Int)-1)]=_
  rw[List.size_toArray,← hl]
  simp⟩
 have I2:Inv X pins σ H1 { s1 with heap:=s1.heap.push (revObj l ((its.toArray.size:Int)-1)),toks:=s1.toks }:=I1.kept fun b o e=>Heap.get?_push_of_some _ e
 refine wpAny_pyIter_revIter (s:={ s1 with heap:=_ }) hr ?_
 refine⟨s1.heap.objs.size,[s1.heap.objs.size],_,_,H1,rfl,I2,AGg l _ xs.length,hr,fun b hb=>?_,q⟩
 have e:b=s1.heap.objs.size:=by simpa using hb
 subst e
 exact I1.Ny (Nat.le_refl _) (I1.hok.fresh (Nat.le_refl _))
theorem AEZ {G:Hp}{a:Addr}{xs:List V}{ds:List D}(h:BP K G a xs)(r:Ar K G xs ds):Oh K G (bH K a xs.length) ds.reverse:=by
 intro Oc H' ok s
 have hq:BP K H' a xs:=(s.trans Cq).seq h
 have hl:=r.length
 rw[List.length_reverse]
 refine⟨fun i hi=>⟨by omega,xs,xs[xs.length-1-i],hq,rfl,by simp [show xs.length-1-i<xs.length by omega]⟩,fun i x H'' hi y=>?_,⟨by omega,xs,hq,rfl⟩⟩
 obtain⟨e,y⟩:=y
 subst e
 obtain⟨d,e,rd⟩:=r.Ot (y xs hq)
 refine⟨d,?_,Aj.refl _,rd.mono s⟩
 rw[List.getElem?_reverse hi,← hl]
 exact e
noncomputable def LQ:List D→Option (List D)
 | [.list ds]=>some ds.reverse
 | _=>none
theorem ABL {a:Expr}{ta:TA}{r:BJ}{p pos:Pos}(hK:X.K=K)(hg:Gl X "reversed")(hm:X.mg "reversed"=none)(ha:JA X K [a] ta r)(hs:starEach [a] X.env=[(false,eval a X.env)]:=by rfl) :
  JI X K tg (.Call (.Name "reversed" p) [a] [] pos) (pX K ta) (Az LQ r):=⟨by subst hK;exact AGy hg hm ha.pe hs,by
 intro O σ H ρ items R ok er hf q
 obtain⟨ds,e1,hf⟩:=Ag hf
 refine ha.pu O σ H ρ ds _ ok er e1 fun vs H1 s1 r1=>?_
 unfold LQ at hf
 split at hf
 ·rename_i es
  obtain⟨v,rfl,rv⟩:=rep1 r1
  cases hf
  cases rv with
  | lst hq r'=>exact⟨_,_,rfl,Cq.seq hq,q _ H1 s1 (AEZ hq r')⟩
 ·cases hf⟩
end
noncomputable def ABz (lo c:Int)(n:Nat):List D:=(List.range n).map fun i=>.int (lo+(i:Nat)*c)
noncomputable def AIx (a b c:Int):Nat:=(Builtin.Range.rangeSize a b c).toNat
noncomputable def xN:List D→Option (List D)
 | [.int a,.int b,.int c]=>if 0≤a∧a≤b∧b<1000000∧1≤c∧c<1000000 then some (ABz a c (AIx a b c)) else none
 | _=>none
theorem AJ2 (l:Addr)(items:Array Value)(n:Nat)(b:Addr)(items2:Array Value)(n2:Nat)(sl:Array (Option Value))(hc0:¬(!items.isEmpty && Builtin.List.listTooLong (items.size+items2.size))=true)(hc1:items.size≤sizeLine)(hs2:(items++items2).size≤sizeLine+1) :
  Meets (Builtin.«list.extend» ⟨[.ref l,.ref b],[]⟩) (fun _ R s=>s.heap.get? l=some { cls:=.type "list",dict:=none,data:=.seq items n,slots:=#[] }∧s.heap.get? b=some ⟨.type "list",none,.seq items2 n2,sl⟩ ∧
   R (.ok (.ret Value.none)) { s with heap:=s.heap.update l (Obj.mapSeq fun x=>x++items2),toks:=s.toks }):=.of_wp fun prog w A R s h=>by
 obtain⟨hp,g,d,tk,os⟩:=s
 obtain⟨hl,hb,h⟩:=h
 have f1:=AutoSeq1.idx_int;have f2:=AutoSeq1.sub_tuple_tuple;have f3:=AutoSeq1.sub_list_list;have f4:=AutoSeq1.sub_tuple_list;have f5:=AutoSeq1.sub_list_tuple
 wp_walk using (wpAny_updateSeq hl rfl (hz:=hc1) (_hz':=hs2)),AutoSeq1.wpAny_loadPart' hl,AutoSeq1.wpAny_loadPart' hb
 exact⟨_,rfl,h⟩
section
variable {X:Cx}{K:Frag}{pos:Pos}
noncomputable def Xn (K:Frag):V→List V→Hp→VK→Prop:=fun x vs H Q=>∃ l b xs zs,x=.ref l∧vs=[.ref b]∧H l=some (.lst xs)∧BP K H b zs∧xs.length+zs.length≤sizeLine∧Q .non (upd H l (.lst (xs++zs)))
theorem ADi:Om X "list.extend" (Xn X.K):=by
 intro pins s σ H x vs v us Q I rx rv h
 obtain⟨l,b,xs,zs,rfl,rfl,hH,hB,hz,q⟩:=h
 cases rx
 obtain⟨u,rfl,ru⟩:=vals1 rv
 cases ru
 obtain⟨z,its,n,r,hl,e⟩:=I.La hH
 obtain⟨its2,r2,pl,z2⟩:=I.list hB
 have hl2:=r2.length
 obtain⟨⟨cls,dd,data,sl⟩,m,ho,hc,hd,hs⟩:=pl
 simp only at hc hd hs
 subst hc hd hs
 have hsz:its.toArray.size+its2.toArray.size≤sizeLine:=by rw[List.size_toArray,List.size_toArray];omega
 have hlong:¬ (!its.toArray.isEmpty && Builtin.List.listTooLong (its.toArray.size+its2.toArray.size))=true:=by
  rw[ADj hsz,Bool.and_false]
  exact Bool.false_ne_true
 refine call_meets PySem.F.slot_list_extend ⟨_,e,rfl⟩ PySem.F.entry_list_extend (PySem.F.args_list_extend_2 _ _)
  (AJ2 l its.toArray n b its2.toArray m sl hlong (by omega) (by rw[Array.size_append];omega)) ⟨e,ho,?_⟩
 refine⟨.non,_,I.Mf (its':=its++its2) hH e (by simp) (r.append r2) ?_,rfl,q⟩
 rw[List.length_append]
 omega
noncomputable def Qa (i:Nat)(vf:Af→Option Sl):Ai:=fun ρ=>(vf ρ).bind fun s=>(Gy s).bind fun d=>(Gk d).bind fun es=>(ρ[i]?).bind fun s'=>(Jd s').bind fun ds=>if fits (ds.length+es.length)=true then some (.nx (ρ.set i (.ow (ds++es)))) else none
theorem xM (i:Nat){x:Str}{e:Expr}{te:TE}{vf:Af→Option Sl}{p apos cpos:Pos}(he:PE X e te)(pv:Dg K te vf)(hK:X.K=K)(hN:X.N[i]?=some x:=by rfl)(hv:Es X.env.scope x:=by first | exact Or.inl rfl | exact Or.inr (Or.inl rfl) | exact Or.inr (Or.inr rfl))(hd:(x == ("__debug__":Str))=false:=by decide)
  (hcd:(x == ("__classdict__":Str))=false:=by decide) (hbase:attributeBase (.Name x p) "extend" X.env (eval (.Name x p) X.env)=eval (.Name x p) X.env:=by rfl)
  (hfew:((backTo cpos (starEach [e] X.env)).all (fun x=>!x.1) && (backToKw cpos (keywordEach [] X.env)).all (fun x=>x.1.isSome)
   && decide ([e].length+([]:List Keyword).length+(if ([]:List Keyword).isEmpty then 0 else 1)<30))=true:=by rfl)
  (hline:(apos.endLine == cpos.line)=true:=by rfl) (hs:starEach [e] X.env=(false,eval e X.env)::starEach [] X.env:=by rfl) (hplain:(backTo cpos (starEach [] X.env)).any (·.1)=false:=by rfl)
  (hs2:swapsWith (.Call (.Attribute (.Name x p) "extend" apos) [e] [] cpos) none pos.line X.env=pure false:=by rfl) :
  JS X K (.Expr (.Call (.Attribute (.Name x p) "extend" apos) [e] [] cpos) pos) (LC (Ka K "list" (Xn K) (CJ i) (Dz te Fw))) (Qa i vf):=⟨by
 subst hK
 exact S6 (Qn PySem.F.plainAttrs_list PySem.F.slot_list_extend PySem.F.type_list_extend ADi (G6 hN hv hd hcd) (GK he Ho hs) hbase hfew hline hs hplain) hs2,by
 intro H0 O0 G σ H ρ o E ok s hf q
 obtain⟨sl,e1,hf⟩:=Ag hf
 obtain⟨d,e2,hf⟩:=Ag hf
 obtain⟨es,e5,hf⟩:=Ag hf
 obtain⟨sl2,e3,hf⟩:=Ag hf
 obtain⟨ds,e4,hf⟩:=Ag hf
 rw[Jf e2] at e1
 rw[Pg e4] at e3
 by_cases hc:fits (ds.length+es.length)=true
 ·rw[if_pos hc] at hf
  cases hf
  obtain⟨a,xs,h1,h2,h3⟩:=s.Hg e3
  refine⟨_,h1,.inl ⟨rfl,_,BP.of h2⟩,?_⟩
  refine pv H0 O0 G σ H ρ _ _ ok s e1 fun v H' s' sv=>?_
  obtain⟨O,P,s0,n,nd,g,sl,rfl,r⟩:=sv.ex
  simp only[List.nil_append] at g sl r
  obtain⟨a',xs',h1',h2',h3',h4'⟩:=sl.Hg e3
  rw[h1] at h1'
  cases h1'
  cases r with
  | lst hq r' =>
   rename_i b zs _
   obtain rfl:=Option.some.inj e5
   have hl:=h4'.length
   have hl2:=r'.length
   have hfit:ds.length+_<sizeLine:=of_decide_eq_true hc
   have hB:BP K H' b zs:=Cq.seq hq
   refine⟨a,b,xs',zs,rfl,rfl,h3',hB,by omega,q σ _ ⟨O,fun c o e=>?_,n,nd,?_,?_⟩⟩
   ·rw[Bb (Cg e (n a h2'))]
    exact s0 c o e
   ·rw[Gz (by simp [h2'])]
    exact g
   ·rw[Gz (by simp [h2'])]
    exact sl.write (h4'.append r') nd e3 h1
  | _=>cases e5
 ·rw[if_neg hc] at hf
  cases hf⟩
theorem AHg (i:Nat){x:Str}{e:Expr}{te:TE}{f:PF}{p apos cpos:Pos}(he:JE X K e te f)(hK:X.K=K)(hN:X.N[i]?=some x:=by rfl)(hv:Es X.env.scope x:=by first | exact Or.inl rfl | exact Or.inr (Or.inl rfl) | exact Or.inr (Or.inr rfl))(hd:(x == ("__debug__":Str))=false:=by decide)
  (hcd:(x == ("__classdict__":Str))=false:=by decide) (hbase:attributeBase (.Name x p) "extend" X.env (eval (.Name x p) X.env)=eval (.Name x p) X.env:=by rfl)
  (hfew:((backTo cpos (starEach [e] X.env)).all (fun x=>!x.1) && (backToKw cpos (keywordEach [] X.env)).all (fun x=>x.1.isSome)
   && decide ([e].length+([]:List Keyword).length+(if ([]:List Keyword).isEmpty then 0 else 1)<30))=true:=by rfl)
  (hline:(apos.endLine == cpos.line)=true:=by rfl) (hs:starEach [e] X.env=(false,eval e X.env)::starEach [] X.env:=by rfl) (hplain:(backTo cpos (starEach [] X.env)).any (·.1)=false:=by rfl)
  (hs2:swapsWith (.Call (.Attribute (.Name x p) "extend" apos) [e] [] cpos) none pos.line X.env=pure false:=by rfl) :
  JS X K (.Expr (.Call (.Attribute (.Name x p) "extend" apos) [e] [] cpos) pos) (LC (Ka K "list" (Xn K) (CJ i) (Dz te Fw))) (Qa i (vS f)):=xM i he.pe (Hr he.pu) hK hN hv hd hcd hbase hfew hline hs hplain hs2
noncomputable def SQ (j i:Nat)(fi:PF):Ai:=fun ρ=>(fi (full ρ)).bind fun kd=>(Ez kd).bind fun k=>(ρ[i]?).bind fun s'=>(Jd s').bind fun ds=>if 0≤k∧fits ds.length=true then (ds[k.toNat]?).bind fun d=>some (.nx ((ρ.set i (.ow (ds.eraseIdx k.toNat))).set j (.sh d))) else none
theorem AJs (i j:Nat){x y:Str}{e:Expr}{te:TE}{f:PF}{p apos cpos py:Pos}(he:JE X K e te f)(hK:X.K=K)(hnd:X.N.Nodup)(hy:X.N[j]?=some y)(hly:Loc X.env.scope y)(hN:X.N[i]?=some x:=by rfl)(hv:Es X.env.scope x:=by first | exact Or.inl rfl | exact Or.inr (Or.inl rfl) | exact Or.inr (Or.inr rfl))(hd:(x == ("__debug__":Str))=false:=by decide)
  (hcd:(x == ("__classdict__":Str))=false:=by decide) (hbase:attributeBase (.Name x p) "pop" X.env (eval (.Name x p) X.env)=eval (.Name x p) X.env:=by rfl)
  (hfew:((backTo cpos (starEach [e] X.env)).all (fun x=>!x.1) && (backToKw cpos (keywordEach [] X.env)).all (fun x=>x.1.isSome)
   && decide ([e].length+([]:List Keyword).length+(if ([]:List Keyword).isEmpty then 0 else 1)<30))=true:=by rfl)
  (hline:(apos.endLine == cpos.line)=true:=by rfl) (hs:starEach [e] X.env=(false,eval e X.env)::starEach [] X.env:=by rfl) (hplain:(backTo cpos (starEach [] X.env)).any (·.1)=false:=by rfl)
  (hs2:swapsWith (.Call (.Attribute (.Name x p) "pop" apos) [e] [] cpos) (some (.Name y py)) pos.line X.env=pure false:=by rfl) (hf:X.fn y=true∨X.env.scope.names.lookup y=some .local:=by first | exact .inl rfl | exact .inr rfl | assumption) :
  JS X K (.Assign [.Name y py] (.Call (.Attribute (.Name x p) "pop" apos) [e] [] cpos) pos) (Dq (Ka K "list" bY (CJ i) (Dz te Fw)) (Df j)) (SQ j i f):=⟨by
 subst hK
 exact Jl hnd hy hly (Qn PySem.F.plainAttrs_list PySem.F.slot_list_pop PySem.F.type_list_pop qM (G6 hN hv hd hcd) (GK he.pe Ho hs) hbase hfew hline hs hplain) hs2 hf,by
 intro H0 O0 G σ H ρ o E ok s hf q
 obtain⟨kd,e1,hf⟩:=Ag hf
 obtain⟨k,e2,hf⟩:=Ag hf
 obtain⟨sl2,e3,hf⟩:=Ag hf
 obtain⟨ds,e4,hf⟩:=Ag hf
 rw[Pg e4] at e3
 by_cases hc:0≤k∧fits ds.length=true
 ·rw[if_pos hc] at hf
  obtain⟨d,ed,hf⟩:=Ag hf
  cases hf
  obtain⟨a0,xs0,h10,h20,h30⟩:=s.Hg e3
  refine⟨_,h10,.inl ⟨rfl,_,BP.of h20⟩,?_⟩
  refine s.Hy he.pu ok e1 fun v H1 s1 t1 rv=>?_
  obtain⟨O,s0,n,nd,g,sl⟩:=t1.ex
  obtain⟨a,xs,h1,h2,h3,h4⟩:=sl.Hg e3
  rw[h10] at h1
  cases h1
  have hl:=h4.length
  have hsz:sizeLine=16777216:=sizeLine_eq
  have hfit:ds.length<sizeLine:=of_decide_eq_true hc.2
  cases rv with
  | int m =>
   obtain rfl:m=k:=Option.some.inj e2
   obtain⟨x0,ex,rx⟩:=h4.get ed
   obtain⟨hkl,_⟩:=List.getElem?_eq_some_iff.mp ex
   refine⟨a0,xs,m,m.toNat,x0,rfl,rfl,h3,by omega,by omega,seqIndex_of hc.1 (by omega),ex,?_⟩
   have t2:Ey K H0 O0 G σ (upd H1 a0 (.lst (xs.eraseIdx m.toNat))) (ρ.set i (.ow (ds.eraseIdx m.toNat))) x0 (.sh d):=⟨O,[],fun b o e=>by
     rw[Bb (Cg e (n a0 h2))]
     exact s0 b o e,n,nd,by
     simp only[List.nil_append]
     rw[Gz (by simp [h2])]
     exact g,by
     simp only[List.nil_append]
     rw[Gz (by simp [h2])]
     exact sl.write (h4.eraseIdx _) nd e3 h10,rfl,by
     simp only[List.nil_append]
     rw[Gz (by simp [h2])]
     exact rx⟩
   exact q _ _ (t2.set j)
  | _=>cases e2
 ·rw[if_neg hc] at hf
  cases hf⟩
end
theorem Dl {n m:Nat}{F:Ai}{ds:List D}{o:Out}{d:D}(hl:ds.length=n)(h:F (Gr m ds)=some o)(ho:outD o=some d):Cz n m F ds=some d:=by
 unfold Cz
 rw[if_pos hl,h]
 exact ho
theorem FN {n m:Nat}{F:Ai}{ds:List D}{es:List D}(hl:ds.length=n)(h:F (Gr m ds)=some (.rl es)):Dt n m F ds=some es:=by
 unfold Dt
 rw[if_pos hl,h]
 rfl
theorem cP (a b:Int):CG (.int a) (.int b)=some (.int (a+b)):=rfl
theorem kZ (a b:Int):Cr (.int a) (.int b)=some (.int (a-b)):=rfl
theorem nM (a b:Int):CZ (.int a) (.int b)=if (small a || small b)=true then some (.int (a*b)) else none:=rfl
theorem vC (a b:Int):Ba (.int a) (.int b)=if 0<b then some (.int (a % b)) else none:=by
 show (if decide (0<b)=true then _ else _)=_
 simp only[decide_eq_true_eq]
theorem qO (a b:Int):CP (.int a) (.int b)=if (0<b∧b<1073741824)∨Wide b then some (.int (a / b)) else none:=by
 show (if decide ((0<b∧b<1073741824)∨Wide b)=true then _ else _)=_
 simp only[decide_eq_true_eq]
theorem ABS (a b:Int):Fy (.int a) (.int b)=if 0≤b∧b≤1000000∧a.natAbs<2 ^ 64 then some (.int (a ^ b.toNat)) else none:=by
 show (if decide (0≤b∧b≤1000000∧a.natAbs<2 ^ 64)=true then _ else _)=_
 simp only[decide_eq_true_eq]
noncomputable def Cj (b:Int):Int:=10 ^ b.toNat
theorem Nq (b:Int):0<Cj b:=Int.pow_pos (by decide)
theorem nZ (b:Int):Fy (.int 10) (.int b)=if 0≤b∧b≤1000000 then some (.int (Cj b)) else none:=by
 rw[ABS]
 have e:(10:Int).natAbs<2 ^ 64:=by decide
 simp only[e,and_true]
 rfl
theorem dH (a b:Int):Er (.int a) (.int b)=some (.bool (decide (a<b))):=rfl
theorem tW (a b:Int):Kq (.int a) (.int b)=some (.bool (decide (a≤b))):=rfl
theorem uE (a b:Int):Ig (.int a) (.int b)=some (.bool (decide (b<a))):=rfl
theorem mU (a b:Int):Ih (.int a) (.int b)=some (.bool (decide (b≤a))):=rfl
theorem iW (a:Int):Jx (.int a)=some (.int (-a)):=rfl
theorem dX (a b:Int):Bp (.int a) (.int b)=some (.bool (decide (a=b))):=by
 simp [Bp,SeqAt.shaped,PyData.canLay0,PyData.depth,PyData.eqv,Bool.beq_eq_decide_eq]
theorem d8 (a b:Int):BZ (.int a) (.int b)=some (.bool (!decide (a=b))):=by
 simp [BZ,SeqAt.shaped,PyData.canLay0,PyData.depth,PyData.eqv,Bool.beq_eq_decide_eq]
theorem wA (ds:List D)(i:Int):Al (.list ds) (.int i)=Bj ds i:=rfl
theorem rD (ds:List D)(i:Int):Al (.tuple ds) (.int i)=Bj ds i:=rfl
theorem G8 {α:Type}(xs:List α)(j:Nat):Bj xs (j:Int)=xs[j]?:=by
 unfold Bj Ei
 by_cases h:j<xs.length
 ·rw[if_pos (by omega),if_pos (by omega)]
  simp
 ·rw[if_pos (by omega),if_neg (by omega)]
  simp;omega
theorem fD {α:Type}(x:α)(xs:List α):Bj (x::xs) 0=some x:=G8 (x::xs) 0
theorem uO {α:Type}(x y:α)(xs:List α):Bj (x::y::xs) 1=some y:=G8 (x::y::xs) 1
theorem fZ {α:Type}(x y z:α)(xs:List α):Bj (x::y::z::xs) 2=some z:=G8 (x::y::z::xs) 2
theorem Ym {n:Nat}(h:n<16777216):fits n=true:=decide_eq_true h
theorem cY (i:Int):small i=decide (-18446744073709551616<i∧i<18446744073709551616):=rfl
theorem lD (n:Nat):fits n=decide (n<16777216):=rfl
theorem dW (i:List D):Nj (.list i) = "list":=rfl
theorem mW (i:List D):Nj (.tuple i) = "tuple":=rfl
theorem pM (i:Bool):Nj (.bool i) = "bool":=rfl
theorem jW (i:Int):Nj (.int i) = "int":=rfl
theorem iM:Nj .none = "NoneType":=rfl
theorem oK (t:String):PQ t t=true:=by simp [PQ]
theorem fW:PQ "int" "bool"=false:=by decide
theorem sI:PQ "bool" "int"=true:=by decide
theorem iC:HB (.none:D)=true:=rfl
theorem iT (i:Int):HB (.int i:D)=false:=rfl
theorem o7 (i:List D):HB (.list i:D)=false:=rfl
theorem oR (i:List D):HB (.tuple i:D)=false:=rfl
theorem Gb {α β:Type}(a:α)(f:α→Option β):(some a).bind f=f a:=by
 have h:∀ o:Option α,o=some a→o.bind f=f a:=by
  intro o e
  subst e
  rfl
 exact h _ rfl
theorem jY {α β:Type}(f:α→Option β):(none:Option α).bind f=none:=rfl
theorem cH {α:Type}(x:α)(xs:List α):(x::xs)[0]?=some x:=rfl
theorem oF {α:Type}(x:α)(xs:List α)(i:Nat):(x::xs)[i+1]?=xs[i]?:=rfl
theorem rH (b:Bool):Js (.bool b)=some b:=rfl
theorem lK (b:Int):Ez (.int b)=some b:=rfl
theorem bO (b:List D):Gk (.list b)=some b:=rfl
theorem pB (b:List D):jB (.tuple b)=some b:=rfl
theorem uZ (b:D):Gy (.sh b)=some b:=rfl
theorem kO (b:List D):Jd (.ow b)=some b:=rfl
theorem pG (d:D):Sl.view (.sh d)=some d:=rfl
theorem p8 (d:List D):Sl.view (.ow d)=some (.list d):=rfl
theorem rO:Sl.view .no=none:=rfl
theorem Z4 (d:D):Sl.mask (.sh d)=some d:=rfl
theorem dM (d:List D):Sl.mask (.ow d)=none:=rfl
theorem Xg:Sl.mask .no=none:=rfl
theorem uD (ds:List D):Bm [.list ds]=some (.int ds.length):=rfl
theorem dY (ds:List D):Bm [.tuple ds]=some (.int ds.length):=rfl
theorem gF (ds:List D):G4 [.list ds]=some ds:=rfl
theorem fX (ds:List D):G4 [.tuple ds]=some ds:=rfl
theorem uN (ds:List D):HX [.list ds]=some (Gf ds):=rfl
theorem tQ (ds es:List D):VM [.list ds,.list es]=some (Kv ds es):=rfl
theorem dF (i j:Int):Ja [.int i,.int j]=some (.int (max i j)):=rfl
theorem tL (i j:Int):NK [.int i,.int j]=some (.int (min i j)):=rfl
theorem nG (b:Bool):Jw [.bool b]=some (.int (if b then 1 else 0)):=rfl
theorem fV (b:Int):Jw [.int b]=some (.int b):=rfl
theorem J7 (j:Int)(h:-4611686018427387904≤j∧j<4611686018427387904):Dn [.int j]=some (Ci 0 j.toNat):=if_pos h
theorem fB (i j:Int)(h:-4611686018427387904≤i∧i<4611686018427387904∧-4611686018427387904≤j∧j<4611686018427387904):Im [.int i,.int j]=some (Ci i (j-i).toNat):=if_pos h
theorem lU (m:Nat)(ds:List D):Gr m ds=ds.map .sh++List.replicate (m-ds.length) .no:=rfl
theorem jG (i:Int):Ft (.int i)=true:=by simp [Ft]
theorem mK (i:Bool):Ft (.bool i)=true:=by simp [Ft]
theorem pD:Ft .none=true:=by simp [Ft]
theorem pL (ds:List D):Ft (.tuple ds)=Em ds:=by simp [Ft]
theorem d7:Em []=true:=rfl
theorem Xf (d:D)(ds:List D):Em (d::ds)=(Ft d && Em ds):=rfl
theorem lW {α:Type}(a b:α):(if true=true then a else b)=a:=rfl
theorem uI {α:Type}(a b:α):(if false=true then a else b)=b:=rfl
theorem Ii {α:Type}{bd:D→BR→Option BR}{pt:PB}{fe:PF}{ρ0:BR}(enc:α→D)(p:α→Bool)(h:α→D):∀ (xs:List α),(∀ x∈xs,∃ ρ1,bd (enc x) ρ0=some ρ1∧pt ρ1=some (p x)∧(p x=true→fe ρ1=some (h x))) →
  JB bd pt fe ρ0 (xs.map enc)=some ((xs.filter p).map h)
 | [],_=>rfl
 | x::xs,H=>by
  obtain⟨ρ1,h1,h2,h3⟩:=H x Bf
  have ih:=Ii enc p h xs fun y hy=>H y (Bt hy)
  rw[List.map_cons]
  unfold JB
  rw[h1,Gb,h2,Gb,ih]
  cases hp:p x with
  | true=>rw[if_pos rfl,h3 hp,Gb,Gb,List.filter_cons_of_pos hp];rfl
  | false=>rw[if_neg Bool.false_ne_true,List.filter_cons_of_neg (by rw[hp];exact Bool.false_ne_true)]
theorem Vj {α:Type}{bd:D→BR→Option BR}{fe:PF}{ρ0:BR}(enc:α→D)(h:α→D)(xs:List α)(H:∀ x∈xs,∃ ρ1,bd (enc x) ρ0=some ρ1∧fe ρ1=some (h x)) :
  JB bd DK fe ρ0 (xs.map enc)=some (xs.map h):=by
 have:=Ii (pt:=DK) enc (fun _=>true) h xs fun x hx=>by
  obtain⟨ρ1,h1,h2⟩:=H x hx
  exact⟨ρ1,h1,rfl,fun _=>h2⟩
 rw[this,List.filter_eq_self.mpr (fun _ _=>rfl)]
theorem HY {bs:D→Af→Option Af}{F:Ai}{d:D}{ds:List D}{ρ ρ1 ρ2:Af}(h1:bs d ρ=some ρ1)(h2:F ρ1=some (.nx ρ2)):Bx bs F (d::ds) ρ=Bx bs F ds ρ2:=by
 simp only[Bx,h1,h2,Gb]
theorem RC {bs:D→Af→Option Af}{F:Ai}{d r:D}{ds:List D}{ρ ρ1:Af}(h1:bs d ρ=some ρ1)(h2:F ρ1=some (.rt r)):Bx bs F (d::ds) ρ=some (.rt r):=by
 simp only[Bx,h1,h2,Gb]
theorem aW {α S:Type}{bs:D→Af→Option Af}{F:Ai}(enc:α→D)(R:S→Af→Prop)(step:S→α→S):∀ (xs:List α),(∀ s ρ x,x∈xs→R s ρ→∃ ρ1 ρ2,bs (enc x) ρ=some ρ1∧F ρ1=some (.nx ρ2)∧R (step s x) ρ2) →
  ∀ s ρ,R s ρ→∃ ρ',Bx bs F (xs.map enc) ρ=some (.nx ρ')∧R (xs.foldl step s) ρ'
 | [],_,s,ρ,r=>⟨ρ,rfl,r⟩
 | x::xs,H,s,ρ,r=>by
  obtain⟨ρ1,ρ2,h1,h2,r2⟩:=H s ρ x Bf r
  obtain⟨ρ',h3,r3⟩:=aW enc R step xs (fun s ρ y hy=>H s ρ y (Bt hy)) (step s x) ρ2 r2
  exact⟨ρ',by rw[List.map_cons,HY h1 h2];exact h3,r3⟩
theorem Tw {bs:D→Af→Option Af}{F:Ai}{lo:Int}(R:Nat→Af→Prop)(n:Nat)(H:∀ i ρ,i<n→R i ρ→∃ ρ1 ρ2,bs (.int (lo+(i:Nat))) ρ=some ρ1∧F ρ1=some (.nx ρ2)∧R (i+1) ρ2)(ρ:Af)(r:R 0 ρ) :
  ∃ ρ',Bx bs F (Ci lo n) ρ=some (.nx ρ')∧R n ρ':=by
 have key:∀ (k i:Nat) (ρ:Af),i+k=n→R i ρ→∃ ρ',Bx bs F ((List.range' i k).map fun i=>.int (lo+(i:Nat))) ρ=some (.nx ρ')∧R n ρ':=by
  intro k
  induction k with
  | zero =>
   intro i ρ h r
   have e:i=n:=by omega
   subst e;exact⟨ρ,rfl,r⟩
  | succ k ih =>
   intro i ρ h r
   obtain⟨ρ1,ρ2,h1,h2,r2⟩:=H i ρ (by omega) r
   obtain⟨ρ',h3,r3⟩:=ih (i+1) ρ2 (by omega) r2
   exact⟨ρ',by rw[List.range'_succ,List.map_cons,HY h1 h2];exact h3,r3⟩
 have:=key n 0 ρ (by omega) r
 unfold Ci
 rw[List.range_eq_range']
 exact this
theorem AGU {bs:D→Af→Option Af}{F:Ai}{lo:Int}(ok:Nat→Bool)(R:Af→Prop)(r:D)(n:Nat)(H:∀ i ρ,i<n→R ρ→∃ ρ1,bs (.int (lo+(i:Nat))) ρ=some ρ1∧(ok i=true→∃ ρ2,F ρ1=some (.nx ρ2)∧R ρ2)∧(ok i=false→F ρ1=some (.rt r)))(ρ:Af)(h:R ρ):((List.range n).all ok=true∧∃ ρ',Bx bs F (Ci lo n) ρ=some (.nx ρ')∧R ρ')∨((List.range n).all ok=false∧Bx bs F (Ci lo n) ρ=some (.rt r)):=by
 have key:∀ (k i:Nat) (ρ:Af),i+k=n→R ρ→((List.range' i k).all ok=true∧∃ ρ',Bx bs F ((List.range' i k).map fun i=>.int (lo+(i:Nat))) ρ=some (.nx ρ')∧R ρ')∨((List.range' i k).all ok=false∧Bx bs F ((List.range' i k).map fun i=>.int (lo+(i:Nat))) ρ=some (.rt r)):=by
  intro k
  induction k with
  | zero=>intro i ρ h r;exact .inl ⟨rfl,ρ,rfl,r⟩
  | succ k ih =>
   intro i ρ h rr
   obtain⟨ρ1,h1,h2,h3⟩:=H i ρ (by omega) rr
   rw[List.range'_succ,List.map_cons,List.all_cons]
   cases ho:ok i with
   | true =>
    obtain⟨ρ2,h4,r2⟩:=h2 ho
    rw[HY h1 h4,Bool.true_and]
    exact ih (i+1) ρ2 (by omega) r2
   | false=>exact .inr ⟨rfl,RC h1 (h3 ho)⟩
 have:=key n 0 ρ (by omega) h
 unfold Ci
 rw[List.range_eq_range']
 exact this
theorem AFs {c:PB}{F:Ai}(R:Af→Prop)(μ:Af→Nat)(H:∀ ρ,R ρ→∃ b,c (full ρ)=some b∧(b=true→∃ ρ',F ρ=some (.nx ρ')∧R ρ'∧μ ρ'<μ ρ)) :
  ∀ (n:Nat) (ρ:Af),R ρ→μ ρ<n→∃ ρ',Gu c F n ρ=some (.nx ρ')∧R ρ'∧c (full ρ')=some false
 | 0,ρ,_,h=>by omega
 | n+1,ρ,r,h=>by
  obtain⟨b,h1,h2⟩:=H ρ r
  cases b with
  | false=>exact⟨ρ,by simp only[Gu,h1,Gb,Bool.false_eq_true,if_false],r,h1⟩
  | true =>
   obtain⟨ρ2,h3,r2,h4⟩:=h2 rfl
   obtain⟨ρ',h5,r5,h6⟩:=AFs R μ H n ρ2 r2 (by omega)
   refine⟨ρ',?_,r5,h6⟩
   simp only[Gu,h1,h3,Gb,if_true]
   exact h5
theorem W7 {c:PB}{F:Ai}(B:Nat)(R:Nat→Af→Prop)(H:∀ k ρ,R k ρ→∃ b,c (full ρ)=some b∧(b=true→k<B∧∃ ρ',F ρ=some (.nx ρ')∧R (k+1) ρ')) :
  ∀ (n k:Nat) (ρ:Af),R k ρ→k≤B→B<k+n→∃ k' ρ',Gu c F n ρ=some (.nx ρ')∧R k' ρ'∧c (full ρ')=some false∧k'≤B
 | 0,k,ρ,_,h,h'=>by omega
 | n+1,k,ρ,r,h,h'=>by
  obtain⟨b,h1,h2⟩:=H k ρ r
  cases b with
  | false=>exact⟨k,ρ,by simp only[Gu,h1,Gb,Bool.false_eq_true,if_false],r,h1,h⟩
  | true =>
   obtain⟨hk,ρ2,h3,r2⟩:=h2 rfl
   obtain⟨k',ρ',h5,r5,h6,h7⟩:=W7 B R H n (k+1) ρ2 r2 (by omega) (by omega)
   refine⟨k',ρ',?_,r5,h6,h7⟩
   simp only[Gu,h1,h3,Gb,if_true]
   exact h5
theorem Aw {F F':Ai}{ρ ρ':Af}{o:Option Out}(h:F ρ=some (.nx ρ'))(h':F' ρ'=o):Ak F F' ρ=o:=by
 unfold Ak
 rw[h]
 exact h'
theorem Kz {F F':Ai}{ρ:Af}{d:D}(h:F ρ=some (.rt d)):Ak F F' ρ=some (.rt d):=by
 unfold Ak
 rw[h]
 rfl
theorem dG {F F':Ai}{ρ:Af}{d:List D}(h:F ρ=some (.rl d)):Ak F F' ρ=some (.rl d):=by
 unfold Ak
 rw[h]
 rfl
theorem Oz {c:PB}{F F':Ai}{ρ:Af}{o:Option Out}(h:c (full ρ)=some true)(h':F ρ=o):CN c F F' ρ=o:=by
 unfold CN
 rw[h]
 exact h'
theorem N7 {c:PB}{F F':Ai}{ρ:Af}{o:Option Out}(h:c (full ρ)=some false)(h':F' ρ=o):CN c F F' ρ=o:=by
 unfold CN
 rw[h]
 exact h'
theorem GJ {fi:BJ}{bs:D→Af→Option Af}{F:Ai}{ρ:Af}{items:List D}(h:fi (masked ρ)=some items):Eu fi bs F ρ=Bx bs F items ρ:=by
 unfold Eu
 rw[h]
 rfl
theorem HF {fi:BJ}{bd:D→BR→Option BR}{pt:PB}{fe:PF}{n:Nat}{is:List Nat}{ρ:BR}{items:List D}(h:fi ρ=some items)(hl:items.length<16777216):BX fi bd pt fe n is ρ=JB bd pt fe (compEnv n is ρ) items:=by
 unfold BX
 rw[h,Gb,if_pos (Ym hl)]
theorem Ur (t u:Thing):Bp (encD t) (encD u)=some (.bool (decide (t=u))):=by
 unfold Bp
 rw[if_pos ⟨Q8 t,Q8 u⟩,RB]
theorem PN (t u:Thing):BZ (encD t) (encD u)=some (.bool (!decide (t=u))):=by
 unfold BZ
 rw[if_pos ⟨Q8 t,Q8 u⟩,RB]
theorem uB (t:Thing):BZ (encD t) (.tuple [])=some (.bool (!decide (t=none))):=PN t none
theorem cZ (t:Thing):Bp (encD t) (.tuple [])=some (.bool (decide (t=none))):=Ur t none
theorem SJ (ts us:List Thing):Bp (.list (ts.map encD)) (.list (us.map encD))=some (.bool (decide (ts=us))):=by
 unfold Bp
 rw[if_pos ⟨Sx ts,Sx us⟩,eZ]
theorem ZF (ts us:List Thing):BZ (.list (ts.map encD)) (.list (us.map encD))=some (.bool (!decide (ts=us))):=by
 unfold BZ
 rw[if_pos ⟨Sx ts,Sx us⟩,eZ]
theorem YM (t:Thing):Ft (encD t)=true:=by
 cases t with
 | none=>rfl
 | some kw=>obtain⟨k,w⟩:=kw;rfl
theorem Qf:∀ ts:List Thing,Em (ts.map encD)=true
 | []=>rfl
 | t::r=>by rw[List.map_cons,Xf,YM,Qf r];rfl
theorem xY (a b:List Int):Bp (.list (a.map PyData.int)) (.list (b.map PyData.int))=some (.bool (decide (a=b))):=by
 have sh:∀ l:List Int,PyData.canLayAll0 (l.map PyData.int)=true∧PyData.depthAll (l.map PyData.int)≤1:=by
  intro l
  induction l with
  | nil=>simp [PyData.canLayAll0,PyData.depthAll]
  | cons n r ih=>simp only[List.map_cons,PyData.canLayAll0,PyData.depthAll,PyData.canLay0,PyData.depth,ih.1,Bool.and_self,true_and];have:=ih.2;omega
 have sp:∀ l:List Int,SeqAt.shaped (.list (l.map PyData.int))=true:=fun l=>by
  unfold SeqAt.shaped
  simp only[PyData.canLay0,PyData.depth,(sh l).1,Bool.true_and]
  exact decide_eq_true (by have:=(sh l).2;omega)
 have ev:∀ a b:List Int,PyData.eqvAll (a.map PyData.int) (b.map PyData.int)=decide (a=b):=by
  intro a
  induction a with
  | nil=>intro b;cases b<;>simp [PyData.eqvAll]
  | cons x r ih =>
   intro b
   cases b with
   | nil=>simp [PyData.eqvAll]
   | cons y q=>simp only[List.map_cons,PyData.eqvAll,PyData.eqv,ih q];by_cases h1:x=y<;>by_cases h2:r=q<;>simp [h1,h2]
 unfold Bp
 rw[if_pos ⟨sp a,sp b⟩]
 simp only[PyData.eqv]
 rw[ev]
theorem Yz (a:List Int):Bp (.list (a.map PyData.int)) (.list [])=some (.bool (decide (a=[]))):=xY a []
theorem cL (a:List Thing):Bp (.list (a.map encD)) (.list [])=some (.bool (decide (a=[]))):=SJ a []
theorem AKk {j:Int}{k:Nat}(h0:0<j)(h:j≤Cj k)(hk:k≤1000):Wide j:=by
 refine⟨h0,?_⟩
 have e:Cj k=((10 ^ k:Nat):Int):=by
  show (10:Int) ^ k=_
  exact (Int.natCast_pow 10 k).symm
 rw[e] at h
 have h1:j.natAbs≤10 ^ k:=by omega
 have h2:(10:Nat) ^ k≤16 ^ k:=Nat.pow_le_pow_left (by decide) k
 have h3:(16:Nat) ^ k=2 ^ (4*k):=by rw[Nat.pow_mul]
 have h4:(2:Nat) ^ (4*k)<2 ^ (4*k+1):=Nat.pow_lt_pow_right (by decide) (by omega)
 have:j.natAbs.log2<4*k+1:=(Nat.log2_lt (by omega)).mpr (by omega)
 omega
noncomputable abbrev Et:=BR→Option (List (List D))
theorem Yi {O O':List Addr}{H H':Hp}(s:Aj H H')(hn:∀ b∈O',b∈O∨H b=none):Aj (Ah O H) (Ah O' H'):=fun b o e=>by
 obtain⟨n,e⟩:=GD e
 rw[Bw fun z=>(hn b z).elim n fun w=>by rw[e] at w;cases w]
 exact s b o e
noncomputable def Oo (K:Frag)(te:TE)(f:Et):Prop:=∀ (O:List Addr) (σ:St) (H:Hp) (ρ:BR) (dss:List (List D)) (Q:VK),Bu O H→Dm K (Ah O H) σ ρ→f ρ=some dss →
 (∀ a ps H',Aj H H'→(a::ps).Nodup→(∀ b∈a::ps,H b=none)→H' a=some (.lst (ps.map V.ref))→Inner K (Ah ((a::ps)++O) H') H' ps dss→Q (.ref a) H')→te σ H Q
structure JN (X:Cx)(K:Frag)(e:Expr)(te:TE)(f:Et):Prop where
 pe:PE X e te
 pu:Oo K te f
noncomputable def Oi (f:Et):BJ:=fun ρ=>(f ρ).bind fun dss=>some (dss.map .list)
section
variable {X:Cx}{K:Frag}
theorem Oo.l {te:TE}{f:Et}(h:Oo K te f):Iw K te (Oi f):=by
 intro O σ H ρ ds Q ok er hf q
 obtain⟨dss,e1,hf⟩:=Ag hf
 cases hf
 refine h O σ H ρ dss Q ok er e1 fun a ps H' s nd hn ha r=>q a _ H' s (hn a Bf) ha ?_
 refine r.full (DN fun b hb=>?_) fun b hb o e=>?_
 ·rcases List.mem_cons.mp hb with rfl | hb
  ·exact Cw Bf
  ·exact Bc hb
 ·rw[Bw ?_]
  ·exact e
  ·intro z
   rcases List.mem_cons.mp z with z | z
   ·exact (List.nodup_cons.mp nd).1 (by rw[← z];exact hb)
   ·exact ok.fresh (hn b (Bt hb)) z
theorem JN.jl {e:Expr}{te:TE}{f:Et}(j:JN X K e te f):JL X K e te (Oi f):=⟨j.pe,j.pu.l⟩
noncomputable def AFK (K:Frag)(t:TA)(f:Et):Prop:=∀ (O:List Addr) (σ:St) (H:Hp) (ρ:BR) (dss:List (List D)) (Q:List V→Hp→Prop),Bu O H→Dm K (Ah O H) σ ρ→f ρ=some dss →
 (∀ ps H',Aj H H'→ps.Nodup→(∀ b∈ps,H b=none)→Inner K (Ah (ps++O) H') H' ps dss→Q (ps.map V.ref) H')→t σ H Q
structure wK (X:Cx)(K:Frag)(es:List Expr)(t:TA)(f:Et):Prop where
 pe:PA X es t
 pu:AFK K t f
noncomputable def sG:Et:=fun _=>some []
noncomputable def mQ (a:BJ)(r:Et):Et:=fun ρ=>(a ρ).bind fun x=>(r ρ).bind fun xs=>some (x::xs)
noncomputable def Y5 (r:Et):Et:=fun ρ=>(r ρ).bind fun xs=>if fits xs.length=true then some xs else none
noncomputable def AHq (a b:PF):BJ:=fun ρ=>(a ρ).bind fun x=>(b ρ).bind fun y=>(Gk x).bind fun xs=>(Ez y).bind fun k=>if 0≤k∧k<2 ^ 20∧fits (xs.length*k.toNat)=true then some ((List.replicate k.toNat xs).flatten) else none
end
noncomputable def KZ (bd:D→BR→Option BR)(pt:PB)(fe:BJ)(ρ0:BR):List D→Option (List (List D))
 | []=>some []
 | d::ds=>(bd d ρ0).bind fun ρ1=>(pt ρ1).bind fun b=>if b=true then (fe ρ1).bind fun e=>(KZ bd pt fe ρ0 ds).bind fun r=>some (e::r) else KZ bd pt fe ρ0 ds
noncomputable def Fi (fi:BJ)(bd:D→BR→Option BR)(pt:PB)(fe:BJ)(n:Nat)(is:List Nat):Et:=fun ρ=>(fi ρ).bind fun items=>if fits items.length=true then KZ bd pt fe (compEnv n is ρ) items else none
section
variable {K:Frag}{wi:TI}{g:TG}{tc:TT}{te:TE}{fi:BJ}{bd:D→BR→Option BR}{pt:PB}{fe:BJ}
theorem Inner.snoc {G H:Hp}{p:Addr}{xs:List V}{ds:List D}(e:H p=some (.lst xs))(r:Ar K G xs ds):∀ {ps:List Addr}{dss:List (List D)},Inner K G H ps dss→Inner K G H (ps++[p]) (dss++[ds])
 | _,_,.nil=>.cons e r .nil
 | _,_,.cons e' r' t=>.cons e' r' (Inner.snoc e r t)
theorem gJ (hi:Su K wi fi)(hg:W6 K g bd)(ht:Kf K tc pt)(he:Iw K te fe)(n:Nat)(fv:List (Nat×Str)):Oo K (HN wi g tc te n fv) (Fi fi bd pt fe n (fv.map (·.1))):=by
 intro O σ H ρ total Q ok er hf q
 obtain⟨items,e1,hf⟩:=Ag hf
 by_cases hc:fits items.length=true
 case neg=>rw[if_neg hc] at hf;cases hf
 rw[if_pos hc] at hf
 refine hi O σ H ρ items _ ok er e1 fun J H1 s1 it=>fun D0 hD0=>?_
 have hlt:items.length<sizeLine:=of_decide_eq_true hc
 have okD:∀ {H':Hp}{ps:List Addr},H' D0≠none→(∀ a∈ps,∃ xs,H' a=some (.lst xs))→Aj H1 H'→Bu ((D0::ps)++O) H':=fun {H' ps} hn hp s' a ha=>by
  rcases List.mem_append.mp ha with ha | ha
  ·rcases List.mem_cons.mp ha with rfl | ha
   ·cases e:H' a with
    | none=>exact absurd e hn
    | some o=>exact⟨o,rfl⟩
   ·obtain⟨xs,e⟩:=hp a ha
    exact⟨_,e⟩
  ·exact ((ok.mono s1).mono s') a ha
 have sD:∀ {H':Hp}{ps:List Addr},Aj H1 H'→(∀ a∈ps,H1 a=none)→Aj (Ah O H1) (Ah ((D0::ps)++O) H'):=fun {H' ps} s' hp=>Yi s' fun b hb=>by
  rcases List.mem_append.mp hb with hb | hb
  ·rcases List.mem_cons.mp hb with rfl | hb
   ·exact .inr hD0
   ·exact .inr (hp b hb)
  ·exact .inl hb
 have er1:Dm K (Ah O H1) σ ρ:=er.Ah s1
 have Yd:(GF n fv σ).length=(compEnv n (fv.map (·.1)) ρ).length:=by simp [GF,compEnv]
 refine dD (n:=items.length) (fun i ys H'=>∃ ps es rest,ys=ps.map V.ref∧H' D0=some (.lst ys)∧Aj H1 H'∧ps.length≤i∧(D0::ps).Nodup∧(∀ b∈ps,H1 b=none)∧Inner K (Ah ((D0::ps)++O) H') H' ps es∧KZ bd pt fe (compEnv n (fv.map (·.1)) ρ) (items.drop i)=some rest∧es++rest=total)
  ⟨[],[],total,rfl,Cm,Aj.new hD0,Nat.zero_le _,by simp,(fun b h=>by cases h),.nil,by simpa using hf,rfl⟩ (fun i ys H' ⟨ps,es,rest,p⟩=>p.2.1)
  (fun i ys H' hi' ⟨ps,es,rest,p1,p2,p3,p4,p5,p6,p7,_⟩=>((it ((D0::ps)++O) H' (okD (by rw[p2];simp) p7.mem p3) (sD p3 p6)).1 i hi')) ?_ ?_
 ·rintro i ys H' x H'' hi' ⟨ps,es,rest,rfl,hD',s',hy,ndp,hpn,inn,hcp,htot⟩ yl
  have ok':Bu ((D0::ps)++O) H':=okD (by rw[hD'];simp) inn.mem s'
  obtain⟨d,ed,s'',rd⟩:=(it ((D0::ps)++O) H' ok' (sD s' hpn)).2.1 i x H'' hi' yl
  have hdrop:items.drop i=d::items.drop (i+1):=by
   rw[List.drop_eq_getElem_cons hi']
   congr 1
   exact Option.some.inj ((List.getElem?_eq_getElem hi').symm.trans ed)
  rw[hdrop] at hcp
  obtain⟨ρ1,eb,hcp⟩:=Ag hcp
  obtain⟨b,et,hcp⟩:=Ag hcp
  have s2:=s'.trans s''
  have Rf:=s'' _ _ hD'
  have ok2:Bu ((D0::ps)++O) H'':=ok'.mono s''
  refine hg ((D0::ps)++O) x d _ H'' _ ρ1 _ ok2 rd ((vV er1).mono (sD s2 hpn)) Yd eb fun σ2 hl2 er2=>?_
  refine ht ((D0::ps)++O) σ2 H'' ρ1 b _ ok2 er2 et fun H3 s3=>?_
  have s03:=s2.trans s3
  have hD3:=s3 _ _ Rf
  have aO:Inner K (Ah ((D0::ps)++O) H3) H3 ps es:=inn.mono (DQ (s''.trans s3)) fun a _ o e=>(s''.trans s3) a o e
  cases b with
  | false =>
   rw[if_neg Bool.false_ne_true] at hcp ⊢
   exact⟨ps,es,rest,rfl,hD3,s03,by omega,ndp,hpn,aO,hcp,htot⟩
  | true =>
   rw[if_pos rfl] at hcp ⊢
   obtain⟨e,ee,hcp⟩:=Ag hcp
   obtain⟨r,er',hcp⟩:=Ag hcp
   cases hcp
   refine he ((D0::ps)++O) σ2 H3 ρ1 e _ (ok2.mono s3) (er2.Ah s3) ee fun p xs H4 s4 hp3 hp4 rv=>?_
   have hD4:=s4 _ _ hD3
   have s04:=s03.trans s4
   have hpD:p≠D0:=fun z=>by rw[z,hD3] at hp3;cases hp3
   have AIu:p ∉ ps:=fun z=>by obtain⟨_,e⟩:=aO.mem p z;rw[hp3] at e;cases e
   refine⟨hD4,by rw[List.length_map];omega,ps++[p],es++[e],r,by simp,by simpa using Cm,?_,by rw[List.length_append];show ps.length+1≤i+1;omega,?_,?_,?_,er',by rw[List.append_assoc];exact htot⟩
   ·intro b' o' eb'
    rw[Bb (Cg eb' hD0)]
    exact s04 b' o' eb'
   ·have rY:=List.nodup_cons.mp ndp
    refine List.nodup_cons.mpr ⟨?_,?_⟩
    ·intro z
     rcases List.mem_append.mp z with z | z
     ·exact rY.1 z
     ·exact hpD (List.mem_singleton.mp z).symm
    ·refine List.nodup_append.mpr ⟨rY.2,List.nodup_cons.mpr ⟨by simp,List.nodup_nil⟩,fun a ha b hb z=>?_⟩
     rw[List.mem_singleton] at hb
     exact AIu (by rw[← hb,← z];exact ha)
   ·intro b hb
    rcases List.mem_append.mp hb with hb | hb
    ·exact hpn b hb
    ·rw[List.mem_singleton] at hb
     rw[hb]
     exact s03.free hp3
   ·have m0:D0∈(D0::(ps++[p]))++O:=by simp
    rw[Gz m0]
    refine Inner.snoc (xs:=xs) (by rw[Bb hpD];exact hp4) ?_ (aO.mono (Yi s4 fun b hb=>?_) fun a ha o e=>?_)
    ·refine rv.mono (DN fun b hb=>?_)
     simp only[List.cons_append,List.append_assoc,List.mem_cons,List.mem_append,List.not_mem_nil,or_false,false_or] at hb ⊢
     rcases hb with h | h | h | h
     ·exact .inr (.inl h)
     ·exact .inr (.inr (.inl h))
     ·exact .inl h
     ·exact .inr (.inr (.inr h))
    ·simp only[List.cons_append,List.append_assoc,List.mem_cons,List.mem_append,List.not_mem_nil,or_false,false_or] at hb ⊢
     rcases hb with h | h | h | h
     ·exact .inl (.inl h)
     ·exact .inl (.inr (.inl h))
     ·rw[h];exact .inr hp3
     ·exact .inl (.inr (.inr h))
    ·rw[Bb fun z=>(List.nodup_cons.mp ndp).1 (by rw[← z];exact ha)]
     exact s4 a o e
 ·rintro ys H' ⟨ps,es,rest,rfl,hD',s',hy,ndp,hpn,inn,hcp,htot⟩
  refine⟨(it ((D0::ps)++O) H' (okD (by rw[hD'];simp) inn.mem s') (sD s' hpn)).2.2,?_⟩
  rw[List.drop_length] at hcp
  cases hcp
  rw[List.append_nil] at htot
  subst htot
  refine q D0 ps H' (s1.trans s') ndp (fun b hb=>?_) hD' inn
  rcases List.mem_cons.mp hb with rfl | hb
  ·exact s1.free hD0
  ·exact s1.free (hpn b hb)
end
noncomputable def vN (f:Et):Af→Option Sl:=fun ρ=>(f (masked ρ)).bind fun dss=>some (.on dss)
section
variable {X:Cx}{K:Frag}
theorem dR {te:TE}{f:Et}(h:Oo K te f):Dg K te (vN f):=by
 intro H0 O0 G σ H ρ s Q ok t hf q
 obtain⟨d,e1,hf⟩:=Ag hf
 cases hf
 obtain⟨O,s0,n,nd,g,sl⟩:=t.ex
 have okA:=G5 ok s0 sl
 refine h (O0++O) σ H (masked ρ) d Q okA sl.mask e1 fun a ps H' s' nda hn ha r=>?_
 have big:Aj (Ah (O0++O) H) (Ah (O0++((a::ps)++O)) H'):=Yi s' fun b hb=>by
  rcases List.mem_append.mp hb with hb | hb
  ·exact .inl (Cw hb)
  ·rcases List.mem_append.mp hb with hb | hb
   ·exact .inr (hn b hb)
   ·exact .inl (Bc hb)
 refine q (.ref a) H' s' ⟨O,a::ps,s0.trans s',n,nd,g.trans big,sl.mono big fun b _ o e=>s' b o e,a,ps,rfl,rfl,nda,fun b hb=>⟨fun z=>okA.fresh (hn b hb) (Bc z),s0.free (hn b hb)⟩,ha,r.mono (DN fun b hb=>?_) fun _ _ _ e=>e⟩
 simp only[List.mem_append] at hb ⊢
 rcases hb with h | h | h<;>simp [h]
section
variable {i:Nat}{x:Str}{e:Expr}{te:TE}{pos pos':Pos}
theorem AHO {f:Et}(hN:X.N.Nodup)(hi:X.N[i]?=some x)(hx:Loc X.env.scope x)(he:JN X K e te f)(hs:swapsWith e (some (.Name x pos')) pos.line X.env=pure false:=by rfl)(hf:X.fn x=true∨X.env.scope.names.lookup x=some .local:=by first | exact .inl rfl | exact .inr rfl | assumption) :
  JS X K (.Assign [.Name x pos'] e pos) (Dq te (Df i)) (Aq i (vN f)):=K7 (Jl hN hi hx he.pe hs hf) (dR he.pu)
end
section
variable {tg elt iter:Expr}{ifs:List Expr}{scope:Scope}{wi:TI}{g:TG}{tc:TT}{te:TE}{fi:BJ}{bd:D→BR→Option BR}{pt:PB}{fe:BJ}
theorem z6 {pos:Pos}(own:List Str)(fv:List (Nat×Str))(hc:X.calm=true)(hi:JI X K tg iter wi fi)(fo:GX X scope fv)(gk:HW own.length g)(bg:∀ fp pins s H,JG (Cd X (own++fv.map (·.2)) scope (Dc X.env scope.names []) fp pins s H) K tg g bd)(bt:∀ fp pins s H,Hz (Cd X (own++fv.map (·.2)) scope (Dc X.env scope.names []) fp pins s H) K ifs tc pt)(be:∀ fp pins s H,JL (Cd X (own++fv.map (·.2)) scope (Dc X.env scope.names []) fp pins s H) K elt te fe)(kind:scope.kind=.function)(cell:∀ y∈scope.names,y.2≠.cell)(names:∀ x∈scope.names,x.2=.local→scope.names.lookup x.1=some .local)(free:freeOk X scope=true)(hs:∀ x,foldedSetIterable iter X.env x=pure x:=by intro _;rfl) :
  JN X K (.ListComp elt [⟨tg,iter,ifs,0⟩] scope pos) (HN wi g tc te own.length fv) (Fi fi bd pt fe own.length (fv.map (·.1))) :=
 ⟨cW own fv hc hi.pe fo gk (fun fp pins s H=>(bg fp pins s H).pe) (fun fp pins s H=>(bt fp pins s H).pe) (fun fp pins s H=>(be fp pins s H).pe) kind cell names free hs,
   gJ hi.pu (bg [] [] X.s₀ X.H₀).pu (bt [] [] X.s₀ X.H₀).pu (be [] [] X.s₀ X.H₀).pu _ _⟩
theorem AEh {pos spos py:Pos}{i:Nat}{y:Str}(own:List Str)(fv:List (Nat×Str))(hN:X.N.Nodup)(hy:X.N[i]?=some y)(hx:Loc X.env.scope y)(hc:X.calm=true)(hi:JI X K tg iter wi fi)(fo:GX X scope fv)(gk:HW own.length g)(bg:∀ fp pins s H,JG (Cd X (own++fv.map (·.2)) scope (Dc X.env scope.names []) fp pins s H) K tg g bd)(bt:∀ fp pins s H,Hz (Cd X (own++fv.map (·.2)) scope (Dc X.env scope.names []) fp pins s H) K ifs tc pt)(be:∀ fp pins s H,JL (Cd X (own++fv.map (·.2)) scope (Dc X.env scope.names []) fp pins s H) K elt te fe)(kind:scope.kind=.function)(cell:∀ y∈scope.names,y.2≠.cell)(names:∀ x∈scope.names,x.2=.local→scope.names.lookup x.1=some .local)(free:freeOk X scope=true)(hsw:swapsWith (.ListComp elt [⟨tg,iter,ifs,0⟩] scope pos) (some (.Name y py)) spos.line X.env=pure true)(hs:∀ x,foldedSetIterable iter X.env x=pure x:=by intro _;rfl)(hf:X.fn y=true∨X.env.scope.names.lookup y=some .local:=by first | exact Or.inl rfl | exact Or.inr rfl) :
  JS X K (.Assign [.Name y py] (.ListComp elt [⟨tg,iter,ifs,0⟩] scope pos) spos) (Dq (HN wi g tc te own.length fv) (Df i)) (Aq i (vN (Fi fi bd pt fe own.length (fv.map (·.1))))) :=
 K7 (qW own fv hN hy hx hc hi.pe fo gk (fun fp pins s H=>(bg fp pins s H).pe) (fun fp pins s H=>(bt fp pins s H).pe) (fun fp pins s H=>(be fp pins s H).pe) kind cell names free hsw hs hf)
  (dR (gJ hi.pu (bg [] [] X.s₀ X.H₀).pu (bt [] [] X.s₀ X.H₀).pu (be [] [] X.s₀ X.H₀).pu _ _))
end
theorem b7 (d:List (List D)):Sl.view (.on d)=some (.list (d.map .list)):=rfl
theorem uL (d:List (List D)):Sl.mask (.on d)=none:=rfl
noncomputable def Jc:Sl→Option (List (List D))
 | .on dss=>some dss
 | _=>none
theorem c7 (d:List (List D)):Jc (.on d)=some d:=rfl
theorem Q7 {s:Sl}{d:List (List D)}(h:Jc s=some d):s=.on d:=by
 cases s with
 | on e=>cases h;rfl
 | _=>cases h
noncomputable def M7 (i:Nat)(fi fj:PF)(vf:Af→Option Sl):Ai:=fun ρ=>(vf ρ).bind fun s=>(Gy s).bind fun d=>(fi (full ρ)).bind fun kd=>(Ez kd).bind fun k=>(fj (full ρ)).bind fun md=>(Ez md).bind fun m=>(ρ[i]?).bind fun s'=>(Jc s').bind fun dss =>
 (Ei dss.length k).bind fun u=>(dss[u]?).bind fun ds=>(Ei ds.length m).bind fun j=>some (.nx (ρ.set i (.on (dss.set u (ds.set j d)))))
noncomputable def Qq (K:Frag)(mk:List (List D)→Sl):Prop:=∀ {G H:Hp}{v:Option V}{B:List Addr}{dss:List (List D)},Head K G H v (mk dss) B→∃ a ps,v=some (.ref a)∧B=a::ps∧H a=some (.lst (ps.map V.ref))∧Inner K G H ps dss∧∀ {G' H':Hp}{uM:List (List D)},H' a=some (.lst (ps.map V.ref))→Inner K G' H' ps uM→Head K G' H' v (mk uM) B
theorem AIH:Qq K .on:=fun h=>by
 cases h with
 | on e i=>exact⟨_,_,rfl,rfl,e,i,fun e i=>.on e i⟩
theorem yX (a:Addr):Qq K (fun d=>.tr a (.nst d)):=fun h=>by
 cases h with
 | tn e i=>exact⟨_,_,rfl,rfl,e,i,fun e i=>.tn e i⟩
 | tr e=>exact e.elim
theorem Bk.getM {mk:List (List D)→Sl}(hmk:Qq K mk){H0:Hp}{O0:List Addr}{G:Hp}{σ:St}{H:Hp}{ρ:Af}{i:Nat}{dss:List (List D)}(t:Bk K H0 O0 G σ H ρ)(hi:ρ[i]?=some (mk dss)):∃ (a:Addr) (ps:List Addr),σ[i]?=some (some (.ref a))∧H a=some (.lst (ps.map V.ref))∧ps.length=dss.length:=by
 obtain⟨O,s0,n,nd,g,sl⟩:=t.ex
 obtain⟨v,B,h1,h2,_⟩:=sl.get hi
 obtain⟨a,ps,rfl,rfl,h4,h5,_⟩:=hmk h2
 exact⟨a,ps,h1,h4,h5.len⟩
theorem Bk.mH {mk:List (List D)→Sl}(hmk:Qq K mk){H0:Hp}{O0:List Addr}{G:Hp}{σ:St}{H:Hp}{ρ:Af}{v:V}{d:D}{i u:Nat}{dss:List (List D)}{ds:List D}{a:Addr}{ps:List Addr}(t:Ey K H0 O0 G σ H ρ v (.sh d))(hi:ρ[i]?=some (mk dss))(hu:dss[u]?=some ds)(h1:σ[i]?=some (some (.ref a)))(h4:H a=some (.lst (ps.map V.ref))) :
  ∃ p xs,ps[u]?=some p∧H p=some (.lst xs)∧xs.length=ds.length∧∀ j,Bk K H0 O0 G σ (upd H p (.lst (xs.set j v))) (ρ.set i (mk (dss.set u (ds.set j d)))):=by
 obtain⟨O,P,s0,n,nd,g,sl,rfl,r⟩:=t.ex
 obtain⟨v0,B,g1,g2,nB,h2,g5⟩:=sl.Ud nd hi
 obtain⟨a',ps',rfl,rfl,h4',h5,g6⟩:=hmk g2
 rw[h1] at g1
 cases g1
 cases Sq h4 h4'
 obtain⟨p,xs,q1,q2,q3⟩:=h5.get hu
 have hm:=List.mem_of_getElem? q1
 have hp:p∈O:=h2 p (Bt hm)
 have hpA:p∈O0++([]++O):=Bc hp
 have n':=List.nodup_cons.mp nB
 refine⟨p,xs,q1,q2,q3.length,fun j=>⟨O,fun b o e=>?_,n,nd,?_,?_⟩⟩
 ·rw[Bb (Cg e (n p hp))]
  exact s0 b o e
 ·rw[Gz (by simpa using hpA)]
  simpa using g
 ·rw[Gz (by simpa using hpA)]
  have:=g5 (H':=upd H p (.lst (xs.set j v))) (s':=mk (dss.set u (ds.set j d))) (fun b _ hb o e=>by rw[Bb fun z=>hb (by rw[z];exact Bt hm)];exact e) (g6 (by rw[Bb fun z=>n'.1 (by rw[z];exact hm)];exact h4) (h5.write (q3.set r j) n'.2 q1))
  simpa using this
theorem lR {mk:List (List D)→Sl}(hmk:Qq K mk){i:Nat}{te ti tj:TE}{fi fj:PF}{vf:Af→Option Sl}(pv:Dg K te vf)(hi:Fg K ti fi)(hj:Fg K tj fj){H0:Hp}{O0:List Addr}{G:Hp}{σ:St}{H:Hp}{ρ:Af}{E:Ends}{d kd md:D}{k m:Int}{dss:List (List D)}{u j:Nat}{ds:List D}(ok:Bu O0 H0)(s:Bk K H0 O0 G σ H ρ)(e1:vf ρ=some (.sh d))(e5:fi (full ρ)=some kd)(e6:Ez kd=some k)(e7:fj (full ρ)=some md)(e8:Ez md=some m)(e3:ρ[i]?=some (mk dss))(e9:Ei dss.length k=some u)(e10:dss[u]?=some ds)(e11:Ei ds.length m=some j)(q:∀ H',Bk K H0 O0 G σ H' (ρ.set i (mk (dss.set u (ds.set j d))))→E.nx σ H') :
  Dq te (JC (Fq (Ik K) (CJ i) ti) tj Ip) E σ H:=by
 refine pv H0 O0 G σ H ρ _ _ ok s e1 fun v H' s' sv=>?_
 obtain⟨a,ps,h1,h2,h3⟩:=sv.str.getM hmk e3
 refine⟨_,h1,?_⟩
 refine sv.str.Hy hi ok e5 fun vi H2 s2 t2 ri=>?_
 have sv2:=sv.grow s2
 have h22:=s2 _ _ h2
 obtain⟨p',xs',q1,q2,q3,_⟩:=Bk.mH hmk sv2 e3 e10 h1 h22
 have hvi:vi=.int k:=by
  cases ri with
  | int i=>cases e6;rfl
  | _=>cases e6
 subst hvi
 refine .inl ⟨a,_,k,.ref p',rfl,rfl,BP.of h22,?_,?_⟩
 ·unfold L2.Bj
  rw[List.length_map,h3,e9]
  show (ps.map V.ref)[u]?=_
  rw[List.getElem?_map,q1]
  rfl
 ·refine sv2.str.Hy hj ok e7 fun vj H3 s3 t3 rj=>?_
  have hvj:vj=.int m:=by
   cases rj with
   | int i=>cases e8;rfl
   | _=>cases e8
  subst hvj
  have sv3:=sv2.grow s3
  obtain⟨p2,xs2,w1,w2,w3,w4⟩:=Bk.mH hmk sv3 e3 e10 h1 (s3 _ _ h22)
  rw[q1] at w1
  cases w1
  exact⟨p',xs2,m,j,rfl,rfl,w2,by rw[w3];exact e11,q _ (w4 j)⟩
theorem AHM (i:Nat){x:Str}{e ix jx:Expr}{te ti tj:TE}{fi fj:PF}{vf:Af→Option Sl}{p DG spos pos:Pos}(he:PE X e te)(pv:Dg K te vf)(hK:X.K=K)(hi:JE X K ix ti fi)(hj:JE X K jx tj fj)(hsx:Kp ix)(hN:X.N[i]?=some x:=by rfl)(hv:Es X.env.scope x:=by first | exact Or.inl rfl | exact Or.inr (Or.inl rfl) | exact Or.inr (Or.inr rfl))(hd:(x == ("__debug__":Str))=false:=by decide)
  (hcd:(x == ("__classdict__":Str))=false:=by decide)
  (ha:∀ v,assign (.Subscript (.Subscript (.Name x p) ix DG) jx spos) X.env v=(do
   let ov ← holding [v] (eval (.Subscript (.Name x p) ix DG) X.env)
   let iv ← holding [v,ov] (eval jx X.env)
   standAt spos
   holding [v,ov,iv] (setItem ov iv v)
   release [v,ov,iv] []):=by intro _;rfl)
  (hs:swapsWithSole [.Subscript (.Subscript (.Name x p) ix DG) jx spos] e pos.line X.env=pure false:=by rfl) (hw:swappedStores [.Subscript (.Subscript (.Name x p) ix DG) jx spos] e X.env=pure none:=by rfl)
  (h1:(assignEach [.Subscript (.Subscript (.Name x p) ix DG) jx spos] X.env).map (·.2)=[assign (.Subscript (.Subscript (.Name x p) ix DG) jx spos) X.env]:=by rfl) :
  JS X K (.Assign [.Subscript (.Subscript (.Name x p) ix DG) jx spos] e pos) (Dq te (JC (Fq (Ik K) (CJ i) ti) tj Ip)) (M7 i fi fj vf):=⟨O5 he (Sd (by subst hK;exact Qd QG (G6 hN hv hd hcd) hi.pe hsx) hj.pe set_list ha) hs hw h1,by
 intro H0 O0 G σ H ρ o E ok s hf q
 obtain⟨sl,e1,hf⟩:=Ag hf
 obtain⟨d,e2,hf⟩:=Ag hf
 obtain⟨kd,e5,hf⟩:=Ag hf
 obtain⟨k,e6,hf⟩:=Ag hf
 obtain⟨md,e7,hf⟩:=Ag hf
 obtain⟨m,e8,hf⟩:=Ag hf
 obtain⟨sl2,e3,hf⟩:=Ag hf
 obtain⟨dss,e4,hf⟩:=Ag hf
 obtain⟨u,e9,hf⟩:=Ag hf
 obtain⟨ds,e10,hf⟩:=Ag hf
 obtain⟨j,e11,hf⟩:=Ag hf
 rw[Jf e2] at e1
 rw[Q7 e4] at e3
 cases hf
 exact lR AIH pv hi.pu hj.pu ok s e1 e5 e6 e7 e8 e3 e9 e10 e11 fun H' t=>q σ H' t⟩
noncomputable def Ug:Sl→Option (Addr×List (List D))
 | .tr a (.nst dss)=>some (a,dss)
 | _=>none
theorem AIn {s:Sl}{q:Addr×List (List D)}(h:Ug s=some q):s=.tr q.1 (.nst q.2):=by
 unfold Ug at h
 split at h
 ·cases h;rfl
 ·cases h
noncomputable def Qx (i:Nat)(fi fj:PF)(vf:Af→Option Sl):Ai:=fun ρ=>(vf ρ).bind fun s=>(Gy s).bind fun d=>(fi (full ρ)).bind fun kd=>(Ez kd).bind fun k=>(fj (full ρ)).bind fun md=>(Ez md).bind fun m=>(ρ[i]?).bind fun s'=>(Ug s').bind fun q =>
 (Ei q.2.length k).bind fun u=>(q.2[u]?).bind fun ds=>(Ei ds.length m).bind fun j=>some (.nx (ρ.set i (.tr q.1 (.nst (q.2.set u (ds.set j d))))))
theorem xF (i:Nat){x:Str}{e ix jx:Expr}{te ti tj:TE}{fi fj:PF}{vf:Af→Option Sl}{p DG spos pos:Pos}(he:PE X e te)(pv:Dg K te vf)(hK:X.K=K)(hi:JE X K ix ti fi)(hj:JE X K jx tj fj)(hsx:Kp ix)(hN:X.N[i]?=some x:=by rfl)(hv:Es X.env.scope x:=by first | exact Or.inl rfl | exact Or.inr (Or.inl rfl) | exact Or.inr (Or.inr rfl))(hd:(x == ("__debug__":Str))=false:=by decide)
  (hcd:(x == ("__classdict__":Str))=false:=by decide)
  (ha:∀ v,assign (.Subscript (.Subscript (.Name x p) ix DG) jx spos) X.env v=(do
   let ov ← holding [v] (eval (.Subscript (.Name x p) ix DG) X.env)
   let iv ← holding [v,ov] (eval jx X.env)
   standAt spos
   holding [v,ov,iv] (setItem ov iv v)
   release [v,ov,iv] []):=by intro _;rfl)
  (hs:swapsWithSole [.Subscript (.Subscript (.Name x p) ix DG) jx spos] e pos.line X.env=pure false:=by rfl) (hw:swappedStores [.Subscript (.Subscript (.Name x p) ix DG) jx spos] e X.env=pure none:=by rfl)
  (h1:(assignEach [.Subscript (.Subscript (.Name x p) ix DG) jx spos] X.env).map (·.2)=[assign (.Subscript (.Subscript (.Name x p) ix DG) jx spos) X.env]:=by rfl) :
  JS X K (.Assign [.Subscript (.Subscript (.Name x p) ix DG) jx spos] e pos) (Dq te (JC (Fq (Ik K) (CJ i) ti) tj Ip)) (Qx i fi fj vf):=⟨O5 he (Sd (by subst hK;exact Qd QG (G6 hN hv hd hcd) hi.pe hsx) hj.pe set_list ha) hs hw h1,by
 intro H0 O0 G σ H ρ o E ok s hf q
 obtain⟨sl,e1,hf⟩:=Ag hf
 obtain⟨d,e2,hf⟩:=Ag hf
 obtain⟨kd,e5,hf⟩:=Ag hf
 obtain⟨k,e6,hf⟩:=Ag hf
 obtain⟨md,e7,hf⟩:=Ag hf
 obtain⟨m,e8,hf⟩:=Ag hf
 obtain⟨sl2,e3,hf⟩:=Ag hf
 obtain⟨dss,e4,hf⟩:=Ag hf
 obtain⟨u,e9,hf⟩:=Ag hf
 obtain⟨ds,e10,hf⟩:=Ag hf
 obtain⟨j,e11,hf⟩:=Ag hf
 rw[Jf e2] at e1
 rw[AIn e4] at e3
 cases hf
 exact lR (yX _) pv hi.pu hj.pu ok s e1 e5 e6 e7 e8 e3 e9 e10 e11 fun H' t=>q σ H' t⟩
noncomputable def Q5 (i:Nat):Ai:=fun ρ=>(ρ[i]?).bind fun s=>(Jc s).bind fun dss=>some (.rn dss)
theorem AFN (i:Nat){x:Str}{p pos:Pos}(hN:X.N[i]?=some x:=by rfl)(hv:Es X.env.scope x:=by first | exact Or.inl rfl | exact Or.inr (Or.inl rfl) | exact Or.inr (Or.inr rfl))(hd:(x == ("__debug__":Str))=false:=by decide)
  (hcd:(x == ("__classdict__":Str))=false:=by decide):JS X K (.Return (some (.Name x p)) pos) (Ib (CJ i)) (Q5 i):=⟨M6 (G6 hN hv hd hcd),by
 intro H0 O0 G σ H ρ o E ok s hf q
 obtain⟨sl,e1,hf⟩:=Ag hf
 obtain⟨dss,e2,hf⟩:=Ag hf
 cases hf
 rw[Q7 e2] at e1
 obtain⟨O,s0,n,nd,g,sl⟩:=s.ex
 obtain⟨a,ps,h1,h2,h3,h4,h5⟩:=sl.V7 nd e1
 refine⟨_,h1,q a ps H s0 h3 (fun b hb=>n b (h2 b hb)) h4 (h5.mono (DN fun b hb=>?_) fun _ _ _ e=>e)⟩
 rcases List.mem_append.mp hb with hb | hb
 ·exact Bc (h2 b hb)
 ·exact Cw hb⟩
noncomputable def Yx (f:Et):Ai:=fun ρ=>(f (full ρ)).bind fun d=>some (.rn d)
noncomputable def Qk (K:Frag)(n:Nat)(f:List D→Option (List (List D))):Sp:=fun vs H Q _=>vs.length=n∧∃ (O:List Addr) (ds:List D) (ess:List (List D)),Bu O H∧Ar K (Ah O H) vs ds∧f ds=some ess ∧
 ∀ a ps H',Aj H H'→(a::ps).Nodup→(∀ b∈a::ps,H b=none)→H' a=some (.lst (ps.map V.ref))→Inner K (Ah ((a::ps)++O) H') H' ps ess→Q (.ref a) H'
noncomputable def xW:Out→Option (List (List D))
 | .rn dss=>some dss
 | _=>none
noncomputable def runN (n m:Nat)(F:Ai):List D→Option (List (List D)):=fun ds=>if ds.length=n then (F (Gr m ds)).bind xW else none
theorem ADr (n m:Nat)(F:Ai):KJ n (runN n m F):=fun ds a h=>by
 unfold runN at h
 by_cases hc:ds.length=n
 ·exact hc
 ·rw[if_neg hc] at h;cases h
noncomputable def NZ (f:List D→Option (List (List D)))(r:BJ):Et:=fun ρ=>(r ρ).bind f
theorem AHz {k n:Nat}{x:Str}{ps:List Str}{p pos:Pos}{e:Expr}{es:List Expr}{t:TA}{r:BJ}{f:List D→Option (List (List D))}(C:Callee X.prog X.w X.K X.mg X.base k x ps (Qk K n f))(hf:KJ n f)(hr:Cy k X.A)(hg:Gl X x)(ha:JA X K (e::es) t r)(hdb:(x == ("__debug__":Str))=false:=by decide)
  (hst:starEach (e::es) X.env=(false,eval e X.env)::starEach es X.env:=by rfl) (hpl:(backTo pos (starEach es X.env)).any (·.1)=false:=by rfl):JN X K (.Call (.Name x p) (e::es) [] pos) (JH (Qk K n f) [] E0 t) (NZ f r):=⟨Qp C hr hg ha.pe hdb hst hpl,by
 intro O σ H ρ d Q ok er h q
 obtain⟨ds,e1,h⟩:=Ag h
 refine ha.pu O σ H ρ ds _ ok er e1 fun vs H1 s1 r1=>?_
 rw[List.append_nil]
 exact⟨by rw[r1.length];exact hf ds d h,O,ds,d,ok.mono s1,r1,h,fun a ps H' s' nd hn ha' rv=>q a ps H' (s1.trans s') nd (fun b hb=>s1.free (hn b hb)) ha' rv⟩⟩
end
section
variable {P:Program}{w:World}{K:Frag}{mg:Str→Option Value}{base:Heap}
theorem Def.eX {x:Str}{st:Stmt}{N ps:List Str}{k n m:Nat}{F:Ai}{fn:List D→Option (List (List D))}(hfn:fn=runN n m F)(D:Def K mg x st ps)(S:K1 N ps (Dj st))(hn:ps.length=n)(hm:N.length=m) (hb:∀ (f:Addr) (cdv:Value) (A:Around) (outer:List Env) (s:Shared) (H:Hp) (E:XK),Cy k (A.deeper (envOfC x (Dj st) s.heap.objs.size f cdv)) →
   ∃ t,Dd (IW Hd P w K mg base N x (Dj st) f cdv A outer s H E).Jr K (Gq st) t F):Callee P w K mg base (k+1) x ps (Qk K n fn):=by
 subst hfn hm
 refine D.ok S (fun vs H Q E h=>by rw[h.1,hn]) fun f cdv A outer s H vs Q E hr h=>?_
 obtain⟨t,j⟩:=hb f cdv A outer s H E hr
 refine⟨t,j.pe,?_⟩
 obtain⟨hl,O,ds,d,ok,r,hf,q⟩:=h
 have hl2:ds.length=n:=by rw[← r.length];exact hl
 unfold runN at hf
 rw[if_pos hl2] at hf
 obtain⟨o,e1,hf⟩:=Ag hf
 refine j.pu H O (Ah O H) _ H _ o _ ok (Vl r N) e1 ?_
 cases o with
 | rn es=>cases hf;exact fun a ps H' s' nd hn' ha r'=>q a ps H' s' nd hn' ha r'
 | rl ess=>cases hf
 | rp _ _=>cases hf
 | ro d e=>cases hf
 | nx ρ=>cases hf
 | rt d'=>cases hf
 | bk ρ=>cases hf
 | ct ρ=>cases hf
end
noncomputable def uW (i:Nat):Ai:=fun ρ=>(ρ[i]?).bind fun s=>(Jc s).bind fun _=>some (.nx (ρ.set i .no))
noncomputable def jT (i:Nat)(fi:PF):Ai:=fun ρ=>(fi (full ρ)).bind fun kd=>(Ez kd).bind fun k=>(ρ[i]?).bind fun s=>(Jc s).bind fun dss=>(Ei dss.length k).bind fun u=>(dss[u]?).bind fun _=>some (.nx (ρ.set i (.on (dss.set u []))))
noncomputable def pW (i j:Nat):Ai:=fun ρ=>(ρ[i]?).bind fun s=>(Jc s).bind fun _=>if j<ρ.length∧j≠i then some (.nx ((ρ.set i .no).set j .no)) else none
section
variable {X:Cx}{K:Frag}
theorem AIU (i:Nat){x:Str}{e ix jx:Expr}{te ti tj:TE}{f fi fj:PF}{p DG spos pos:Pos}(he:JE X K e te f)(hK:X.K=K)(hi:JE X K ix ti fi)(hj:JE X K jx tj fj)(hsx:Kp ix)(hN:X.N[i]?=some x:=by rfl)(hv:Es X.env.scope x:=by first | exact Or.inl rfl | exact Or.inr (Or.inl rfl) | exact Or.inr (Or.inr rfl))(hd:(x == ("__debug__":Str))=false:=by decide)
  (hcd:(x == ("__classdict__":Str))=false:=by decide)
  (ha:∀ v,assign (.Subscript (.Subscript (.Name x p) ix DG) jx spos) X.env v=(do
   let ov ← holding [v] (eval (.Subscript (.Name x p) ix DG) X.env)
   let iv ← holding [v,ov] (eval jx X.env)
   standAt spos
   holding [v,ov,iv] (setItem ov iv v)
   release [v,ov,iv] []):=by intro _;rfl)
  (hs:swapsWithSole [.Subscript (.Subscript (.Name x p) ix DG) jx spos] e pos.line X.env=pure false:=by rfl) (hw:swappedStores [.Subscript (.Subscript (.Name x p) ix DG) jx spos] e X.env=pure none:=by rfl)
  (h1:(assignEach [.Subscript (.Subscript (.Name x p) ix DG) jx spos] X.env).map (·.2)=[assign (.Subscript (.Subscript (.Name x p) ix DG) jx spos) X.env]:=by rfl) :
  JS X K (.Assign [.Subscript (.Subscript (.Name x p) ix DG) jx spos] e pos) (Dq te (JC (Fq (Ik K) (CJ i) ti) tj Ip)) (M7 i fi fj (vS f)):=AHM i he.pe (Hr he.pu) hK hi hj hsx hN hv hd hcd ha hs hw h1
end
noncomputable def Ow (fi:BJ)(bs:D→Af→Option Af)(F:Ai):Ai:=fun ρ=>(fi (full ρ)).bind fun items=>Bx bs F items ρ
section
variable {X:Cx}{K:Frag}{pos:Pos}
theorem AJ0 {J:It}{g:TG}{tb:TS}{bs:D→Af→Option Af}{F:Ai}{items:List D}{H0:Hp}{O0:List Addr}{G:Hp}{σ:St}{H1:Hp}{ρ:Af}{o:Out}{E:Ends}(it:Oh K G J items)(hg:Vk K g bs)(hb:Mg K tb F)(ok:Bu O0 H0)(t1:Bk K H0 O0 G σ H1 ρ)(hf:Bx bs F items ρ=some o)(q:vW K H0 O0 G E o) :
  ∃ W:Nat→Nat→St→Hp→Prop,(∃ m,W 0 m σ H1)∧∀ i m σ H,W i m σ H →
   (J.stop i H∧E.nx σ H)∨(J.go i H∧∃ N:St→Hp→Prop,(∀ σ' H',N σ' H'→∃ m',m'<m∧W (i+1) m' σ' H')∧∀ x H',J.yld i H x H'→g x σ H' fun σ2 H2=>tb { E with nx:=N,ct:=N,bk:=E.nx } σ2 H2):=by
 refine⟨fun i m σ H=>m=items.length-i∧i≤items.length∧∃ ρi,Bk K H0 O0 G σ H ρi∧Bx bs F (items.drop i) ρi=some o,⟨items.length,by simp,Nat.zero_le _,ρ,t1,by simpa using hf⟩,?_⟩
 rintro i m σ' H' ⟨rfl,hil,ρi,ti,hfi⟩
 obtain⟨O',s0',n',nd',g',sl'⟩:=ti.ex
 have I:=it (O0++O') H' (G5 ok s0' sl') g'
 by_cases hlt:i<items.length
 ·refine .inr ⟨I.1 i hlt,fun σ' H'=>∃ ρ',Bk K H0 O0 G σ' H' ρ'∧Bx bs F (items.drop (i+1)) ρ'=some o,fun σ2 H2 ⟨ρ',t',h'⟩=>⟨items.length-(i+1),by omega,rfl,hlt,ρ',t',h'⟩,fun x H'' y=>?_⟩
  obtain⟨d,ed,s'',rd⟩:=I.2.1 i x H'' hlt y
  have hdrop:items.drop i=d::items.drop (i+1):=by
   rw[List.drop_eq_getElem_cons hlt]
   congr 1
   exact Option.some.inj ((List.getElem?_eq_getElem hlt).symm.trans ed)
  rw[hdrop] at hfi
  obtain⟨ρ1,eb,hfi⟩:=Ag hfi
  obtain⟨o1,eo,hfi⟩:=Ag hfi
  have sv:Ey K H0 O0 G σ' H'' ρi x (.sh d):=⟨O',[],s0'.trans s'',n',nd',g'.trans (DQ s''),sl'.mono (DQ s'') fun a _ o e=>s'' a o e,rfl,rd⟩
  refine hg H0 O0 _ σ' H'' ρi x d ρ1 _ sv eb fun σ2 t2=>?_
  refine hb H0 O0 _ σ2 H'' ρ1 o1 _ ok t2 eo ?_
  cases o1 with
  | nx ρ'=>exact fun σ3 H3 t3=>⟨ρ',t3,hfi⟩
  | ct ρ'=>exact fun σ3 H3 t3=>⟨ρ',t3,hfi⟩
  | bk ρ'=>cases hfi;exact fun σ3 H3 t3=>q σ3 H3 t3
  | rt d=>cases hfi;exact q
  | rl d=>cases hfi;exact q
  | rn d=>cases hfi;exact q
  | rp d e=>cases hfi;exact q
  | ro d e=>cases hfi;exact q
 ·have e:i=items.length:=by omega
  subst e
  rw[List.drop_length] at hfi
  cases hfi
  exact .inl ⟨I.2.2,q σ' H' ti⟩
theorem yC {tg a:Expr}{ta:TA}{r:BJ}{body:List Stmt}{g:TG}{tb:TS}{bs:D→Af→Option Af}{F:Ai}{p pos':Pos}(hp:PassesOwn (model X.prog X.w) X.A X.env X.xe)(hc:X.calm=true)(hgl:Gl X "range")(hm:X.mg "range"=none)(ha:JA X K [a] ta r)(hg:K4 X K tg g bs)(hb:Dd X K body tb F)(hst:starEach [a] X.env=[(false,eval a X.env)]:=by rfl)(hs:∀ x,foldedSetIterable (.Call (.Name "range" p) [a] [] pos') X.env x=pure x:=by intro _;rfl) :
  JS X K (.For tg (.Call (.Name "range" p) [a] [] pos') body [] pos) (VJ (Xo ta) g tb) (Ow (Az Dn r) bs F):=⟨vH hp hc (cI hgl hm ha.pe hst) hg.pe hb.pe hs,by
 intro H0 O0 G σ H ρ o E ok s hf q
 obtain⟨items,e1,hf⟩:=Ag hf
 obtain⟨ds,e2,e1⟩:=Ag e1
 have ⟨o1,e3⟩:=s.HR ok
 refine ha.pu O0 σ H (full ρ) ds _ o1 e3 e2 fun vs H1 s1 r1=>?_
 unfold Dn at e1
 split at e1
 ·rename_i j
  obtain⟨v,rfl,rv⟩:=rep1 r1
  cases rv
  by_cases hc:-(2 ^ 62)≤j∧j<2 ^ 62
  ·rw[if_pos hc] at e1
   cases e1
   exact⟨j,rfl,hc.1,hc.2,AJ0 Zc hg.pu hb.pu ok (s.grow s1) hf q⟩
  ·rw[if_neg hc] at e1
   cases e1
 ·cases e1⟩
end
end L2
set_option hygiene false
local macro_rules | `(tactic| walk_at "pu") => `(tactic| simp only [L2.Ak, L2.M7, L2.vN, L2.Q5, L2.Yx, L2.NZ, L2.Oi, L2.mQ, L2.sG, L2.Y5, L2.uW, L2.jT, L2.pW, L2.b7, L2.uL, L2.c7, L2.Aq, L2.vS, L2.vF, L2.vL, L2.Jv, L2.Hb, L2.Fx, L2.Ab, L2.IV, L2.Aa, L2.Ad, L2.Av, L2.JP, L2.Fo, L2.Jp, L2.DK, L2.QC, L2.Ma, L2.aZ, L2.V8, L2.K6, L2.Ae, L2.Ac, L2.BV, L2.CK, L2.Ax, L2.Am, L2.Az, L2.f9, L2.Bs, L2.El, L2.Je, L2.Vt, L2.CN, L2.CQ, L2.cR, L2.Jh, L2.Ir, L2.uC, L2.Fd, L2.JQ, L2.Ea, L2.G9, L2.Be, L2.bW, L2.Iz, L2.Wk, L2.full, L2.masked, L2.lU,
 List.map_cons,List.map_nil,List.cons_append,List.nil_append,List.length_cons,List.length_nil,List.length_map,Nat.reduceAdd,Nat.reduceSub,Nat.zero_add,List.replicate_succ,List.replicate_zero,List.set_cons_succ,List.set_cons_zero,L2.cH,L2.oF,List.getElem?_cons_zero,List.getElem?_cons_succ,Option.join_some,
 L2.pG,L2.p8,L2.rO,L2.Z4,L2.dM,L2.Xg,L2.Gb,L2.jY,Option.map_some,L2.rH,L2.lK,L2.bO,L2.pB,L2.uZ,L2.kO,L2.cP,L2.kZ,L2.nM,L2.vC,L2.qO,L2.nZ,L2.Nq,L2.dH,L2.tW,L2.uE,L2.mU,L2.iW,L2.dX,L2.d8,L2.wA,L2.rD,L2.fD,L2.uO,L2.fZ,
 L2.uD,L2.dY,L2.gF,L2.fX,L2.uN,L2.tQ,L2.dF,L2.tL,L2.nG,L2.fV,L2.jG,L2.mK,L2.pD,L2.pL,L2.d7,L2.Xf,Bool.and_self,Bool.true_and,L2.lW,L2.uI,if_true,if_false,Bool.not_true,Bool.not_false,Bool.false_eq_true,L2.cY,L2.lD,decide_true,decide_false,Bool.or_true,Bool.true_or,Bool.or_self,Bool.or_false,Bool.false_or,Bool.and_true,Bool.and_false,Bool.false_and,and_self,and_true,true_and,not_true_eq_false,not_false_eq_true,true_or,or_true,L2.Kr,L2.Nx,L2.iC,L2.dW,L2.mW,L2.pM,L2.jW,L2.iM,L2.oK,L2.fW,L2.sI,eq_self,L2.Yz,L2.cL,L2.iT,L2.o7,L2.oR,L2.Ur,L2.PN,L2.uB,L2.cZ,L2.SJ,L2.ZF,L2.YM,L2.Qf,Int.reduceLT,Int.reduceLE,Nat.reduceLT,Nat.reduceLeDiff,Int.reduceNeg,Int.reduceAdd,Int.reduceSub,Int.reduceMul,Nat.lt_irrefl, *])
set_option hygiene true
namespace LL
open PySem L2
noncomputable def Q4:Ai:=(Ak (CN (Av (Ab Er (Aa 1) (Am Bm (Ac (Aa 0) Ae))))
   (Bs (Ab Al (Aa 0) (Aa 1))) CQ)
  (Bs (Ad (.int 0))))
noncomputable def Rj:List D→Option D:=Cz 2 2 Q4
noncomputable def Vd:Ai:=(Ak (Aq 1 (vS (Ab Ba (Ab CZ (Ab CG (Ab Ba (Aa 0) (Ad (.int 2147483629))) (Ad (.int 1))) (Ad (.int 1103515245))) (Ad (.int 2147483629)))))
  (Bs (Ab CG (Ab Ba (Ab CZ (Aa 1) (Aa 1)) (Ad (.int 2147483587))) (Ab CZ (Ab Ba (Aa 0) (Ab Fy (Ad (.int 10)) (Ad (.int 50)))) (Ad (.int 2147483587))))))
noncomputable def JX:List D→Option D:=Cz 1 2 Vd
noncomputable def Sy:Ai:=(Ak (Aq 2 (vS (Ab Ba (Ab CZ (Ab CG (Ab Ba (Aa 0) (Ad (.int 2147483629))) (Ad (.int 1))) (Ad (.int 1103515245))) (Ad (.int 2147483629)))))
  (Ak (Aq 2 (vS (Ab Ba (Ab CG (Ab CG (Ab CZ (Aa 2) (Aa 2)) (Ab CZ (Aa 1) (Ad (.int 69621)))) (Ad (.int 12345))) (Ad (.int 2147483587)))))
  (Bs (Ab Ba (Ab CZ (Aa 2) (Aa 2)) (Ad (.int 2147483629))))))
noncomputable def Qh:List D→Option D:=Cz 2 3 Sy
noncomputable def Z5:Ai:=(Bs (Ab Al (Ax (CK (Ac (Ad (.int 1)) (Ac (Ad (.int 2)) (Ac (Ad (.int 4)) (Ac (Ad (.int 8)) (Ac (Ad (.int 16)) Ae))))))) (Aa 0)))
noncomputable def Hu:List D→Option D:=Cz 1 1 Z5
noncomputable def tw (h:Int):Int:=2 ^ h.toNat
theorem Qu {h:Int}(h0:0≤h)(h4:h≤4):(h=0∧tw h=1)∨(h=1∧tw h=2)∨(h=2∧tw h=4)∨(h=3∧tw h=8)∨(h=4∧tw h=16):=by
 have:h=0∨h=1∨h=2∨h=3∨h=4:=by omega
 rcases this with rfl | rfl | rfl | rfl | rfl
 ·exact .inl ⟨rfl,rfl⟩
 ·exact .inr (.inl ⟨rfl,rfl⟩)
 ·exact .inr (.inr (.inl ⟨rfl,rfl⟩))
 ·exact .inr (.inr (.inr (.inl ⟨rfl,rfl⟩)))
 ·exact .inr (.inr (.inr (.inr ⟨rfl,rfl⟩)))
structure Bd (t w st:Int):Prop where
 t0:0≤t
 t4:t≤4
 s1:1≤st
 lo:st*(t+2)≤w
 hi:w≤20
theorem Bd.w1 {t w st:Int}(b:Bd t w st):1≤w:=by
 have:st*1≤st*(t+2):=Int.mul_le_mul_of_nonneg_left (by have:=b.t0;omega) (by have:=b.s1;omega)
 have:=b.lo;have:=b.s1;omega
noncomputable def keysOf (ts:List Thing):List Int:=ts.filterMap fun t=>t.map (·.1)
noncomputable def Dr (ts:List Thing):Prop:=(keysOf ts).Pairwise (· < ·)
theorem Hx {α:Type}(xs:List α){i:Int}(h0:0≤i)(h1:i<xs.length):∃ v,v∈xs∧Bj xs i=some v:=by
 obtain⟨j,rfl⟩:∃ j:Nat,i=(j:Int):=⟨i.toNat,by omega⟩
 have hj:j<xs.length:=by omega
 exact⟨xs[j],List.getElem_mem hj,by rw[G8];simp [hj]⟩
theorem o9 (ns:List Int){k:Int}(hk:0≤k):∃ c,Rj [.list (ns.map .int),.int k]=some (.int c):=by
 by_cases h:k<(ns.map PyData.int).length
 ·obtain⟨v,hv,ev⟩:=Hx (ns.map PyData.int) hk h
  obtain⟨c,_,rfl⟩:=List.mem_map.mp hv
  refine⟨c,Dl (o:=.rt (.int c)) rfl ?_ rfl⟩
  rw[List.length_map] at h
  clear hv
  unfold Q4
  walk_at "pu"
 ·refine⟨0,Dl (o:=.rt (.int 0)) rfl ?_ rfl⟩
  rw[List.length_map] at h
  unfold Q4
  walk_at "pu"
theorem FJ (a:Int){b:Int}(h:0<b):0≤a % b∧a % b<b:=⟨Int.emod_nonneg _ (Int.ne_of_gt h),Int.emod_lt_of_pos _ h⟩
theorem Mp (c:Int):∃ z,JX [.int c]=some (.int z)∧0≤z:=by
 have h1:=FJ ((c % 2147483629+1)*1103515245) (b:=2147483629) (by decide)
 have s1:-18446744073709551616<(c % 2147483629+1)*1103515245 % 2147483629∧(c % 2147483629+1)*1103515245 % 2147483629<18446744073709551616:=⟨by omega,by omega⟩
 refine⟨(c % 2147483629+1)*1103515245 % 2147483629*((c % 2147483629+1)*1103515245 % 2147483629) % 2147483587+c % Cj 50*2147483587,Dl (o:=.rt (.int _)) rfl ?_ rfl,?_⟩
 ·unfold Vd
  walk_at "pu"
 ·have:=FJ ((c % 2147483629+1)*1103515245 % 2147483629*((c % 2147483629+1)*1103515245 % 2147483629)) (b:=2147483587) (by decide)
  have:=FJ c (b:=Cj 50) (Nq _)
  omega
theorem Yu (c k:Int):∃ z,Qh [.int c,.int k]=some (.int z)∧0≤z:=by
 have h1:=FJ ((c % 2147483629+1)*1103515245) (b:=2147483629) (by decide)
 have s1:-18446744073709551616<(c % 2147483629+1)*1103515245 % 2147483629∧(c % 2147483629+1)*1103515245 % 2147483629<18446744073709551616:=⟨by omega,by omega⟩
 generalize hn:(c % 2147483629+1)*1103515245 % 2147483629=n at *
 have h2:=FJ (n*n+k*69621+12345) (b:=2147483587) (by decide)
 have s2:-18446744073709551616<(n*n+k*69621+12345) % 2147483587∧(n*n+k*69621+12345) % 2147483587<18446744073709551616:=⟨by omega,by omega⟩
 refine⟨(n*n+k*69621+12345) % 2147483587*((n*n+k*69621+12345) % 2147483587) % 2147483629,Dl (o:=.rt (.int _)) rfl ?_ rfl,(FJ _ (by decide)).1⟩
 unfold Sy
 walk_at "pu"
theorem Pq {h:Int}(h0:0≤h)(h4:h≤4):Hu [.int h]=some (.int (tw h)):=by
 rcases Qu h0 h4 with⟨rfl,e⟩ | ⟨rfl,e⟩ | ⟨rfl,e⟩ | ⟨rfl,e⟩ | ⟨rfl,e⟩<;>rw[e]<;>rfl
noncomputable def Hq:Ai:=(Ak (CN (Fo (Av (Ab BZ (Aa 3) (BV Ae))) (Av (Ab Bp (Aa 3) (Aa 1))))
    (Bs (Aa 2)) CQ)
   (CN (Av (Ab BZ (Aa 3) (BV Ae)))
    (Aq 1 (vS (Aa 3))) CQ))
noncomputable def Qv:Ai:=(Ak (Aq 1 (vS (BV Ae)))
  (Ak (Eu (Az HX (Ac (Aa 0) Ae)) (Eb 2 3) Hq)
  (Bs (Ad .none))))
noncomputable def Qw:List D→Option D:=Cz 1 4 Qv
noncomputable def S5:Ai:=(Ir 2 (Aa 3) (vS (Aa 4)))
noncomputable def UL:Ai:=(Ak (Aq 2 (vL (Az G4 (Ac (Aa 0) Ae))))
  (Ak (Eu (Be (Aa 1)) (Eb 3 4) S5)
  (Je 2)))
noncomputable def M4:List D→Option (List D):=Dt 2 5 UL
noncomputable def Ue:Ai:=(Ak (Aq 1 (vS (Am Qw (Ac (Aa 0) Ae))))
  (Ak (CN (Av (Ab Kr (Aa 1) (Ad .none)))
   (El (Az G4 (Ac (Aa 0) Ae))) CQ)
  (El (Az M4 (Ac (Aa 0) (Ac (Ax (CK (Ac (BV (Ac (Aa 1) (Ac (BV Ae) Ae))) Ae))) Ae))))))
noncomputable def ZQ:List D→Option (List D):=Dt 1 2 Ue
noncomputable def R6:Ai:=(El (BX (Be (Ax (Az ZQ (Ac (Aa 0) Ae)))) (Bg 0) (Av (Ab BZ (Aa 0) (BV Ae))) (Aa 0) 1 []))
noncomputable def Rv:List D→Option (List D):=Dt 1 1 R6
noncomputable def T5:Ai:=(Bs (Am Bm (Ac (Ax (BX (Az HX (Ac (Aa 0) Ae)) (J0 0 1) (Fo (Av (K6 Kq Er (Aa 2) (Aa 0) (Aa 3))) (Av (Ab BZ (Aa 1) (BV Ae)))) (Aa 1) 2 [1,2])) Ae)))
noncomputable def Nh:List D→Option D:=Cz 3 3 T5
noncomputable def things (ts:List Thing):List (Int×Int):=ts.filterMap id
theorem Hj (ts:List Thing):keysOf ts=(things ts).map (·.1):=by
 unfold keysOf things
 rw[List.map_filterMap]
 rfl
theorem Ge (a b:List Thing):things (a++b)=things a++things b:=List.filterMap_append
theorem AJu (x:Int×Int)(a:List Thing):things (some x::a)=x::things a:=rfl
theorem Tj (a b:List Thing):keysOf (a++b)=keysOf a++keysOf b:=List.filterMap_append
theorem ADX (a:List Thing):keysOf (none::a)=keysOf a:=rfl
theorem AJJ (x:Int×Int)(a:List Thing):keysOf (some x::a)=x.1::keysOf a:=rfl
theorem J6 {n j:Nat}(h:j<n):Ei n (j:Int)=some j:=by
 unfold Ei
 rw[if_pos (by omega),if_pos (by omega)]
 simp
noncomputable def By (q:Nat×Thing):D:=.tuple [.int (q.1:Nat),encD q.2]
noncomputable def doneF (ts:List Thing)(ws:List (Nat×Thing)):List Thing:=ws.foldl (fun l q=>l.set q.1 q.2) ts
theorem vA (ts:List Thing)(ws:List (Nat×Thing))(h:∀ q∈ws,q.1<ts.length):M4 [.list (ts.map encD),.list (ws.map By)]=some ((doneF ts ws).map encD):=by
 have loop:=aW (bs:=Eb 3 4) (F:=S5) By (fun (us:List Thing) ρ=>us.length=ts.length∧∃ s3 s4,ρ=[.sh (.list (ts.map encD)),.sh (.list (ws.map By)),.ow (us.map encD),s3,s4]) (fun l q=>l.set q.1 q.2) ws ?_ ts
  [.sh (.list (ts.map encD)),.sh (.list (ws.map By)),.ow (ts.map encD),.no,.no] ⟨rfl,.no,.no,rfl⟩
 ·obtain⟨ρ',hf,_,s3,s4,rfl⟩:=loop
  refine FN rfl ?_
  unfold UL
  refine Aw (ρ':=[.sh (.list (ts.map encD)),.sh (.list (ws.map By)),.ow (ts.map encD),.no,.no]) (by walk_at "pu") ?_
  exact Aw ((GJ (items:=ws.map By) (by walk_at "pu")).trans hf) (by walk_at "pu";rfl)
 ·rintro us ρ q hq ⟨hl,s3,s4,rfl⟩
  have hi:=J6 (n:=ts.length) (j:=q.1) (h q hq)
  refine⟨_,[.sh (.list (ts.map encD)),.sh (.list (ws.map By)),.ow ((us.map encD).set q.1 (encD q.2)),.sh (.int (q.1:Nat)),.sh (encD q.2)],rfl,?_,by simp [hl],.sh (.int (q.1:Nat)),.sh (encD q.2),by rw[List.map_set]⟩
  unfold S5
  walk_at "pu"
noncomputable def FW (last:Thing):Nat→List Thing→Option Nat
 | _,[]=>none
 | i,none::r=>FW last (i+1) r
 | i,some x::r=>if some x=last then some i else FW (some x) (i+1) r
noncomputable def Z7:Option Nat→D
 | none=>.none
 | some n=>.int (n:Nat)
theorem Y6 (L:D):∀ (ts:List Thing) (i:Nat) (last:Thing) (s2 s3:Sl),
  match FW last i ts with
  | some p=>Bx (Eb 2 3) Hq (((ts.map encD).zipIdx i).map fun p=>.tuple [.int (p.2:Nat),p.1]) [.sh L,.sh (encD last),s2,s3]=some (.rt (.int (p:Nat)))
  | none=>∃ l' s2' s3',Bx (Eb 2 3) Hq (((ts.map encD).zipIdx i).map fun p=>.tuple [.int (p.2:Nat),p.1]) [.sh L,.sh (encD last),s2,s3]=some (.nx [.sh L,.sh l',s2',s3'])
 | [],i,last,s2,s3=>⟨_,_,_,rfl⟩
 | none::r,i,last,s2,s3=>by
  have ih:=Y6 L r (i+1) last (.sh (.int (i:Nat))) (.sh (encD none))
  have step:Bx (Eb 2 3) Hq ((((none::r).map encD).zipIdx i).map fun p=>.tuple [.int (p.2:Nat),p.1]) [.sh L,.sh (encD last),s2,s3]=Bx (Eb 2 3) Hq (((r.map encD).zipIdx (i+1)).map fun p=>.tuple [.int (p.2:Nat),p.1]) [.sh L,.sh (encD last),.sh (.int (i:Nat)),.sh (encD none)]:=by
   rw[List.map_cons,List.zipIdx_cons,List.map_cons]
   refine HY rfl ?_
   unfold Hq
   walk_at "pu"
  rw[step]
  exact ih
 | some x::r,i,last,s2,s3=>by
  by_cases hx:some x=last
  ·have e:FW last i (some x::r)=some i:=if_pos hx
   rw[e]
   show Bx _ _ _ _=_
   rw[List.map_cons,List.zipIdx_cons,List.map_cons]
   refine RC rfl ?_
   have hn:¬ some x=none:=by simp
   subst hx
   unfold Hq
   walk_at "pu"
  ·have e:FW last i (some x::r)=FW (some x) (i+1) r:=if_neg hx
   rw[e]
   have ih:=Y6 L r (i+1) (some x) (.sh (.int (i:Nat))) (.sh (encD (some x)))
   have step:Bx (Eb 2 3) Hq ((((some x::r).map encD).zipIdx i).map fun p=>.tuple [.int (p.2:Nat),p.1]) [.sh L,.sh (encD last),s2,s3]=Bx (Eb 2 3) Hq (((r.map encD).zipIdx (i+1)).map fun p=>.tuple [.int (p.2:Nat),p.1]) [.sh L,.sh (encD (some x)),.sh (.int (i:Nat)),.sh (encD (some x))]:=by
    rw[List.map_cons,List.zipIdx_cons,List.map_cons]
    refine HY rfl ?_
    have hn:¬ some x=none:=by simp
    clear ih e
    unfold Hq
    walk_at "pu"
   rw[step]
   exact ih
theorem AHj (ts:List Thing):Qw [.list (ts.map encD)]=some (Z7 (FW none 0 ts)):=by
 have lp:=Y6 (.list (ts.map encD)) ts 0 none .no .no
 have hb:Qv (Gr 4 [.list (ts.map encD)])=(Bx (Eb 2 3) Hq (((ts.map encD).zipIdx 0).map fun p=>.tuple [.int (p.2:Nat),p.1]) [.sh (.list (ts.map encD)),.sh (encD none),.no,.no]).bind fun o=>match o with
   | .nx ρ'=>Bs (Ad .none) ρ'
   | .rt d=>some (.rt d)
   | .rl d=>some (.rl d)
   | .rn d=>some (.rn d)
   | .rp d e=>some (.rp d e)
   | .ro d e=>some (.ro d e)
   | .bk ρ'=>some (.bk ρ')
   | .ct ρ'=>some (.ct ρ'):=by
  unfold Qv
  refine Aw (ρ':=[.sh (.list (ts.map encD)),.sh (.tuple []),.no,.no]) (by walk_at "pu") ?_
  unfold Ak
  rw[GJ (items:=Gf (ts.map encD)) (by walk_at "pu")]
  rfl
 cases hs:FW none 0 ts with
 | some p =>
  rw[hs] at lp
  have lp':Bx _ _ _ _=_:=lp
  refine Dl rfl (hb.trans ?_) (o:=.rt (.int (p:Nat))) rfl
  rw[lp']
  rfl
 | none =>
  rw[hs] at lp
  obtain⟨l',s2',s3',lp⟩:=lp
  refine Dl rfl (hb.trans ?_) (o:=.rt .none) rfl
  rw[lp]
  rfl
theorem AIj (ts:List Thing):∀ (i:Nat) (last:Thing) (p:Nat),FW last i ts=some p→i≤p∧p<i+ts.length:=by
 induction ts with
 | nil=>intro i last p h;cases h
 | cons t r ih =>
  intro i last p h
  cases t with
  | none=>have:=ih (i+1) last p h;simp;omega
  | some x =>
   unfold FW at h
   by_cases hx:some x=last
   ·rw[if_pos hx] at h;cases h;simp
   ·rw[if_neg hx] at h;have:=ih (i+1) (some x) p h;simp;omega
noncomputable def J8 (ts:List Thing):List Thing:=match FW none 0 ts with
 | none=>ts
 | some p=>ts.set p none
theorem AFl (ts:List Thing):ZQ [.list (ts.map encD)]=some ((J8 ts).map encD):=by
 have hs:=AHj ts
 refine FN rfl ?_
 unfold Ue J8
 cases h:FW none 0 ts with
 | none =>
  rw[h] at hs
  have hs':Qw [.list (ts.map encD)]=some .none:=hs
  clear hs
  walk_at "pu"
 | some p =>
  rw[h] at hs
  have hs':Qw [.list (ts.map encD)]=some (.int (p:Nat)):=hs
  have hd:M4 [.list (ts.map encD),.list [.tuple [.int (p:Nat),.tuple []]]]=some ((ts.set p none).map encD):=vA ts [(p,none)] fun q hq=>by
   rw[List.mem_singleton.mp hq]
   have:=AIj ts 0 none p h
   show p<_
   omega
  clear hs
  walk_at "pu"
noncomputable def Fj (t:Thing):Bool:=!decide (t=none)
theorem AEJ (ts:List Thing)(hl:ts.length<16777216):Rv [.list (ts.map encD)]=some (((J8 ts).filter Fj).map encD):=by
 refine FN rfl ?_
 have hm:=AFl ts
 have hl2:(J8 ts).length<16777216:=by
  unfold J8
  split
  ·exact hl
  ·simpa using hl
 unfold R6 El
 rw[HF (items:=(J8 ts).map encD) (by walk_at "pu") (by simpa using hl2)]
 rw[Ii encD Fj encD]
 ·rfl
 ·intro t _
  refine⟨_,rfl,?_,fun _=>rfl⟩
  show Av _ [some (encD t)]=some (!decide (t=none))
  walk_at "pu"
noncomputable instance (ts:List Thing):Decidable (Dr ts):=inferInstanceAs (Decidable ((keysOf ts).Pairwise (· < ·)))
theorem AGc {α:Type}(f:α→D)(xs:List α)(lo hi:Option Int):∃ ys:List α,cutD (xs.map f) lo hi=ys.map f∧ys.length≤xs.length:=by
 refine⟨(xs.drop (HT.DY xs.length 0 lo)).take (HT.DY xs.length xs.length hi-HT.DY xs.length 0 lo),?_,?_⟩
 ·unfold cutD
  rw[List.length_map,List.map_take,List.map_drop]
 ·rw[List.length_take,List.length_drop]
  omega
theorem Mr (ts:List Thing)(hl:ts.length<16777216){fi:BJ}{ρ:BR}(h:fi ρ=some (ts.map encD)):BX fi (Bg 0) (Av (Ab BZ (Aa 0) (BV Ae))) (Aa 0) 1 [] ρ=some ((ts.filter Fj).map encD):=by
 rw[HF h (by simpa using hl),Ii encD Fj encD]
 intro t _
 refine⟨_,rfl,?_,fun _=>rfl⟩
 show Av _ [some (encD t)]=some (!decide (t=none))
 walk_at "pu"
noncomputable abbrev Pr:=Int×Int
noncomputable abbrev PP:=List (Nat×Pr)
noncomputable def Ao:Nat→List Thing→PP
 | _,[]=>[]
 | k,none::r=>Ao (k+1) r
 | k,some x::r=>(k,x)::Ao (k+1) r
noncomputable def Hf (a:Nat)(x:Pr):PP→PP
 | []=>[(a,x)]
 | (p,y)::r=>if a<p then (a,x)::(p,y)::r else if a=p then (a,x)::r else (p,y)::Hf a x r
theorem Ec:∀ (s:List Thing) (k:Nat),∀ p∈Ao k s,k≤p.1∧p.1<k+s.length
 | [],k,p,h=>by cases h
 | none::r,k,p,h=>by
  have:=Ec r (k+1) p h
  simp;omega
 | some x::r,k,p,h=>by
  rcases List.mem_cons.mp h with rfl | h
  ·simp
  ·have:=Ec r (k+1) p h
   simp;omega
theorem Ox:∀ (s:List Thing) (k:Nat),(Ao k s).Pairwise (fun a b=>a.1<b.1)
 | [],_=>.nil
 | none::r,k=>Ox r (k+1)
 | some x::r,k=>.cons (fun p hp=>by have:=Ec r (k+1) p hp;show k<p.1;omega) (Ox r (k+1))
theorem HJ:∀ (s:List Thing) (k:Nat),(Ao k s).map (·.2)=things s
 | [],_=>rfl
 | none::r,k=>HJ r (k+1)
 | some x::r,k=>by
  show x::(Ao (k+1) r).map (·.2)=x::things r
  rw[HJ r (k+1)]
theorem Lb:∀ (s:List Thing) (k j:Nat) (x:Pr),s[j]?=some (some x) ↔ (k+j,x)∈Ao k s
 | [],k,j,x=>by simp [Ao]
 | none::r,k,0,x=>by
  constructor
  ·intro h;simp at h
  ·intro h;have:=Ec r (k+1) _ h;simp at this;omega
 | none::r,k,j+1,x=>by
  have:=Lb r (k+1) j x
  have e:k+1+j=k+(j+1):=by omega
  rw[e] at this
  rw[List.getElem?_cons_succ]
  exact this
 | some y::r,k,0,x=>by
  constructor
  ·intro h;simp at h;subst h;exact Bf
  ·intro h
   rcases List.mem_cons.mp h with h | h
   ·have:x=y:=(Prod.mk.inj h).2
    rw[this];rfl
   ·have:=Ec r (k+1) _ h;simp at this;omega
 | some y::r,k,j+1,x=>by
  have:=Lb r (k+1) j x
  have e:k+1+j=k+(j+1):=by omega
  rw[e] at this
  rw[List.getElem?_cons_succ,this]
  constructor
  ·intro h;exact Bt h
  ·intro h
   rcases List.mem_cons.mp h with h | h
   ·have:=(Prod.mk.inj h).1;omega
   ·exact h
theorem vR {k j:Nat}:∀ (ps:PP),(∀ p∈ps,k+j<p.1∨p.1<k+j)→ps.filter (fun p=>decide (p.1≠k+j))=ps:=fun ps h =>
 List.filter_eq_self.mpr fun p hp=>by
  have:=h p hp
  exact decide_eq_true (by omega)
theorem Xj:∀ (s:List Thing) (k j:Nat),Ao k (s.set j none)=(Ao k s).filter (fun p=>decide (p.1≠k+j))
 | [],k,j=>rfl
 | none::r,k,0=>by
  rw[List.set_cons_zero]
  show Ao (k+1) r=(Ao (k+1) r).filter _
  rw[vR (k:=k) (j:=0) (Ao (k+1) r) fun p hp=>by have:=Ec r (k+1) p hp;omega]
 | none::r,k,j+1=>by
  rw[List.set_cons_succ]
  show Ao (k+1) (r.set j none)=(Ao (k+1) r).filter _
  rw[Xj r (k+1) j]
  have e:k+1+j=k+(j+1):=by omega
  rw[e]
 | some x::r,k,0=>by
  rw[List.set_cons_zero]
  show Ao (k+1) r=((k,x)::Ao (k+1) r).filter _
  rw[List.filter_cons_of_neg (by simp),vR (k:=k) (j:=0) (Ao (k+1) r) fun p hp=>by have:=Ec r (k+1) p hp;omega]
 | some x::r,k,j+1=>by
  rw[List.set_cons_succ]
  show (k,x)::Ao (k+1) (r.set j none)=((k,x)::Ao (k+1) r).filter _
  rw[List.filter_cons_of_pos (by simp),Xj r (k+1) j]
  have e:k+1+j=k+(j+1):=by omega
  rw[e]
theorem dJ {a:Nat}{x:Pr}:∀ {ps:PP},(∀ p∈ps,a<p.1)→Hf a x ps=(a,x)::ps
 | [],_=>rfl
 | (p,y)::r,h=>by
  have:=h (p,y) Bf
  unfold Hf
  rw[if_pos this]
theorem Tz:∀ (s:List Thing) (k j:Nat) (x:Pr),j<s.length→Ao k (s.set j (some x))=Hf (k+j) x (Ao k s)
 | [],k,j,x,h=>by simp at h
 | none::r,k,0,x,h=>by
  rw[List.set_cons_zero]
  show (k,x)::Ao (k+1) r=Hf (k+0) x (Ao (k+1) r)
  rw[dJ fun p hp=>by have:=Ec r (k+1) p hp;omega]
  rfl
 | none::r,k,j+1,x,h=>by
  rw[List.set_cons_succ]
  show Ao (k+1) (r.set j (some x))=Hf _ x (Ao (k+1) r)
  rw[Tz r (k+1) j x (by simpa using h)]
  have e:k+1+j=k+(j+1):=by omega
  rw[e]
 | some y::r,k,0,x,h=>by
  rw[List.set_cons_zero]
  show (k,x)::Ao (k+1) r=Hf (k+0) x ((k,y)::Ao (k+1) r)
  unfold Hf
  rw[if_neg (by omega),if_pos (by omega)]
  rfl
 | some y::r,k,j+1,x,h=>by
  rw[List.set_cons_succ]
  show (k,y)::Ao (k+1) (r.set j (some x))=Hf _ x ((k,y)::Ao (k+1) r)
  rw[Tz r (k+1) j x (by simpa using h)]
  have e:k+1+j=k+(j+1):=by omega
  rw[e]
  conv=>rhs;unfold Hf
  rw[if_neg (by omega),if_neg (by omega)]
theorem Ut:∀ (s t:List Thing) (k:Nat),s.length=t.length→Ao k s=Ao k t→s=t
 | [],[],_,_,_=>rfl
 | [],_::_,_,h,_=>by simp at h
 | _::_,[],_,h,_=>by simp at h
 | a::r,b::q,k,h,e=>by
  have hl:r.length=q.length:=by simpa using h
  cases a with
  | none=>cases b with
   | none=>rw[Ut r q (k+1) hl e]
   | some y =>
    have e':Ao (k+1) r=(k,y)::Ao (k+1) q:=e
    have:(k,y)∈Ao (k+1) r:=by rw[e'];exact Bf
    have:=Ec r (k+1) _ this
    simp at this;omega
  | some x=>cases b with
   | none =>
    have e':(k,x)::Ao (k+1) r=Ao (k+1) q:=e
    have:(k,x)∈Ao (k+1) q:=by rw[← e'];exact Bf
    have:=Ec q (k+1) _ this
    simp at this;omega
   | some y =>
    have e':(k,x)::Ao (k+1) r=(k,y)::Ao (k+1) q:=e
    have h1:=List.cons.inj e'
    have h2:=(Prod.mk.inj h1.1).2
    rw[h2,Ut r q (k+1) hl h1.2]
theorem Ry {a:Nat}{x:Pr}:∀ {L R:PP},(∀ p∈L,p.1<a)→(∀ p∈R,a<p.1)→Hf a x (L++R)=L++(a,x)::R
 | [],R,_,h=>dJ h
 | (p,y)::r,R,h,h2=>by
  have:=h (p,y) Bf
  rw[List.cons_append]
  unfold Hf
  rw[if_neg (show ¬ a<p by simp at this;omega),if_neg (show ¬ a=p by simp at this;omega),Ry (fun q hq=>h q (Bt hq)) h2]
  rfl
theorem oE {c:Nat}{x:Pr}{L R:PP}(hL:∀ p∈L,p.1≠c)(hR:∀ p∈R,p.1≠c):(L++(c,x)::R).filter (fun p=>decide (p.1≠c))=L++R:=by
 rw[List.filter_append,List.filter_cons_of_neg (by simp),List.filter_eq_self.mpr fun p hp=>decide_eq_true (hL p hp),List.filter_eq_self.mpr fun p hp=>decide_eq_true (hR p hp)]
structure Mv (s:List Thing)(c a:Nat)(x:Pr)(L R:PP):Prop where
 eq:Ao 0 s=L++(c,x)::R
 ne:c≠a
 lt:a<s.length
 lo:∀ p∈L,p.1<c∧p.1<a
 hi:∀ p∈R,c<p.1∧a<p.1
theorem Mv.first {s:List Thing}{c a:Nat}{x:Pr}{L R:PP}(m:Mv s c a x L R):Ao 0 (s.set a (some x))=if c<a then L++(c,x)::(a,x)::R else L++(a,x)::(c,x)::R:=by
 have:=Tz s 0 a x m.lt
 rw[Nat.zero_add] at this
 rw[this,m.eq]
 by_cases h:c<a
 ·rw[if_pos h]
  have e:L++(c,x)::R=(L++[(c,x)])++R:=by simp
  rw[e,Ry]
  ·simp
  ·intro p hp
   rcases List.mem_append.mp hp with hp | hp
   ·exact (m.lo p hp).2
   ·rw[List.mem_singleton.mp hp];exact h
  ·exact fun p hp=>(m.hi p hp).2
 ·rw[if_neg h,Ry]
  ·exact fun p hp=>(m.lo p hp).2
  ·intro p hp
   rcases List.mem_cons.mp hp with rfl | hp
   ·have:=m.ne;show a<c;omega
   ·exact (m.hi p hp).2
theorem Mv.both {s:List Thing}{c a:Nat}{x:Pr}{L R:PP}(m:Mv s c a x L R):Ao 0 ((s.set a (some x)).set c none)=L++(a,x)::R:=by
 have:=Xj (s.set a (some x)) 0 c
 rw[Nat.zero_add] at this
 rw[this,m.first]
 have hne:=m.ne
 have hL:∀ p∈L,p.1≠c:=fun p hp=>by have:=m.lo p hp;omega
 have hR:∀ p∈R,p.1≠c:=fun p hp=>by have:=m.hi p hp;omega
 by_cases h:c<a
 ·rw[if_pos h]
  rw[oE hL (R:=(a,x)::R)]
  intro p hp
  rcases List.mem_cons.mp hp with rfl | hp
  ·show a≠c;omega
  ·exact hR p hp
 ·rw[if_neg h]
  have e:L++(a,x)::(c,x)::R=(L++[(a,x)])++(c,x)::R:=by simp
  rw[e,oE _ hR]
  ·simp
  ·intro p hp
   rcases List.mem_append.mp hp with hp | hp
   ·exact hL p hp
   ·rw[List.mem_singleton.mp hp];show a≠c;omega
theorem Mv.free {s:List Thing}{c a:Nat}{x:Pr}{L R:PP}(m:Mv s c a x L R):s[a]?=some none:=by
 have ha:=m.lt
 cases h:s[a]? with
 | none=>have:=List.getElem?_eq_none_iff.mp h;omega
 | some t =>
  cases t with
  | none=>rfl
  | some y =>
   have:=(Lb s 0 a y).mp h
   rw[Nat.zero_add,m.eq] at this
   have hne:=m.ne
   rcases List.mem_append.mp this with h1 | h1
   ·have:=m.lo _ h1;simp at this
   ·rcases List.mem_cons.mp h1 with h1 | h1
    ·have:=(Prod.mk.inj h1).1;omega
    ·have:=m.hi _ h1;simp at this
noncomputable abbrev Tr:=Nat×Nat×Pr
noncomputable def Du (l:List Tr):List Tr:=(l.filter fun t=>decide (t.1<t.2.1)).reverse
noncomputable def Ed (l:List Tr):List Tr:=l.filter fun t=>decide (t.2.1<t.1)
noncomputable def Hk (l:List Tr):PP:=l.map fun t=>(t.1,t.2.2)
noncomputable def HQ (l:List Tr):PP:=l.map fun t=>(max t.1 t.2.1,t.2.2)
noncomputable def at2 (l:List Tr):PP:=l.map fun t=>(t.2.1,t.2.2)
noncomputable def NQ (s:List Thing)(t:Tr):List Thing:=(s.set t.2.1 (some t.2.2)).set t.1 none
inductive Run (P:List Thing→Tr→Prop):List Thing→List Tr→List Thing→Prop
 | nil (s:List Thing):Run P s [] s
 | cons {s s':List Thing}{t:Tr}{l:List Tr}:P s t→Run P (NQ s t) l s'→Run P s (t::l) s'
theorem Run.append {P:List Thing→Tr→Prop}{s s' s'':List Thing}{l l':List Tr}(a:Run P s l s')(b:Run P s' l' s''):Run P s (l++l') s'':=by
 induction a with
 | nil=>exact b
 | cons p _ ih=>exact .cons p (ih b)
noncomputable def Gn (s:List Thing)(t:Tr):Prop:=∃ L R,Mv s t.1 t.2.1 t.2.2 L R
noncomputable def Up (l:List Tr):Prop:=l.Pairwise fun a b=>a.1<b.1∧a.2.1<b.2.1
theorem pP (s:List Thing)(t:Tr):(NQ s t).length=s.length:=by simp [NQ]
theorem jN:∀ (l:List Tr) (L:PP) (s:List Thing),Ao 0 s=L++Hk l→Up l→(∀ t∈l,t.2.1<s.length)→(∀ p∈L,∀ t∈l,p.1<t.1)→∃ s',Run Gn s (Du l) s'∧Ao 0 s'=L++HQ l∧s'.length=s.length
 | [],L,s,h,_,_,_=>⟨s,.nil s,h,rfl⟩
 | t::r,L,s,h,hu,hl,hL=>by
  have hu':=List.pairwise_cons.mp hu
  obtain⟨s1,r1,p1,l1⟩:=jN r (L++[(t.1,t.2.2)]) s (by rw[h];simp [Hk]) hu'.2 (fun u hu=>hl u (Bt hu)) (fun p hp u hu=>by
   rcases List.mem_append.mp hp with hp | hp
   ·exact hL p hp u (Bt hu)
   ·rw[List.mem_singleton.mp hp];exact (hu'.1 u hu).1)
  by_cases ht:t.1<t.2.1
  ·have hm:Mv s1 t.1 t.2.1 t.2.2 L (HQ r):=⟨by rw[p1];simp,by omega,by rw[l1];exact hl t Bf,fun p hp=>by have:=hL p hp t Bf;omega,fun p hp=>by
    obtain⟨u,hu,rfl⟩:=List.mem_map.mp hp
    have:=hu'.1 u hu
    show t.1<max u.1 u.2.1∧t.2.1<max u.1 u.2.1
    omega⟩
   refine⟨NQ s1 t,?_,?_,by rw[pP,l1]⟩
   ·have e:Du (t::r)=Du r++[t]:=by
     unfold Du
     rw[List.filter_cons_of_pos (by simpa using ht),List.reverse_cons]
    rw[e]
    exact r1.append (.cons ⟨L,HQ r,hm⟩ (.nil _))
   ·show Ao 0 ((s1.set t.2.1 (some t.2.2)).set t.1 none)=_
    rw[hm.both]
    simp only[HQ,List.map_cons]
    have e:max t.1 t.2.1=t.2.1:=by omega
    rw[e]
  ·refine⟨s1,?_,?_,l1⟩
   ·have e:Du (t::r)=Du r:=by
     unfold Du
     rw[List.filter_cons_of_neg (by simpa using ht)]
    rw[e]
    exact r1
   ·rw[p1]
    simp only[HQ,List.map_cons,List.append_assoc,List.cons_append,List.nil_append]
    have e:max t.1 t.2.1=t.1:=by omega
    rw[e]
theorem mY:∀ (l:List Tr) (L:PP) (s:List Thing),Ao 0 s=L++HQ l→Up l→(∀ t∈l,t.2.1<s.length)→(∀ p∈L,∀ t∈l,p.1<t.2.1)→∃ s',Run Gn s (Ed l) s'∧Ao 0 s'=L++at2 l∧s'.length=s.length
 | [],L,s,h,_,_,_=>⟨s,.nil s,h,rfl⟩
 | t::r,L,s,h,hu,hl,hL=>by
  have hu':=List.pairwise_cons.mp hu
  have next:∀ s1:List Thing,Ao 0 s1=L++(t.2.1,t.2.2)::HQ r→s1.length=s.length→∃ s',Run Gn s1 (Ed r) s'∧Ao 0 s'=L++at2 (t::r)∧s'.length=s.length:=fun s1 h1 l1=>by
   obtain⟨s',r1,p1,l2⟩:=mY r (L++[(t.2.1,t.2.2)]) s1 (by rw[h1];simp) hu'.2 (fun u hu=>by rw[l1];exact hl u (Bt hu)) (fun p hp u hu=>by
    rcases List.mem_append.mp hp with hp | hp
    ·exact hL p hp u (Bt hu)
    ·rw[List.mem_singleton.mp hp];exact (hu'.1 u hu).2)
   exact⟨s',r1,by rw[p1];simp [at2],by rw[l2,l1]⟩
  by_cases ht:t.2.1<t.1
  ·have e1:max t.1 t.2.1=t.1:=by omega
   have hm:Mv s t.1 t.2.1 t.2.2 L (HQ r):=⟨by rw[h];simp only[HQ,List.map_cons,e1],by omega,hl t Bf,fun p hp=>by have:=hL p hp t Bf;omega,fun p hp=>by
    obtain⟨u,hu,rfl⟩:=List.mem_map.mp hp
    have:=hu'.1 u hu
    show t.1<max u.1 u.2.1∧t.2.1<max u.1 u.2.1
    omega⟩
   obtain⟨s',r1,p1,l1⟩:=next (NQ s t) hm.both (pP s t)
   refine⟨s',?_,p1,l1⟩
   have e:Ed (t::r)=t::Ed r:=by
    unfold Ed
    rw[List.filter_cons_of_pos (by simpa using ht)]
   rw[e]
   exact .cons ⟨L,HQ r,hm⟩ r1
  ·have e1:max t.1 t.2.1=t.2.1:=by omega
   obtain⟨s',r1,p1,l1⟩:=next s (by rw[h];simp only[HQ,List.map_cons,e1]) rfl
   refine⟨s',?_,p1,l1⟩
   have e:Ed (t::r)=Ed r:=by
    unfold Ed
    rw[List.filter_cons_of_neg (by simpa using ht)]
   rw[e]
   exact r1
theorem ABu (l:List Tr)(s:List Thing)(h:Ao 0 s=Hk l)(hu:Up l)(hl:∀ t∈l,t.2.1<s.length):∃ s',Run Gn s (Du l++Ed l) s'∧Ao 0 s'=at2 l∧s'.length=s.length:=by
 obtain⟨s1,r1,p1,l1⟩:=jN l [] s (by rw[h];rfl) hu hl (fun p hp=>by cases hp)
 obtain⟨s2,r2,p2,l2⟩:=mY l [] s1 (by rw[p1]) hu (fun t ht=>by rw[l1];exact hl t ht) (fun p hp=>by cases hp)
 exact⟨s2,r1.append r2,by rw[p2];rfl,by rw[l2,l1]⟩
noncomputable def Li:Ai:=(CN (Fo (Av (Ab BZ (Aa 2) (BV Ae))) (Jp (Av (Ab Bp (Aa 1) (Ax (CK Ae)))) (Av (Ab BZ (Ab Al (Aa 1) (IV Jx (Ad (.int 1)))) (Aa 2)))))
    (Jh 1 (vS (Aa 2))) CQ)
noncomputable def Tg:Ai:=(Ak (Aq 1 (vL (CK Ae)))
  (Ak (Eu (Be (Aa 0)) (Ek 2) Li)
  (Je 1)))
noncomputable def Qm:List D→Option (List D):=Dt 1 3 Tg
noncomputable def Pn:Ai:=(CN (Av (Ab Kq (Ab Al (Ab Al (Aa 1) (Aa 2)) (Ad (.int 0))) (Ab Al (Ab Al (Aa 1) (Ab Cr (Aa 2) (Ad (.int 1)))) (Ad (.int 0)))))
    (Bs (Ad (.bool false))) CQ)
noncomputable def bR:Ai:=(Ak (Aq 1 (vS (Ax (Az Qm (Ac (Aa 0) Ae)))))
  (Ak (Eu (Az Im (Ac (Ad (.int 1)) (Ac (Am Bm (Ac (Aa 1) Ae)) Ae))) (Ek 2) Pn)
  (Bs (Ab Kq (Am Bm (Ac (Ax (BX (Be (Aa 0)) (Bg 0) (Av (Ab BZ (Aa 0) (BV Ae))) (Aa 0) 1 [])) Ae)) (Ab CG (Am Bm (Ac (Aa 1) Ae)) (Ad (.int 1)))))))
noncomputable def XF:List D→Option D:=Cz 1 3 bR
noncomputable def Rp:Ai:=(Ak (Aq 1 (vS (Am JX (Ac (Aa 0) Ae))))
  (Ak (Aq 2 (vS (Ab Al (Ax (CK (Ac (Ad (.int 0)) (Ac (Ad (.int 1)) (Ac (Ad (.int 1)) (Ac (Ad (.int 2)) (Ac (Ad (.int 2)) (Ac (Ad (.int 2)) (Ac (Ad (.int 3)) (Ac (Ad (.int 4)) Ae)))))))))) (Ab Ba (Aa 1) (Ad (.int 8))))))
  (Ak (Aq 3 (vS (Ab CG (Ad (.int 1)) (Ab Ba (Ab CP (Aa 1) (Ad (.int 8))) (Ab CP (Ad (.int 9)) (Ab CG (Aa 2) (Ad (.int 2))))))))
  (Ak (Aq 4 (vS (Ab Ba (Ab CP (Aa 1) (Ad (.int 320))) (Ab Al (Ax (CK (Ac (Ad (.int 3)) (Ac (Ab Al (Ax (CK (Ac (Ad (.int 9)) (Ac (Ad (.int 9)) (Ac (Ad (.int 7)) (Ac (Ad (.int 3)) (Ac (Ad (.int 3)) Ae))))))) (Aa 2)) Ae)))) (Ab Ba (Ab CP (Aa 1) (Ad (.int 160))) (Ad (.int 2)))))))
  (Bs (BV (Ac (Aa 2) (Ac (Ab CG (Ab CZ (Aa 3) (Ab CG (Aa 2) (Ad (.int 2)))) (Aa 4)) (Ac (Aa 3) Ae)))))))))
noncomputable def Zd:List D→Option D:=Cz 1 5 Rp
noncomputable def oN:Ai:=(Bs (Am Bm (Ac (Ax (BX (Be (Ax (Fd (Aa 0) (Ea (Aa 1)) (Ea (Aa 2))))) (Bg 0) (Av (Ab BZ (Aa 0) (BV Ae))) (Aa 0) 1 [])) Ae)))
noncomputable def Vb:List D→Option D:=Cz 3 3 oN
theorem Zo {α:Type}{bs:D→Af→Option Af}{F:Ai}(enc:α→D)(R:List α→Af→Prop)(xs:List α)(H:∀ pre x post ρ,xs=pre++x::post→R pre ρ→∃ ρ1 ρ2,bs (enc x) ρ=some ρ1∧F ρ1=some (.nx ρ2)∧R (pre++[x]) ρ2)(ρ:Af)(h:R [] ρ) :
  ∃ ρ',Bx bs F (xs.map enc) ρ=some (.nx ρ')∧R xs ρ':=by
 have key:∀ (post pre:List α) (ρ:Af),xs=pre++post→R pre ρ→∃ ρ',Bx bs F (post.map enc) ρ=some (.nx ρ')∧R xs ρ':=by
  intro post
  induction post with
  | nil=>intro pre ρ e r;rw[List.append_nil] at e;subst e;exact⟨ρ,rfl,r⟩
  | cons x post ih =>
   intro pre ρ e r
   obtain⟨ρ1,ρ2,h1,h2,r2⟩:=H pre x post ρ e r
   obtain⟨ρ',h3,r3⟩:=ih (pre++[x]) ρ2 (by rw[e];simp) r2
   exact⟨ρ',by rw[List.map_cons,HY h1 h2];exact h3,r3⟩
 exact key xs [] ρ rfl h
noncomputable def Ay (x:Pr):D:=.tuple [.int x.1,.int x.2]
theorem Ls (ts:List Thing):(ts.filter Fj).map encD=(things ts).map Ay:=by
 induction ts with
 | nil=>rfl
 | cons t r ih =>
  cases t with
  | none=>exact ih
  | some x=>rw[AJu,List.map_cons,← ih];rfl
theorem Rz (X:List Pr):X.map Ay=(X.map some).map encD:=by rw[List.map_map];rfl
theorem m5 (X Y:List Pr):Bp (.list (X.map Ay)) (.list (Y.map Ay))=some (.bool (decide (X=Y))):=by
 rw[Rz,Rz,SJ]
 have e:(X.map some=Y.map some) ↔ X=Y:=List.map_inj_right (fun _ _ h=>Option.some.inj h)
 rw[decide_eq_decide.mpr e]
theorem cV (X Y:List Pr):BZ (.list (X.map Ay)) (.list (Y.map Ay))=some (.bool (!decide (X=Y))):=by
 rw[Rz,Rz,ZF]
 have e:(X.map some=Y.map some) ↔ X=Y:=List.map_inj_right (fun _ _ h=>Option.some.inj h)
 rw[decide_eq_decide.mpr e]
noncomputable def G3 (acc:List Pr)(x:Pr):List Pr:=if acc.getLast?=some x then acc else acc++[x]
noncomputable def dd (X:List Pr):List Pr:=X.foldl G3 []
theorem AHm (X:List Pr)(x:Pr):dd (X++[x])=G3 (dd X) x:=by
 unfold dd
 rw[List.foldl_append]
 rfl
theorem jA (X:List Pr):(dd X).length≤X.length:=by
 have key:∀ (X acc:List Pr),(X.foldl G3 acc).length≤acc.length+X.length:=by
  intro X
  induction X with
  | nil=>intro acc;simp
  | cons x r ih =>
   intro acc
   rw[List.foldl_cons]
   have h1:=ih (G3 acc x)
   have h2:(G3 acc x).length≤acc.length+1:=by
    unfold G3
    split
    ·omega
    ·simp
   simp only[List.length_cons]
   omega
 have:=key X []
 simpa [dd] using this
noncomputable def DX (X:List Pr):Prop:=(X.map (·.1)).Pairwise (· < ·)
noncomputable instance (X:List Pr):Decidable (DX X):=inferInstanceAs (Decidable ((X.map (·.1)).Pairwise (· < ·)))
theorem IK (ts:List Thing):Dr ts ↔ DX (things ts):=by
 unfold Dr DX
 rw[Hj]
theorem UJ:∀ (X acc:List Pr),DX (acc++X)→X.foldl G3 acc=acc++X
 | [],acc,_=>by simp
 | x::r,acc,h=>by
  have hne:¬ acc.getLast?=some x:=by
   intro e
   have hm:=List.mem_of_getLast? e
   unfold DX at h
   rw[List.map_append,List.pairwise_append] at h
   have:=h.2.2 x.1 (List.mem_map.mpr ⟨x,hm,rfl⟩) x.1 (by simp)
   omega
  rw[List.foldl_cons]
  have e:G3 acc x=acc++[x]:=if_neg hne
  rw[e,UJ r (acc++[x]) (by simpa using h)]
  simp
theorem dN {X:List Pr}(h:DX X):dd X=X:=by
 have:=UJ X [] (by simpa using h)
 simpa [dd] using this
theorem AGr {L R:List Pr}{x:Pr}(h:DX (L++x::R)):dd (L++x::x::R)=L++x::R:=by
 have e:L++x::x::R=(L++[x])++(x::R):=by simp
 have h1:DX (L++[x]):=by
  unfold DX at h ⊢
  have e2:(L++x::R).map (·.1)=(L++[x]).map (·.1)++R.map (·.1):=by simp
  rw[e2] at h
  exact (List.pairwise_append.mp h).1
 unfold dd
 rw[e,List.foldl_append,UJ (L++[x]) [] (by simpa using h1),List.foldl_cons]
 have e3:G3 ([]++(L++[x])) x=L++[x]:=by
  unfold G3
  rw[if_pos (by simp)]
  rfl
 rw[e3,UJ R (L++[x]) (by simpa using h)]
 simp
theorem m9 {α:Type}{xs:List α}(h:xs≠[]):Bj xs (-1)=xs.getLast?:=by
 have hl:0<xs.length:=List.length_pos_iff.mpr h
 unfold Bj Ei
 rw[if_neg (by decide),if_pos (by omega),List.getLast?_eq_getElem?]
 show xs[(-1+(xs.length:Int)).toNat]?=_
 congr 1
 omega
theorem fQ (ts:List Thing)(hl:ts.length<16777216):Qm [.list (ts.map encD)]=some ((dd (things ts)).map Ay):=by
 have loop:=Zo (bs:=Ek 2) (F:=Li) encD (fun pre ρ=>∃ s2,ρ=[.sh (.list (ts.map encD)),.ow ((dd (things pre)).map Ay),s2]) ts ?_ [.sh (.list (ts.map encD)),.ow [],.no] ⟨_,rfl⟩
 ·obtain⟨ρ',hf,s2,rfl⟩:=loop
  refine FN rfl ?_
  unfold Tg
  refine Aw (ρ':=[.sh (.list (ts.map encD)),.ow [],.no]) (by walk_at "pu") ?_
  exact Aw ((GJ (items:=ts.map encD) (by walk_at "pu")).trans hf) rfl
 ·rintro pre t post ρ e ⟨s2,rfl⟩
  have hlen:(dd (things pre)).length<16777216:=by
   have h1:=jA (things pre)
   have h2:(things pre).length≤pre.length:=List.length_filterMap_le _ _
   have h3:pre.length<ts.length:=by rw[e];simp
   omega
  have WT:Bp (.list ((dd (things pre)).map Ay)) (.list [])=some (.bool (decide (dd (things pre)=[]))):=m5 (dd (things pre)) []
  cases t with
  | none =>
   refine⟨_,[.sh (.list (ts.map encD)),.ow ((dd (things pre)).map Ay),.sh (encD none)],rfl,?_,.sh (encD none),by rw[Ge];simp [things]⟩
   clear e WT
   unfold Li
   walk_at "pu"
  | some x =>
   have hn:¬ some x=none:=by simp
   have hd:dd (things (pre++[some x]))=G3 (dd (things pre)) x:=by
    rw[Ge]
    exact AHm (things pre) x
   generalize hA:dd (things pre)=A at *
   by_cases h0:A=[]
   ·refine⟨_,[.sh (.list (ts.map encD)),.ow (A.map Ay++[encD (some x)]),.sh (encD (some x))],rfl,?_,.sh (encD (some x)),?_⟩
    ·rw[decide_eq_true h0] at WT
     clear e hd hA h0
     unfold Li
     walk_at "pu"
    ·rw[hd]
     unfold G3
     rw[if_neg (by rw[h0];simp),List.map_append]
     rfl
   ·have ADf:Bj (A.map Ay) (-1)=(A.getLast?).map Ay:=by
     rw[m9 (by simpa using h0),List.getLast?_map]
    obtain⟨y,hy⟩:∃ y,A.getLast?=some y:=by
     cases h:A.getLast? with
     | none=>exact absurd (List.getLast?_eq_none_iff.mp h) h0
     | some y=>exact⟨y,rfl⟩
    rw[hy,Option.map_some] at ADf
    rw[decide_eq_false h0] at WT
    have hne:BZ (Ay y) (encD (some x))=some (.bool (!decide (some y=some x))):=PN (some y) (some x)
    by_cases hx:some y=some x
    ·refine⟨_,[.sh (.list (ts.map encD)),.ow (A.map Ay),.sh (encD (some x))],rfl,?_,.sh (encD (some x)),?_⟩
     ·rw[decide_eq_true hx] at hne
      clear e hd hA h0 hx hy
      unfold Li
      walk_at "pu"
     ·rw[hd]
      unfold G3
      rw[if_pos (hy.trans hx)]
    ·refine⟨_,[.sh (.list (ts.map encD)),.ow (A.map Ay++[encD (some x)]),.sh (encD (some x))],rfl,?_,.sh (encD (some x)),?_⟩
     ·rw[decide_eq_false hx] at hne
      clear e hd hA h0 hx hy
      unfold Li
      walk_at "pu"
     ·rw[hd]
      unfold G3
      rw[if_neg (fun z=>hx (hy.symm.trans z)),List.map_append]
      rfl
theorem ABa (X:List Pr):(List.range (X.length-1)).all (fun i=>decide ((X.getD i (0,0)).1<(X.getD (i+1) (0,0)).1))=decide (DX X):=by
 rw[Bool.eq_iff_iff,List.all_eq_true,decide_eq_true_eq]
 unfold DX
 rw[List.pairwise_iff_getElem]
 constructor
 ·intro h i j hi hj hij
  simp only[List.length_map] at hi hj
  have key:∀ d (hd:i+d+1<X.length),X[i].1<(X[i+d+1]).1:=by
   intro d
   induction d with
   | zero =>
    intro hd
    have:=h i (List.mem_range.mpr (by omega))
    simpa [List.getD,hi,show i+1<X.length by omega] using this
   | succ d ih =>
    intro hd
    have h1:=ih (by omega)
    have:=h (i+d+1) (List.mem_range.mpr (by omega))
    have h2:X[i+d+1].1<(X[i+d+1+1]).1:=by simpa [List.getD,show i+d+1<X.length by omega,show i+d+1+1<X.length by omega] using this
    exact Int.lt_trans h1 h2
  have:=key (j-i-1) (by omega)
  have e:i+(j-i-1)+1=j:=by omega
  simp only[e] at this
  simpa using this
 ·intro h i hi
  have hi':=List.mem_range.mp hi
  have:=h i (i+1) (by simp;omega) (by simp;omega) (by omega)
  simpa [List.getD,show i<X.length by omega,show i+1<X.length by omega] using this
theorem qZ (X:List Pr){i:Nat}(h:i<X.length):Bj (X.map Ay) (i:Int)=some (.tuple [.int (X.getD i (0,0)).1,.int (X.getD i (0,0)).2]):=by
 rw[G8]
 simp [h,Ay,List.getD]
theorem ADP (ts:List Thing)(hl:ts.length≤1000):XF [.list (ts.map encD)]=some (.bool (decide (DX (dd (things ts))) && decide ((things ts).length≤(dd (things ts)).length+1))):=by
 have Mw:=fQ ts (by omega)
 have hX:(things ts).length≤ts.length:=List.length_filterMap_le _ _
 have hYl:=jA (things ts)
 have Ex:∀ s2:Sl,(BX (Be (Aa 0)) (Bg 0) (Av (Ab BZ (Aa 0) (BV Ae))) (Aa 0) 1 []) [some (.list (ts.map encD)),some (.list ((dd (things ts)).map Ay)),s2.view]=some ((things ts).map Ay):=fun s2=>by
  rw[Mr ts (by omega) (by walk_at "pu"),Ls]
 generalize things ts=X at *
 generalize dd X=Y at *
 have hg:Im [.int 1,.int Y.length]=some (Ci 1 (Y.length-1)):=by
  rw[fB _ _ ⟨by decide,by decide,by omega,by omega⟩]
  have e:((Y.length:Int)-1).toNat=Y.length-1:=by omega
  rw[e]
 have st1:(Aq 1 (vS (Ax (Az Qm (Ac (Aa 0) Ae))))) (Gr 3 [.list (ts.map encD)])=some (.nx [.sh (.list (ts.map encD)),.sh (.list (Y.map Ay)),.no]):=by
  clear Ex
  walk_at "pu"
 have hst:(Az Im (Ac (Ad (.int 1)) (Ac (Am Bm (Ac (Aa 1) Ae)) Ae))) (masked [.sh (.list (ts.map encD)),.sh (.list (Y.map Ay)),.no])=some (Ci 1 (Y.length-1)):=by
  clear Ex st1
  walk_at "pu"
 have loop:=AGU (lo:=1) (bs:=Ek 2) (F:=Pn) (fun i=>decide ((Y.getD i (0,0)).1<(Y.getD (i+1) (0,0)).1)) (fun ρ=>∃ s,ρ=[.sh (.list (ts.map encD)),.sh (.list (Y.map Ay)),s]) (.bool false) (Y.length-1) ?_ [.sh (.list (ts.map encD)),.sh (.list (Y.map Ay)),.no] ⟨_,rfl⟩
 ·rw[ABa] at loop
  rcases loop with⟨h1,ρ',h2,s,rfl⟩ | ⟨h1,h2⟩
  ·rw[h1,Bool.true_and]
   have fin:(Bs (Ab Kq (Am Bm (Ac (Ax (BX (Be (Aa 0)) (Bg 0) (Av (Ab BZ (Aa 0) (BV Ae))) (Aa 0) 1 [])) Ae)) (Ab CG (Am Bm (Ac (Aa 1) Ae)) (Ad (.int 1))))) [.sh (.list (ts.map encD)),.sh (.list (Y.map Ay)),s]=some (.rt (.bool (decide (X.length≤Y.length+1)))):=by
    have hc:=Ex s
    have e3:((X.length:Int)≤(Y.length:Int)+1) ↔ X.length≤Y.length+1:=by omega
    have e4:decide (X.length≤Y.length+1)=decide ((X.length:Int)≤(Y.length:Int)+1):=(decide_eq_decide.mpr e3).symm
    rw[e4]
    clear e4 e3
    clear Ex st1 hst h2 h1 Mw hg hX hYl hl
    generalize (BX (Be (Aa 0)) (Bg 0) (Av (Ab BZ (Aa 0) (BV Ae))) (Aa 0) 1 [])=cf at *
    walk_at "pu"
   exact Dl (o:=.rt (.bool (decide (X.length≤Y.length+1)))) rfl (Aw st1 (Aw ((GJ hst).trans h2) fin)) rfl
  ·rw[h1,Bool.false_and]
   exact Dl (o:=.rt (.bool false)) rfl (Aw st1 (Kz ((GJ hst).trans h2))) rfl
 ·rintro i ρ hi ⟨s,rfl⟩
  have h1:=qZ Y (i:=i) (by omega)
  have h2:=qZ Y (i:=i+1) (by omega)
  have e1:(1:Int)+(i:Int)=((i+1:Nat):Int):=by omega
  have e2:((i+1:Nat):Int)-1=(i:Int):=by omega
  refine⟨_,rfl,fun ho=>⟨[.sh (.list (ts.map encD)),.sh (.list (Y.map Ay)),.sh (.int (1+(i:Int)))],?_,_,rfl⟩,fun ho=>?_⟩
  ·have ho':¬ (Y.getD (i+1) (0,0)).1≤(Y.getD i (0,0)).1:=by have:=of_decide_eq_true ho;omega
   clear ho hi hg Ex st1 hst Mw
   rw[e1]
   unfold Pn
   walk_at "pu"
  ·have ho':(Y.getD (i+1) (0,0)).1≤(Y.getD i (0,0)).1:=by have:=of_decide_eq_false ho;omega
   clear ho hi hg Ex st1 hst Mw
   rw[e1]
   unfold Pn
   walk_at "pu"
structure Fl {α:Type}[DecidableEq α](e:α→D)(n:Nat):Prop where
 lay:∀ a,(e a).canLay0=true
 dep:∀ a,(e a).depth≤n
 eqv:∀ a b,PyData.eqv (e a) (e b)=decide (a=b)
section
variable {α β:Type}[DecidableEq α][DecidableEq β]{e:α→D}{f:β→D}{n m:Nat}
theorem Fl.shaped (h:Fl e n)(hn:n≤64)(a:α):SeqAt.shaped (e a)=true:=by
 unfold SeqAt.shaped
 rw[h.lay a,Bool.true_and]
 exact decide_eq_true (Nat.le_trans (h.dep a) hn)
theorem Fl.Bp (h:Fl e n)(hn:n≤64)(a b:α):L2.Bp (e a) (e b)=some (.bool (decide (a=b))):=by
 unfold L2.Bp
 rw[if_pos ⟨h.shaped hn a,h.shaped hn b⟩,h.eqv]
theorem Fl.BZ (h:Fl e n)(hn:n≤64)(a b:α):L2.BZ (e a) (e b)=some (.bool (!decide (a=b))):=by
 unfold L2.BZ
 rw[if_pos ⟨h.shaped hn a,h.shaped hn b⟩,h.eqv]
theorem Fl.all (h:Fl e n):∀ xs:List α,PyData.canLayAll0 (xs.map e)=true∧PyData.depthAll (xs.map e)≤n
 | []=>by simp [PyData.canLayAll0,PyData.depthAll]
 | x::r=>by
  have h2:=Fl.all h r
  simp only[List.map_cons,PyData.canLayAll0,PyData.depthAll,h.lay x,h2.1,Bool.and_self,true_and]
  have:=h.dep x
  have:=h2.2
  omega
theorem Fl.eqvAll (h:Fl e n):∀ xs ys:List α,PyData.eqvAll (xs.map e) (ys.map e)=decide (xs=ys)
 | [],[]=>by simp [PyData.eqvAll]
 | [],_::_=>by simp [PyData.eqvAll]
 | _::_,[]=>by simp [PyData.eqvAll]
 | x::r,y::q=>by
  simp only[List.map_cons,PyData.eqvAll,h.eqv,Fl.eqvAll h r q]
  by_cases h1:x=y<;>by_cases h2:r=q<;>simp [h1,h2]
theorem Fl.list (h:Fl e n):Fl (fun xs:List α=>PyData.list (xs.map e)) (n+1) :=
 ⟨fun xs=>by simp only[PyData.canLay0];exact (h.all xs).1,fun xs=>by simp only[PyData.depth];have:=(h.all xs).2;omega,fun xs ys=>by simp only[PyData.eqv];exact h.eqvAll xs ys⟩
end
theorem AJt:Fl PyData.int 0:=⟨fun a=>rfl,fun a=>by simp [PyData.depth],fun a b=>by simp [PyData.eqv,Bool.beq_eq_decide_eq]⟩
noncomputable def Bh (n:Nat):D:=.int (n:Int)
theorem AAL:Fl Bh 0:=⟨fun a=>rfl,fun a=>by simp [Bh,PyData.depth],fun a b=>by
 simp only[Bh,PyData.eqv,Bool.beq_eq_decide_eq,decide_eq_decide]
 omega⟩
theorem UT:Fl encD 1:=⟨fun t=>(T4 t).1,fun t=>(T4 t).2,RB⟩
noncomputable def encM (q:Nat×Nat):D:=.tuple [.int (q.1:Nat),.int (q.2:Nat)]
theorem YQ:∀ (ts:List Thing) (k:Nat),((List.range' k ts.length).filter fun i=>Fj (ts.getD (i-k) none))=(Ao k ts).map (·.1)
 | [],_=>rfl
 | t::r,k=>by
  rw[List.length_cons,List.range'_succ,List.filter_cons]
  have ih:=YQ r (k+1)
  have e:(List.range' (k+1) r.length).filter (fun i=>Fj ((t::r).getD (i-k) none))=(List.range' (k+1) r.length).filter (fun i=>Fj (r.getD (i-(k+1)) none)):=by
   apply List.filter_congr
   intro i hi
   have:=List.mem_range'.mp hi
   obtain⟨j,hj,rfl⟩:=this
   have e1:k+1+1*j-k=j+1:=by omega
   have e2:k+1+1*j-(k+1)=j:=by omega
   rw[e1,e2]
   rfl
  rw[e,ih,Nat.sub_self]
  cases t with
  | none=>rfl
  | some x=>rfl
structure zY (s:List Thing)(t:Tr):Prop where
 free:s[t.2.1]?=some none
 lt:t.2.1<s.length
 here:s[t.1]?=some (some t.2.2)
 mid:dd (things (s.set t.2.1 (some t.2.2)))=things s
 few:(things (s.set t.2.1 (some t.2.2))).length=(things s).length+1
 fin:things (NQ s t)=things s
theorem Gn.ok {s:List Thing}{t:Tr}(m:Gn s t)(h:DX (things s)):zY s t:=by
 obtain⟨L,R,m⟩:=m
 have hs:=HJ s 0
 rw[m.eq,List.map_append,List.map_cons] at hs
 have h1:things (s.set t.2.1 (some t.2.2))=L.map (·.2)++t.2.2::t.2.2::R.map (·.2):=by
  rw[← HJ _ 0,m.first]
  split<;>simp
 have hr:DX (L.map (·.2)++t.2.2::R.map (·.2)):=by rw[hs];exact h
 refine⟨m.free,m.lt,?_,?_,?_,?_⟩
 ·have:=(Lb s 0 t.1 t.2.2).mpr (by rw[Nat.zero_add,m.eq];simp)
  exact this
 ·rw[h1,AGr hr,hs]
 ·rw[h1,← hs]
  simp
  omega
 ·show things ((s.set t.2.1 (some t.2.2)).set t.1 none)=_
  rw[← HJ _ 0,m.both,List.map_append,List.map_cons]
  exact hs
end LL
namespace LKa
open PySem L2
noncomputable def Jb:Ai:=(Ak (Aq 2 (Fx (BX (Be (Aa 0)) (Bg 0) (Av (Ab BZ (Aa 0) (BV Ae))) (Aa 0) 1 [])))
  (Ak (Aq 3 (vS (Ab Ba (Aa 1) (Ab Fy (Ad (.int 10)) (Ad (.int 58))))))
  (Ak (CN (Jp (Av (Ab Bp (Aa 2) (Ax (CK Ae)))) (Av (Ab Bp (Ab Ba (Aa 1) (Ad (.int 5))) (Ad (.int 4)))))
   (Bs (Ab Al (Ax (CK (Ac (Aa 3) (Ac (IV Jx (Aa 3)) Ae)))) (Ab Ba (Ab CP (Aa 1) (Ad (.int 5))) (Ad (.int 2))))) CQ)
  (Bs (Ab CG (Ab Al (Ab Al (Aa 2) (Ab Ba (Ab CP (Aa 1) (Ad (.int 5))) (Am Bm (Ac (Aa 2) Ae)))) (Ad (.int 0))) (Ab Al (Ax (CK (Ac (IV Jx (Ad (.int 1))) (Ac (Ad (.int 0)) (Ac (Ad (.int 1)) (Ac (Ad (.int 2)) Ae)))))) (Ab Ba (Ab CP (Aa 1) (Ad (.int 500))) (Ad (.int 4)))))))))
noncomputable def J4:List D→Option D:=Cz 2 4 Jb
end LKa
namespace LKb
open PySem L2
noncomputable def Jb:Ai:=(Ak (Aq 3 (vS (Ab Ba (Aa 1) (Ab Fy (Ad (.int 10)) (Ad (.int 50))))))
  (Ak (CN (Av (Ab Bp (Aa 0) (Ax (CK Ae))))
   (Bs (Aa 3)) CQ)
  (Ak (Aq 4 (vS (Ab Ba (Ab Al (Ax (CK (Ac (Ab CP (Aa 1) (Ad (.int 7))) (Ac (Ab CP (Am Bm (Ac (Aa 0) Ae)) (Ad (.int 2))) Ae)))) (Am Jw (Ac (Aa 2) Ae))) (Ab CG (Am Bm (Ac (Aa 0) Ae)) (Ad (.int 1))))))
  (Ak (Aq 5 (vS (Ab Al (Ax (CK (Ac (Ad (.int 1000)) (Ac (Ab Fy (Ad (.int 10)) (Ad (.int 48))) Ae)))) (Am Jw (Ac (Ma (Aa 2) (Ab Bp (Ab Ba (Ab CP (Aa 1) (Ad (.int 7))) (Ad (.int 2))) (Ad (.int 1)))) Ae)))))
  (Ak (CN (Av (Ab Bp (Aa 4) (Ad (.int 0))))
   (Bs (Ab Cr (Ab Cr (Ab Al (Aa 0) (Ad (.int 0))) (Ad (.int 1))) (Ab Ba (Aa 3) (Aa 5)))) CQ)
  (Ak (CN (Av (Ab Bp (Aa 4) (Am Bm (Ac (Aa 0) Ae))))
   (Bs (Ab CG (Ab CG (Ab Al (Aa 0) (IV Jx (Ad (.int 1)))) (Ad (.int 1))) (Ab Ba (Aa 3) (Aa 5)))) CQ)
  (Bs (Ab CG (Ab CG (Ab Al (Aa 0) (Ab Cr (Aa 4) (Ad (.int 1)))) (Ad (.int 1))) (Ab Ba (Aa 3) (Am Ja (Ac (Ad (.int 1)) (Ac (Ab Cr (Ab Cr (Ab Al (Aa 0) (Aa 4)) (Ab Al (Aa 0) (Ab Cr (Aa 4) (Ad (.int 1))))) (Ad (.int 1))) Ae))))))))))))
noncomputable def J4:List D→Option D:=Cz 3 6 Jb
end LKb
namespace LL
open PySem L2
noncomputable def Wl:Ai:=(Ak (Aq 5 (vS (Ab CG (Aa 5) (Ad (.int 1)))))
   (Ak (Aq 6 (vS (Ab CZ (Aa 6) (Ad (.int 2)))))
   (Aq 7 (vS (Ab CZ (Ab CP (Aa 3) (Aa 6)) (Aa 6))))))
noncomputable def SM:Ai:=(CN (Fo (Av (Ab BZ (Ab Al (Aa 1) (Aa 4)) (BV Ae))) (Av (Ab Er (Ab Al (Ab Al (Aa 1) (Aa 4)) (Ad (.int 0))) (Aa 2))))
    (Aq 3 (vS (Aa 4))) CQ)
noncomputable def lZ:Ai:=(Ak (Aq 3 (vS (Ad (.int 0))))
  (Ak (Eu (Az Dn (Ac (Am Bm (Ac (Aa 1) Ae)) Ae)) (Ek 4) SM)
  (Ak (Aq 5 (vS (Ad (.int 0))))
  (Ak (Aq 6 (vS (Ab Al (Aa 0) (Ad (.int 1)))))
  (Ak (Aq 7 (vS (Ab CZ (Ab CP (Aa 3) (Aa 6)) (Aa 6))))
  (Ak (Gu (Av (Ab Ih (Am Vb (Ac (Aa 1) (Ac (Aa 7) (Ac (Ab CG (Aa 7) (Aa 6)) Ae)))) (Ab CZ (Am Hu (Ac (Aa 5) Ae)) (Ab Cr (Ab Al (Aa 0) (Ad (.int 1))) (Ab CZ (Aa 5) (Ab Al (Aa 0) (Ad (.int 2)))))))) Wl 1000000)
  (Bs (BV (Ac (Aa 5) (Ac (Aa 7) (Ac (Aa 6) Ae)))))))))))
noncomputable def AG2:List D→Option D:=Cz 3 8 lZ
noncomputable def cnt (ts:List Thing)(a b:Nat):Nat:=(things ((ts.drop a).take (b-a))).length
theorem AII (ts:List Thing)(a b:Nat):cutD (ts.map encD) (some (a:Int)) (some (b:Int))=((ts.drop a).take (b-a)).map encD:=by
 unfold cutD
 rw[HT.cX,HT.cX,List.length_map,← List.map_drop,← List.map_take]
 congr 1
 apply List.ext_getElem?
 intro i
 simp only[List.getElem?_take,List.getElem?_drop]
 by_cases h1:a≤ts.length
 ·by_cases h2:b≤ts.length
  ·rw[Nat.min_eq_left h1,Nat.min_eq_left h2]
  ·rw[Nat.min_eq_left h1,Nat.min_eq_right (by omega)]
   by_cases h3:i<ts.length-a
   ·rw[if_pos h3,if_pos (by omega)]
   ·rw[if_neg h3]
    split
    ·rw[List.getElem?_eq_none (by omega)]
    ·rfl
 ·rw[Nat.min_eq_right (by omega:ts.length≤a)]
  rw[if_neg (by omega)]
  split
  ·rw[List.getElem?_eq_none (by omega)]
  ·rfl
theorem ACz (ts:List Thing)(hl:ts.length<16777216)(a b:Nat):Vb [.list (ts.map encD),.int (a:Int),.int (b:Int)]=some (.int (cnt ts a b:Int)):=by
 have hc:=AII ts a b
 have hn:((ts.drop a).take (b-a)).length<16777216:=by rw[List.length_take,List.length_drop];omega
 have hn2:(things ((ts.drop a).take (b-a))).length≤((ts.drop a).take (b-a)).length:=List.length_filterMap_le _ _
 have h2:=Mr ((ts.drop a).take (b-a)) hn (fi:=Be (Ax (Fd (Aa 0) (Ea (Aa 1)) (Ea (Aa 2))))) (ρ:=[some (.list (ts.map encD)),some (.int (a:Int)),some (.int (b:Int))]) (by clear hn hn2;walk_at "pu")
 rw[Ls] at h2
 unfold cnt
 generalize hX:things ((ts.drop a).take (b-a))=X at *
 refine Dl (o:=.rt (.int _)) rfl ?_ rfl
 unfold oN
 generalize BX (Be (Ax (Fd (Aa 0) (Ea (Aa 1)) (Ea (Aa 2))))) (Bg 0) (Av (Ab BZ (Aa 0) (BV Ae))) (Aa 0) 1 []=PC at *
 have hx:X.length<16777216:=by omega
 clear hX hc hn2 hn
 walk_at "pu"
end LL
namespace LKa
open PySem L2 LL
end LKa
namespace LKb
open PySem L2 LL
theorem AJh (ks:List Int)(hl:ks.length<16777216)(c:Int)(crowd:Bool):∃ k,J4 [.list (ks.map .int),.int c,.bool crowd]=some (.int k):=by
 have fin:∀ k:Int,Jb [.sh (.list (ks.map .int)),.sh (.int c),.sh (.bool crowd),.no,.no,.no]=some (.rt (.int k))→J4 [.list (ks.map .int),.int c,.bool crowd]=some (.int k):=fun k h=>Dl (o:=.rt (.int k)) rfl h rfl
 have he:Bp (.list (ks.map .int)) (.list [])=some (.bool (decide (ks=[]))):=Yz ks
 by_cases h0:ks=[]
 ·rw[decide_eq_true h0] at he
  refine⟨c % Cj 50,fin _ ?_⟩
  clear fin h0
  unfold Jb
  walk_at "pu"
 rw[decide_eq_false h0] at he
 have hn:0<ks.length:=List.length_pos_iff.mpr h0
 have hn1:(0:Int)<(ks.length:Int)+1:=by omega
 obtain⟨v,hv,ev⟩:=Hx ([.int (c / 7),.int ((ks.length:Int) / 2)]:List D) (i:=if crowd then 1 else 0) (by split<;>decide) (by show _<(2:Int);split<;>decide)
 obtain⟨a0,rfl⟩:∃ a0:Int,v=.int a0:=by
  simp only[List.mem_cons,List.mem_nil_iff,or_false] at hv
  rcases hv with e | e<;>exact⟨_,e⟩
 have ma:=FJ a0 hn1
 obtain⟨v,hv2,ev2⟩:=Hx ([.int 1000,.int (Cj 48)]:List D) (i:=if (crowd || decide (c / 7 % 2=1)) then 1 else 0) (by split<;>decide) (by split<;>decide)
 obtain⟨wide,rfl,hw⟩:∃ wide:Int,v=.int wide∧0<wide:=by
  simp only[List.mem_cons,List.mem_nil_iff,or_false] at hv2
  rcases hv2 with e | e
  ·exact⟨_,e,by decide⟩
  ·exact⟨_,e,Nq _⟩
 have dd:=True.intro
 generalize hat:a0 % ((ks.length:Int)+1)=at' at *
 have hsm:(ks.length:Int)<1073741824:=by omega
 have st:∀ r,Ak (CN (Av (Ab Bp (Aa 4) (Ad (.int 0))))
   (Bs (Ab Cr (Ab Cr (Ab Al (Aa 0) (Ad (.int 0))) (Ad (.int 1))) (Ab Ba (Aa 3) (Aa 5)))) CQ)
  (Ak (CN (Av (Ab Bp (Aa 4) (Am Bm (Ac (Aa 0) Ae))))
   (Bs (Ab CG (Ab CG (Ab Al (Aa 0) (IV Jx (Ad (.int 1)))) (Ad (.int 1))) (Ab Ba (Aa 3) (Aa 5)))) CQ)
  (Bs (Ab CG (Ab CG (Ab Al (Aa 0) (Ab Cr (Aa 4) (Ad (.int 1)))) (Ad (.int 1))) (Ab Ba (Aa 3) (Am Ja (Ac (Ad (.int 1)) (Ac (Ab Cr (Ab Cr (Ab Al (Aa 0) (Aa 4)) (Ab Al (Aa 0) (Ab Cr (Aa 4) (Ad (.int 1))))) (Ad (.int 1))) Ae)))))))
  [.sh (.list (ks.map .int)),.sh (.int c),.sh (.bool crowd),.sh (.int (c % Cj 50)),.sh (.int at'),.sh (.int wide)]=r→Jb [.sh (.list (ks.map .int)),.sh (.int c),.sh (.bool crowd),.no,.no,.no]=r:=by
  intro r hr
  unfold Jb
  refine Aw (ρ':=[.sh (.list (ks.map .int)),.sh (.int c),.sh (.bool crowd),.sh (.int (c % Cj 50)),.no,.no]) (by clear hr;walk_at "pu") ?_
  refine Aw (ρ':=[.sh (.list (ks.map .int)),.sh (.int c),.sh (.bool crowd),.sh (.int (c % Cj 50)),.no,.no]) (by clear hr;walk_at "pu") ?_
  refine Aw (ρ':=[.sh (.list (ks.map .int)),.sh (.int c),.sh (.bool crowd),.sh (.int (c % Cj 50)),.sh (.int at'),.no]) (by clear hr hv hv2 ma;walk_at "pu") ?_
  refine Aw (ρ':=[.sh (.list (ks.map .int)),.sh (.int c),.sh (.bool crowd),.sh (.int (c % Cj 50)),.sh (.int at'),.sh (.int wide)]) (by
   clear hr hv hv2 ma hat fin ev
   cases crowd with
   | false =>
    rw[Bool.false_or] at ev2
    walk_at "pu"
   | true =>
    have e2:some (PyData.int (Cj 48))=some (PyData.int wide):=ev2
    clear ev2
    walk_at "pu") hr
 obtain⟨j,rfl⟩:∃ j:Nat,at'=(j:Int):=⟨at'.toNat,by omega⟩
 clear ev ev2 hv hv2 hat he
 have gk:∀ i:Nat,i<ks.length→∃ q:Int,Bj (ks.map PyData.int) (i:Int)=some (.int q):=by
  intro i hi
  refine⟨ks[i],?_⟩
  rw[G8]
  simp [hi]
 by_cases hj0:j=0
 ·subst hj0
  obtain⟨q,hq⟩:=gk 0 hn
  refine⟨q-1-c % Cj 50 % wide,fin _ (st _ ?_)⟩
  clear fin st gk ma
  rw[show ((0:Nat):Int)=0 from rfl] at *
  walk_at "pu"
 by_cases hj1:j=ks.length
 ·obtain⟨q,hq⟩:∃ q:Int,Bj (ks.map PyData.int) (-1)=some (.int q):=by
   obtain⟨q,hq⟩:=gk (ks.length-1) (by omega)
   refine⟨q,?_⟩
   rw[m9 (by simpa using h0),← hq,G8,List.getLast?_eq_getElem?,List.length_map]
  refine⟨q+1+c % Cj 50 % wide,fin _ (st _ ?_)⟩
  subst hj1
  have hz:¬ (ks.length:Int)=0:=by omega
  clear fin st gk ma hj0 h0
  walk_at "pu"
 ·obtain⟨q,hq⟩:=gk j (by omega)
  obtain⟨q',hq'⟩:=gk (j-1) (by omega)
  have e1:((j-1:Nat):Int)=(j:Int)-1:=by omega
  rw[e1] at hq'
  have hz:¬ (j:Int)=0:=by omega
  have hz2:¬ (j:Int)=(ks.length:Int):=by omega
  have hm:0<max 1 (q-q'-1):=by omega
  refine⟨q'+1+c % Cj 50 % (max 1 (q-q'-1)),fin _ (st _ ?_)⟩
  clear fin st gk ma hj0 hj1 h0 e1
  walk_at "pu"
end LKb
namespace LL
open PySem L2
noncomputable def Hi (ts:List Thing)(k:Int)(i:Nat):Bool:=match (ts.getD i none) with
 | none=>false
 | some x=>decide (x.1<k)
noncomputable def Br (ts:List Thing)(k:Int):Nat→Nat
 | 0=>0
 | i+1=>if Hi ts k i=true then i else Br ts k i
theorem XH (ts:List Thing)(k:Int):∀ n,Br ts k n≤n-1
 | 0=>Nat.le_refl _
 | n+1=>by
   show (if Hi ts k n=true then n else Br ts k n)≤n
   split
   ·exact Nat.le_refl _
   ·have:=XH ts k n;omega
theorem Yc (ts:List Thing){i:Nat}(h:i<ts.length):Bj (ts.map encD) (i:Int)=some (encD (ts.getD i none)):=by
 rw[G8]
 simp [h,List.getD]
noncomputable def Bv (w s h:Nat):Nat:=s / (2 ^ h*w)*(2 ^ h*w)
noncomputable def Ep (ts:List Thing)(w st s h:Nat):Prop:=(cnt ts (Bv w s h) (Bv w s h+2 ^ h*w):Int)<2 ^ h*((w:Int)-h*st)
theorem ACY (ts:List Thing)(hl:ts.length<16777216)(B:D)(k:Int):∃ s4,Eu (Az Dn (Ac (Am Bm (Ac (Aa 1) Ae)) Ae)) (Ek 4) SM [.sh B,.sh (.list (ts.map encD)),.sh (.int k),.sh (.int 0),.no,.no,.no,.no]=some (.nx [.sh B,.sh (.list (ts.map encD)),.sh (.int k),.sh (.int (Br ts k ts.length:Int)),s4,.no,.no,.no]):=by
 have loop:=Tw (bs:=Ek 4) (F:=SM) (lo:=0) (fun i ρ=>∃ s4,ρ=[.sh B,.sh (.list (ts.map encD)),.sh (.int k),.sh (.int (Br ts k i:Int)),s4,.no,.no,.no]) ts.length ?_ [.sh B,.sh (.list (ts.map encD)),.sh (.int k),.sh (.int 0),.no,.no,.no,.no] ⟨_,rfl⟩
 ·obtain⟨ρ',hf,s4,rfl⟩:=loop
  have hr:=J7 (ts.length:Int) ⟨by omega,by omega⟩
  rw[Int.toNat_natCast] at hr
  refine⟨s4,(GJ (items:=Ci 0 ts.length) ?_).trans hf⟩
  clear hf
  walk_at "pu"
 ·rintro i ρ hi ⟨s4,rfl⟩
  rw[Int.zero_add]
  refine⟨[.sh B,.sh (.list (ts.map encD)),.sh (.int k),.sh (.int (Br ts k i:Int)),.sh (.int (i:Int)),.no,.no,.no],[.sh B,.sh (.list (ts.map encD)),.sh (.int k),.sh (.int (Br ts k (i+1):Int)),.sh (.int (i:Int)),.no,.no,.no],rfl,?_,.sh (.int (i:Int)),rfl⟩
  have ha:=Yc ts hi
  have hs:Br ts k (i+1)=if Hi ts k i=true then i else Br ts k i:=rfl
  unfold Hi at hs
  generalize ts.getD i none=t at *
  generalize Br ts k i=s at *
  generalize Br ts k (i+1)=s' at *
  unfold SM
  cases t with
  | none =>
   have hs':s'=s:=by simpa using hs
   subst hs'
   clear hs hi
   walk_at "pu"
  | some x =>
   have hn:¬ some x=none:=by simp
   have hx:encD (some x)=.tuple [.int x.1,.int x.2]:=rfl
   have hne:BZ (.tuple [.int x.1,.int x.2]) (.tuple [])=some (.bool true):=by rfl
   rw[hx] at ha
   by_cases hk:x.1<k
   ·have hs':s'=i:=by simpa [hk] using hs
    subst hs'
    clear hs hi hx
    walk_at "pu"
   ·have hs':s'=s:=by simpa [hk] using hs
    subst hs'
    clear hs hi hx
    walk_at "pu"
theorem O4 (k:Nat):tw (k:Int)=((2 ^ k:Nat):Int):=by
 unfold tw
 rw[Int.toNat_natCast]
 exact (Int.natCast_pow 2 k).symm
theorem Ia {k w:Nat}(hk:k≤4)(w1:1≤w)(w20:w≤20):1≤2 ^ k*w∧2 ^ k*w≤320:=by
 have:k=0∨k=1∨k=2∨k=3∨k=4:=by omega
 rcases this with rfl | rfl | rfl | rfl | rfl<;>omega
noncomputable instance (ts:List Thing) (w st s h:Nat):Decidable (Ep ts w st s h):=Int.decLt _ _
theorem yF (ts:List Thing){t:Int}{w st hh:Nat}(w1:1≤w)(w20:w≤20)(Eh:st≤20)(h4:hh≤4)(hlen:ts.length=2 ^ hh*w)(k:Int)(hroom:Ep ts w st (Br ts k ts.length) hh) :
  ∃ h,h≤hh∧Ep ts w st (Br ts k ts.length) h∧(∀ l,l<h→¬ Ep ts w st (Br ts k ts.length) l)∧AG2 [.tuple [.int t,.int (w:Int),.int (st:Int)],.list (ts.map encD),.int k]=some (.tuple [.int (h:Int),.int (Bv w (Br ts k ts.length) h:Int),.int ((2 ^ h*w:Nat):Int)]):=by
 have hl:ts.length<16777216:=by have:=Ia h4 w1 w20;omega
 obtain⟨s4,Ko⟩:=ACY ts hl (.tuple [.int t,.int (w:Int),.int (st:Int)]) k
 generalize Br ts k ts.length=s at *
 have hcond:∀ j,j≤hh→(Av (Ab Ih (Am Vb (Ac (Aa 1) (Ac (Aa 7) (Ac (Ab CG (Aa 7) (Aa 6)) Ae)))) (Ab CZ (Am Hu (Ac (Aa 5) Ae)) (Ab Cr (Ab Al (Aa 0) (Ad (.int 1))) (Ab CZ (Aa 5) (Ab Al (Aa 0) (Ad (.int 2)))))))) (full [.sh (.tuple [.int t,.int (w:Int),.int (st:Int)]),.sh (.list (ts.map encD)),.sh (.int k),.sh (.int (s:Int)),s4,.sh (.int (j:Int)),.sh (.int ((2 ^ j*w:Nat):Int)),.sh (.int (Bv w s j:Int))])=some (decide (¬ Ep ts w st s j)):=by
  intro j hle
  have hz:=Ia (k:=j) (by omega) w1 w20
  have hheld:=ACz ts hl (Bv w s j) (Bv w s j+2 ^ j*w)
  have Gg:=Pq (h:=(j:Int)) (by omega) (by omega)
  have hT:tw (j:Int)=2 ^ j:=by rw[O4];exact Int.natCast_pow 2 j
  have hTs:-18446744073709551616<tw (j:Int)∧tw (j:Int)<18446744073709551616:=by
   rcases Qu (h:=(j:Int)) (by omega) (by omega) with e | e | e | e | e<;>omega
  have hjs:-18446744073709551616<(j:Int)∧(j:Int)<18446744073709551616:=by omega
  rw[Int.natCast_add] at hheld
  have e:decide (¬ Ep ts w st s j)=decide (tw (j:Int)*((w:Int)-(j:Int)*(st:Int))≤(cnt ts (Bv w s j) (Bv w s j+2 ^ j*w):Int)) :=
   decide_eq_decide.mpr (by unfold Ep;rw[hT];exact Int.not_lt)
  rw[e]
  clear e
  generalize (cnt ts (Bv w s j) (Bv w s j+2 ^ j*w):Int)=C at *
  generalize Bv w s j=P at *
  generalize 2 ^ j*w=Z at *
  generalize tw (j:Int)=T at *
  clear hle hT hz Ko
  walk_at "pu"
 have wh:=W7 (c:=Av (Ab Ih (Am Vb (Ac (Aa 1) (Ac (Aa 7) (Ac (Ab CG (Aa 7) (Aa 6)) Ae)))) (Ab CZ (Am Hu (Ac (Aa 5) Ae)) (Ab Cr (Ab Al (Aa 0) (Ad (.int 1))) (Ab CZ (Aa 5) (Ab Al (Aa 0) (Ad (.int 2)))))))) (F:=Wl) hh
  (fun j ρ=>ρ=[.sh (.tuple [.int t,.int (w:Int),.int (st:Int)]),.sh (.list (ts.map encD)),.sh (.int k),.sh (.int (s:Int)),s4,.sh (.int (j:Int)),.sh (.int ((2 ^ j*w:Nat):Int)),.sh (.int (Bv w s j:Int))]∧j≤hh∧∀ l,l<j→¬ Ep ts w st s l) ?_ 1000000 0
  [.sh (.tuple [.int t,.int (w:Int),.int (st:Int)]),.sh (.list (ts.map encD)),.sh (.int k),.sh (.int (s:Int)),s4,.sh (.int ((0:Nat):Int)),.sh (.int ((2 ^ 0*w:Nat):Int)),.sh (.int (Bv w s 0:Int))] ⟨rfl,Nat.zero_le _,fun l hl=>absurd hl (Nat.not_lt_zero _)⟩ (Nat.zero_le _) (by omega)
 ·obtain⟨h,ρ',hw,⟨rfl,hle,hno⟩,hend,_⟩:=wh
  refine⟨h,hle,?_,hno,?_⟩
  ·rw[hcond h hle] at hend
   exact Decidable.of_not_not (of_decide_eq_false (Option.some.inj hend))
  ·refine Dl (o:=.rt (.tuple [.int (h:Int),.int (Bv w s h:Int),.int ((2 ^ h*w:Nat):Int)])) rfl ?_ rfl
   unfold lZ
   refine Aw (ρ':=[.sh (.tuple [.int t,.int (w:Int),.int (st:Int)]),.sh (.list (ts.map encD)),.sh (.int k),.sh (.int 0),.no,.no,.no,.no]) rfl ?_
   refine Aw Ko ?_
   refine Aw (ρ':=[.sh (.tuple [.int t,.int (w:Int),.int (st:Int)]),.sh (.list (ts.map encD)),.sh (.int k),.sh (.int (s:Int)),s4,.sh (.int ((0:Nat):Int)),.no,.no]) rfl ?_
   refine Aw (ρ':=[.sh (.tuple [.int t,.int (w:Int),.int (st:Int)]),.sh (.list (ts.map encD)),.sh (.int k),.sh (.int (s:Int)),s4,.sh (.int ((0:Nat):Int)),.sh (.int ((2 ^ 0*w:Nat):Int)),.no]) ?_ ?_
   ·rw[show (2 ^ 0*w:Nat)=w by omega]
    clear hend hw Ko hcond
    walk_at "pu"
   refine Aw (ρ':=[.sh (.tuple [.int t,.int (w:Int),.int (st:Int)]),.sh (.list (ts.map encD)),.sh (.int k),.sh (.int (s:Int)),s4,.sh (.int ((0:Nat):Int)),.sh (.int ((2 ^ 0*w:Nat):Int)),.sh (.int (Bv w s 0:Int))]) ?_ ?_
   ·unfold Bv
    rw[show (2 ^ 0*w:Nat)=w by omega,Int.natCast_mul,Int.natCast_ediv]
    have a1:(0:Int)<(w:Int)∧(w:Int)<1073741824:=by omega
    have a2:-18446744073709551616<(w:Int)∧(w:Int)<18446744073709551616:=by omega
    clear hend hw Ko hcond
    walk_at "pu"
   refine Aw hw ?_
   rfl
 ·rintro j ρ ⟨rfl,hle,hno⟩
  have hz:=Ia (k:=j) (by omega) w1 w20
  refine⟨decide (¬ Ep ts w st s j),hcond j hle,?_⟩
  ·intro hb
   have hb':=of_decide_eq_true hb
   have hlt:j<hh:=by
    rcases Nat.lt_or_ge j hh with h | h
    ·exact h
    ·have:j=hh:=by omega
     subst this
     exact absurd hroom hb'
   refine⟨hlt,[.sh (.tuple [.int t,.int (w:Int),.int (st:Int)]),.sh (.list (ts.map encD)),.sh (.int k),.sh (.int (s:Int)),s4,.sh (.int ((j+1:Nat):Int)),.sh (.int ((2 ^ (j+1)*w:Nat):Int)),.sh (.int (Bv w s (j+1):Int))],?_,rfl,by omega,?_⟩
   ·unfold Wl Bv
    rw[show 2 ^ (j+1)*w=2 ^ j*w*2 by rw[Nat.pow_succ];rw[Nat.mul_assoc,Nat.mul_assoc,Nat.mul_comm 2 w]]
    generalize 2 ^ j*w=Z at *
    rw[Int.natCast_mul (s / (Z*2)),Int.natCast_ediv,Int.natCast_mul Z 2,Int.natCast_add j 1]
    show _=some (Out.nx [_,_,_,_,_,Sl.sh (.int ((j:Int)+1)),Sl.sh (.int ((Z:Int)*2)),Sl.sh (.int ((s:Int) / ((Z:Int)*2)*((Z:Int)*2)))])
    have a1:(0:Int)<(Z:Int)*2∧(Z:Int)*2<1073741824:=by omega
    have a2:-18446744073709551616<(Z:Int)*2∧(Z:Int)*2<18446744073709551616:=by omega
    have a3:-18446744073709551616<(Z:Int)∧(Z:Int)<18446744073709551616:=by omega
    clear hno hle hz Ko hcond hb hb' hroom
    walk_at "pu"
   ·intro l hlj
    rcases Nat.lt_or_ge l j with h | h
    ·exact hno l h
    ·have:l=j:=by omega
     subst this
     exact hb'
end LL
namespace LL
noncomputable def Ce (n W i:Nat):Nat:=i*W / n
theorem wX {n:Nat}(hn:0<n)(W i:Nat):Ce n W i*n≤i*W∧i*W<(Ce n W i+1)*n:=by
 unfold Ce
 refine⟨Nat.div_mul_le_self _ _,?_⟩
 rw[Nat.mul_comm (i*W / n+1) n]
 exact Nat.lt_mul_div_succ _ hn
theorem ABm {n W j i:Nat}(hn:0<n):j≤Ce n W i ↔ j*n≤i*W:=Nat.le_div_iff_mul_le hn
theorem AAa {n W i j:Nat}(hn:0<n)(h:n≤W)(hij:i<j):Ce n W i<Ce n W j:=by
 show Ce n W i+1≤Ce n W j
 rw[ABm hn,Nat.add_mul,Nat.one_mul]
 have h1:=(wX hn W i).1
 have h2:(i+1)*W≤j*W:=Nat.mul_le_mul_right _ hij
 rw[Nat.add_mul,Nat.one_mul] at h2
 omega
theorem AJQ {n W i:Nat}(hi:i<n)(hW:0<W):Ce n W i<W:=by
 unfold Ce
 rw[Nat.div_lt_iff_lt_mul (by omega),Nat.mul_comm]
 exact Nat.mul_lt_mul_of_pos_left hi hW
noncomputable def cl (p n a:Nat):Nat:=(a*n+p-1) / p
open PySem L2
theorem AEx (cs:List Int)(hl:cs.length<16777216){fi:BJ}{ρ:BR}(h:fi ρ=some (cs.map PyData.int)):∃ zs:List Int,BX fi (Bg 0) DK (Am JX (Ac (Aa 0) Ae)) 1 [] ρ=some (zs.map PyData.int)∧zs.length=cs.length∧∀ z∈zs,0≤z:=by
 refine⟨cs.map fun c=>(Mp c).choose,?_,List.length_map _,?_⟩
 ·rw[HF h (by simpa using hl),Vj PyData.int (fun c=>.int (Mp c).choose),List.map_map]
  ·rfl
  ·intro c _
   exact⟨_,rfl,(Mp c).choose_spec.1⟩
 ·intro z hz
  obtain⟨c,_,rfl⟩:=List.mem_map.mp hz
  exact (Mp c).choose_spec.2
theorem AFo (ns:List Int)(lo hi:Option Int):∃ cs:List Int,cutD (ns.map PyData.int) lo hi=cs.map PyData.int∧cs.length≤ns.length:=AGc PyData.int ns lo hi
noncomputable def MK (n W:Nat):List D:=(List.range n).map fun i=>.int (Ce n W i:Int)
theorem fH (n:Nat)(h:n<16777216):Dn [.int (n:Int)]=some ((List.range n).map fun i:Nat=>.int (i:Int)):=by
 rw[J7 _ ⟨by omega,by omega⟩]
 unfold Ci
 rw[Int.toNat_natCast]
 congr 1
 apply List.map_congr_left
 intro i _
 show PyData.int (0+(i:Int))=.int (i:Int)
 rw[Int.zero_add]
noncomputable def Lx (ts:List Thing)(i:Nat):D:=.tuple [.int (i:Int),encD (ts.getD i none)]
theorem Wy (ts:List Thing):Gf (ts.map encD)=(List.range ts.length).map (Lx ts):=by
 unfold Gf
 apply List.ext_getElem?
 intro i
 rw[List.getElem?_map,List.getElem?_zipIdx,List.getElem?_map,List.getElem?_map]
 by_cases h:i<ts.length
 ·rw[List.getElem?_range h]
  simp [h,Lx]
 ·rw[List.getElem?_eq_none (show ts.length≤i by omega),List.getElem?_eq_none (show (List.range ts.length).length≤i by simp;omega)]
  rfl
theorem AHb {bs:D→Af→Option Af}{F:Ai}(ts:List Thing)(R:Nat→Af→Prop)(H:∀ i ρ,i<ts.length→R i ρ→∃ ρ1 ρ2,bs (Lx ts i) ρ=some ρ1∧F ρ1=some (.nx ρ2)∧R (i+1) ρ2)(ρ:Af)(r:R 0 ρ) :
  ∃ ρ',Bx bs F (Gf (ts.map encD)) ρ=some (.nx ρ')∧R ts.length ρ':=by
 rw[Wy]
 obtain⟨ρ',h1,h2⟩:=Zo (bs:=bs) (F:=F) (Lx ts) (fun pre ρ=>R pre.length ρ) (List.range ts.length) (by
  intro pre x post ρ e r
  have hx:x=pre.length:=by
   have h:=congrArg (fun l=>l[pre.length]?) e
   simp only[List.getElem?_append_right (Nat.le_refl _),Nat.sub_self,List.getElem?_cons_zero] at h
   have hlt:pre.length<ts.length:=by
    have:=congrArg List.length e
    simp at this
    omega
   rw[List.getElem?_range hlt] at h
   exact (Option.some.inj h).symm
  have hlt:pre.length<ts.length:=by
   have:=congrArg List.length e
   simp at this
   omega
  subst hx
  obtain⟨ρ1,ρ2,a,b,c⟩:=H pre.length ρ hlt r
  exact⟨ρ1,ρ2,a,b,by rw[List.length_append];exact c⟩) ρ r
 exact⟨ρ',h1,by rw[List.length_range] at h2;exact h2⟩
theorem AIE (ts:List Thing){w st s hh:Nat}(hlen:ts.length=2 ^ hh*w)(hs:s<ts.length)(h:((keysOf ts).length:Int)<2 ^ hh*((w:Int)-hh*st)):Ep ts w st s hh:=by
 unfold Ep
 have hb:Bv w s hh=0:=by
  unfold Bv
  rw[← hlen,Nat.div_eq_of_lt hs,Nat.zero_mul]
 rw[hb,← hlen]
 unfold cnt
 rw[List.drop_zero,Nat.zero_add,Nat.sub_zero,List.take_of_length_le (Nat.le_refl _)]
 rw[Hj,List.length_map] at h
 exact h
theorem Wi:∀ (s:List Thing) (k a b:Nat),(things ((s.drop a).take (b-a))).length=((Ao k s).filter fun p=>decide (k+a≤p.1) && decide (p.1<k+b)).length
 | [],k,a,b=>by simp [Ao,things]
 | t::r,k,a,b=>by
  have hge:=Ec r (k+1)
  by_cases hb:b=0
  ·subst hb
   have AJo:=Ec (t::r) k
   rw[Nat.zero_sub,List.take_zero]
   have:((Ao k (t::r)).filter fun p=>decide (k+a≤p.1) && decide (p.1<k+0))=[]:=by
    rw[List.filter_eq_nil_iff]
    intro p hp
    have:=AJo p hp
    simp
    omega
   rw[this]
   rfl
  obtain⟨b',rfl⟩:∃ b',b=b'+1:=⟨b-1,by omega⟩
  cases a with
  | zero =>
   rw[List.drop_zero,Nat.sub_zero,List.take_succ_cons]
   have ih:=Wi r (k+1) 0 b'
   rw[List.drop_zero,Nat.sub_zero] at ih
   have e:((Ao (k+1) r).filter fun p=>decide (k+1+0≤p.1) && decide (p.1<k+1+b'))=((Ao (k+1) r).filter fun p=>decide (k+0≤p.1) && decide (p.1<k+(b'+1))):=by
    apply List.filter_congr
    intro p hp
    have:=hge p hp
    rw[Bool.eq_iff_iff]
    simp only[Bool.and_eq_true,decide_eq_true_eq]
    omega
   rw[e] at ih
   cases t with
   | none=>exact ih
   | some x =>
    have h1:(decide (k+0≤k) && decide (k<k+(b'+1)))=true:=by simp
    show (x::things (r.take b')).length=(((k,x)::Ao (k+1) r).filter _).length
    rw[List.filter_cons,if_pos h1,List.length_cons,List.length_cons,ih]
  | succ a' =>
   rw[List.drop_succ_cons,Nat.add_sub_add_right,Wi r (k+1) a' b']
   have e:((Ao (k+1) r).filter fun p=>decide (k+1+a'≤p.1) && decide (p.1<k+1+b'))=((Ao (k+1) r).filter fun p=>decide (k+(a'+1)≤p.1) && decide (p.1<k+(b'+1))):=by
    apply List.filter_congr
    intro p hp
    rw[Bool.eq_iff_iff]
    simp only[Bool.and_eq_true,decide_eq_true_eq]
    omega
   rw[e]
   cases t with
   | none=>rfl
   | some x =>
    have h1:¬ (decide (k+(a'+1)≤k) && decide (k<k+(b'+1)))=true:=by simp
    show _=(((k,x)::Ao (k+1) r).filter _).length
    rw[List.filter_cons,if_neg h1]
theorem AIz (s:List Thing)(a b:Nat):cnt s a b=(((Ao 0 s).map (·.1)).filter fun p=>decide (a≤p) && decide (p<b)).length:=by
 unfold cnt
 rw[Wi s 0 a b,List.filter_map,List.length_map]
 congr 1
 apply List.filter_congr
 intro p _
 simp
noncomputable def Ri:Ai:=(Aq 1 (vS (Ab CZ (Aa 1) (Ad (.int 2)))))
noncomputable def Va:Ai:=(Ak (Aq 1 (vS (Ad (.int 1))))
  (Ak (Eu (Az Dn (Ac (Aa 0) Ae)) (Ek 2) Ri)
  (Bs (Aa 1))))
noncomputable def Tp:List D→Option D:=Cz 1 3 Va
noncomputable def T8:Ai:=(Ak (Aq 2 (vS (Ab Al (Aa 0) (Ad (.int 1)))))
  (Bs (Ab CZ (Am Tp (Ac (Aa 1) Ae)) (Aa 2))))
noncomputable def Qy:List D→Option D:=Cz 2 3 T8
noncomputable def U7:Ai:=(Ak (Aq 3 (vS (Am Qy (Ac (Aa 0) (Ac (Aa 1) Ae)))))
  (Ak (Aq 4 (vS (Ab CZ (Ab CP (Aa 2) (Aa 3)) (Aa 3))))
  (Bs (BV (Ac (Aa 4) (Ac (Ab CG (Aa 4) (Aa 3)) Ae))))))
noncomputable def Ve:List D→Option D:=Cz 3 5 U7
noncomputable def UW:Ai:=(Ak (Aq 2 (vS (Ab Al (Aa 0) (Ad (.int 1)))))
  (Ak (Aq 3 (vS (Ab Al (Aa 0) (Ad (.int 2)))))
  (Bs (Ab CZ (Am Tp (Ac (Aa 1) Ae)) (Ab Cr (Aa 2) (Ab CZ (Aa 3) (Aa 1)))))))
noncomputable def Qs:List D→Option D:=Cz 2 4 UW
noncomputable def U8:Ai:=(El (BX (Az Dn (Ac (Aa 0) Ae)) (Bg 0) DK (Ab CP (Ab CZ (Aa 0) (Aa 2)) (Aa 1)) 1 [0,1]))
noncomputable def K9:List D→Option (List D):=Dt 2 2 U8
noncomputable def HH:Ai:=(CN (Fo (Av (Ab BZ (Aa 3) (BV Ae))) (Av (Ab Bp (Ab Al (Aa 3) (Ad (.int 0))) (Aa 1))))
    (Bs (Aa 2)) CQ)
noncomputable def QZ:Ai:=(Ak (Eu (Az HX (Ac (Aa 0) Ae)) (Eb 2 3) HH)
  (Bs (Ad .none)))
noncomputable def K3:List D→Option D:=Cz 2 4 QZ
noncomputable def S9:Ai:=(CN (Fo (Av (Ab BZ (Aa 4) (BV Ae))) (Av (Ab Er (Ab Al (Aa 4) (Ad (.int 0))) (Aa 1))))
    (Aq 2 (vS (Aa 3))) CQ)
noncomputable def R5:Ai:=(Ak (Aq 2 (vS (Ad (.int 0))))
  (Ak (Eu (Az HX (Ac (Aa 0) Ae)) (Eb 3 4) S9)
  (Bs (Aa 2))))
noncomputable def Rn:List D→Option D:=Cz 2 5 R5
noncomputable def O6:Ai:=(Ak (Aq 6 (vS (Am Ve (Ac (Aa 0) (Ac (Aa 5) (Ac (Aa 4) Ae))))))
   (CN (Av (Ab Er (Am Nh (Ac (Aa 2) (Ac (Ab Al (Aa 6) (Ad (.int 0))) (Ac (Ab Al (Aa 6) (Ad (.int 1))) Ae)))) (Am Qs (Ac (Aa 0) (Ac (Aa 5) Ae)))))
    (Bs (Aa 5)) CQ))
noncomputable def Uc:Ai:=(Ak (Aq 4 (vS (Am Rn (Ac (Aa 2) (Ac (Aa 3) Ae)))))
  (Ak (Eu (Az Dn (Ac (Ab CG (Aa 1) (Ad (.int 1))) Ae)) (Ek 5) O6)
  (Bs (Ad .none))))
noncomputable def Zm:List D→Option D:=Cz 4 7 Uc
theorem uK (h:Nat)(hh:h<1000):Tp [.int (h:Int)]=some (.int (2 ^ h)):=by
 have loop:=Tw (bs:=Ek 2) (F:=Ri) (lo:=0) (fun i ρ=>∃ s2,ρ=[.sh (.int (h:Int)),.sh (.int (2 ^ i)),s2]) h ?_ [.sh (.int (h:Int)),.sh (.int 1),.no] ⟨_,rfl⟩
 ·obtain⟨ρ',hf,s2,rfl⟩:=loop
  have hr:=J7 (h:Int) ⟨by omega,by omega⟩
  rw[Int.toNat_natCast] at hr
  generalize (2:Int) ^ h=P at *
  refine Dl (o:=.rt (.int P)) rfl ?_ rfl
  unfold Va
  refine Aw (ρ':=[.sh (.int (h:Int)),.sh (.int 1),.no]) (by clear hf;walk_at "pu") ?_
  refine Aw ((GJ (items:=Ci 0 h) (by clear hf;walk_at "pu")).trans hf) (by clear hf hr;walk_at "pu")
 ·rintro i ρ hi ⟨s2,rfl⟩
  rw[Int.zero_add]
  refine⟨_,[.sh (.int (h:Int)),.sh (.int (2 ^ (i+1))),.sh (.int (i:Int))],rfl,?_,_,rfl⟩
  rw[Int.pow_succ]
  generalize (2:Int) ^ i=P
  unfold Ri
  clear hi hh
  walk_at "pu"
theorem Tu {h:Nat}(hh:h≤4):-18446744073709551616<(2:Int) ^ h∧(2:Int) ^ h<18446744073709551616:=by
 match h,hh with
 | 0,_=>decide
 | 1,_=>decide
 | 2,_=>decide
 | 3,_=>decide
 | 4,_=>decide
theorem places_eq {t:Int}{w st h:Nat}(hh:h≤4):Qy [.tuple [.int t,.int (w:Int),.int (st:Int)],.int (h:Int)]=some (.int ((2 ^ h*w:Nat):Int)):=by
 have h2:=uK h (by omega)
 have hs:=Tu hh
 rw[Int.natCast_mul,Int.natCast_pow,show ((2:Nat):Int)=2 from rfl]
 generalize (2:Int) ^ h=P at *
 refine Dl (o:=.rt (.int _)) rfl ?_ rfl
 unfold T8
 clear hh
 walk_at "pu"
theorem bC {t:Int}{w st h p:Nat}(hh:h≤4)(w1:1≤w)(w20:w≤20):Ve [.tuple [.int t,.int (w:Int),.int (st:Int)],.int (h:Int),.int (p:Int)]=some (.tuple [.int (Bv w p h:Int),.int ((Bv w p h+2 ^ h*w:Nat):Int)]):=by
 have h2:=places_eq (t:=t) (w:=w) (st:=st) hh
 have hz:=Ia hh w1 w20
 unfold Bv
 rw[Int.natCast_add,Int.natCast_mul (p / (2 ^ h*w)),Int.natCast_ediv]
 generalize 2 ^ h*w=Z at *
 have a1:0<(Z:Int)∧(Z:Int)<1073741824:=by omega
 have a2:-18446744073709551616<(Z:Int)∧(Z:Int)<18446744073709551616:=by omega
 refine Dl (o:=.rt (.tuple _)) rfl ?_ rfl
 unfold U7
 clear hh hz w1 w20
 walk_at "pu"
theorem U3 {t:Int}{w st h:Nat}(hh:h≤4)(Eh:st≤20):Qs [.tuple [.int t,.int (w:Int),.int (st:Int)],.int (h:Int)]=some (.int (2 ^ h*((w:Int)-(h:Int)*(st:Int)))):=by
 have h2:=uK h (by omega)
 have hs:=Tu hh
 have hs2:-18446744073709551616<(st:Int)∧(st:Int)<18446744073709551616:=by omega
 rw[Int.mul_comm (h:Int) (st:Int)]
 generalize (2:Int) ^ h=P at *
 refine Dl (o:=.rt (.int _)) rfl ?_ rfl
 unfold UW
 clear hh Eh
 walk_at "pu"
theorem held_eq (ts:List Thing)(hl:ts.length<16777216)(a b:Nat):Nh [.list (ts.map encD),.int (a:Int),.int (b:Int)]=some (.int (cnt ts a b:Int)):=by
 have hc:BX (Az HX (Ac (Aa 0) Ae)) (J0 0 1) (Fo (Av (K6 Kq Er (Aa 2) (Aa 0) (Aa 3))) (Av (Ab BZ (Aa 1) (BV Ae)))) (Aa 1) 2 [1,2] [some (.list (ts.map encD)),some (.int (a:Int)),some (.int (b:Int))] =
   some (((List.range ts.length).filter fun i=>(decide (a≤i) && decide (i<b)) && Fj (ts.getD i none)).map fun i=>encD (ts.getD i none)):=by
  rw[HF (items:=(List.range ts.length).map (Lx ts)) (by rw[← Wy];walk_at "pu") (by simpa using hl),Ii (Lx ts) (fun i=>(decide (a≤i) && decide (i<b)) && Fj (ts.getD i none)) fun i=>encD (ts.getD i none)]
  intro i hi
  refine⟨[some (.int (i:Int)),some (encD (ts.getD i none)),some (.int (a:Int)),some (.int (b:Int))],rfl,?_,fun _=>rfl⟩
  have e1:decide ((a:Int)≤(i:Int))=decide (a≤i):=by simp
  have e2:decide ((i:Int)<(b:Int))=decide (i<b):=by simp
  have e3:Fj (ts.getD i none) = !decide (ts.getD i none=none):=rfl
  rw[e3]
  generalize ts.getD i none=u at *
  clear hi hl e3
  by_cases c1:a≤i
  ·by_cases c2:i<b
   ·have c1':(a:Int)≤(i:Int):=by omega
    have c2':(i:Int)<(b:Int):=by omega
    clear e1 e2
    walk_at "pu"
   ·have c1':(a:Int)≤(i:Int):=by omega
    have c2':¬ (i:Int)<(b:Int):=by omega
    clear e1 e2
    walk_at "pu"
  ·have c1':¬ (a:Int)≤(i:Int):=by omega
   clear e1 e2
   walk_at "pu"
 have hn:((List.range ts.length).filter fun i=>(decide (a≤i) && decide (i<b)) && Fj (ts.getD i none)).length=cnt ts a b:=by
  rw[AIz,← YQ,List.filter_filter,← List.range_eq_range']
  refine congrArg List.length (List.filter_congr fun i _=>?_)
  rw[Nat.sub_zero]
 refine Dl (o:=.rt (.int _)) rfl ?_ rfl
 unfold T5
 rw[← hn]
 generalize ((List.range ts.length).filter fun i=>(decide (a≤i) && decide (i<b)) && Fj (ts.getD i none))=X at *
 clear hn hl
 walk_at "pu"
theorem pK (ts:List Thing):cnt ts 0 ts.length=(things ts).length:=by
 unfold cnt
 simp
theorem gQ (ts:List Thing)(hl:ts.length<16777216)(k:Int):Rn [.list (ts.map encD),.int k]=some (.int (Br ts k ts.length:Int)):=by
 have loop:=AHb (bs:=Eb 3 4) (F:=S9) ts (fun i ρ=>∃ s3 s4,ρ=[.sh (.list (ts.map encD)),.sh (.int k),.sh (.int (Br ts k i:Int)),s3,s4]) ?_ [.sh (.list (ts.map encD)),.sh (.int k),.sh (.int 0),.no,.no] ⟨_,_,rfl⟩
 ·obtain⟨ρ',hf,s3,s4,rfl⟩:=loop
  refine Dl (o:=.rt (.int (Br ts k ts.length:Int))) rfl ?_ rfl
  unfold R5
  refine Aw (ρ':=[.sh (.list (ts.map encD)),.sh (.int k),.sh (.int 0),.no,.no]) (by clear hf;walk_at "pu") ?_
  refine Aw ((GJ (items:=Gf (ts.map encD)) (by clear hf;walk_at "pu")).trans hf) (by clear hf;walk_at "pu")
 ·rintro i ρ hi ⟨s3,s4,rfl⟩
  refine⟨_,[.sh (.list (ts.map encD)),.sh (.int k),.sh (.int (Br ts k (i+1):Int)),.sh (.int (i:Int)),.sh (encD (ts.getD i none))],rfl,?_,_,_,rfl⟩
  have hs:Br ts k (i+1)=if Hi ts k i=true then i else Br ts k i:=rfl
  unfold Hi at hs
  generalize ts.getD i none=t at *
  generalize Br ts k i=s at *
  generalize Br ts k (i+1)=s' at *
  unfold S9
  cases t with
  | none =>
   have hs':s'=s:=by simpa using hs
   subst hs'
   clear hs hi
   walk_at "pu"
  | some x =>
   have hx:encD (some x)=.tuple [.int x.1,.int x.2]:=rfl
   have hne:BZ (.tuple [.int x.1,.int x.2]) (.tuple [])=some (.bool true):=by rfl
   rw[hx]
   by_cases hk:x.1<k
   ·have hs':s'=i:=by simpa [hk] using hs
    subst hs'
    clear hs hi hx
    walk_at "pu"
   ·have hs':s'=s:=by simpa [hk] using hs
    subst hs'
    clear hs hi hx
    walk_at "pu"
noncomputable def Ew (k:Int):Nat→List Thing→Option Nat
 | _,[]=>none
 | i,none::r=>Ew k (i+1) r
 | i,some x::r=>if x.1=k then some i else Ew k (i+1) r
theorem PX {k:Int}:∀ (ts:List Thing) (i:Nat),Ew k i ts=none ↔ k ∉ keysOf ts
 | [],i=>by simp [Ew,keysOf]
 | none::r,i=>by rw[Ew,ADX];exact PX r (i+1)
 | some x::r,i=>by
  rw[Ew,AJJ]
  have ih:=PX (k:=k) r (i+1)
  split
  ·rename_i h
   simp [h]
  ·rename_i h
   rw[ih,List.mem_cons,not_or]
   exact⟨fun q=>⟨fun e=>h e.symm,q⟩,fun q=>q.2⟩
theorem V9 {k:Int}:∀ (ts:List Thing) (i p:Nat),Ew k i ts=some p→i≤p∧p<i+ts.length∧∃ a,ts.getD (p-i) none=some (k,a)
 | [],i,p,h=>by cases h
 | none::r,i,p,h=>by
  obtain⟨h1,h2,a,h3⟩:=V9 r (i+1) p h
  refine⟨by omega,by simp;omega,a,?_⟩
  rw[show p-i=(p-(i+1))+1 by omega]
  exact h3
 | some x::r,i,p,h=>by
  rw[Ew] at h
  split at h
  ·rename_i e
   cases h
   exact⟨Nat.le_refl _,by simp,x.2,by rw[Nat.sub_self];show some x=_;rw[← e]⟩
  ·obtain⟨h1,h2,a,h3⟩:=V9 r (i+1) p h
   refine⟨by omega,by simp;omega,a,?_⟩
   rw[show p-i=(p-(i+1))+1 by omega]
   exact h3
theorem Yj (L:D)(k:Int):∀ (ts:List Thing) (i:Nat) (s2 s3:Sl),(∃ s2' s3',Ew k i ts=none∧Bx (Eb 2 3) HH ((ts.map encD).zipIdx i |>.map fun p=>.tuple [.int (p.2:Nat),p.1]) [.sh L,.sh (.int k),s2,s3]=some (.nx [.sh L,.sh (.int k),s2',s3']))∨(∃ p,Ew k i ts=some p∧Bx (Eb 2 3) HH ((ts.map encD).zipIdx i |>.map fun p=>.tuple [.int (p.2:Nat),p.1]) [.sh L,.sh (.int k),s2,s3]=some (.rt (.int (p:Int))))
 | [],i,s2,s3=>.inl ⟨s2,s3,rfl,rfl⟩
 | none::r,i,s2,s3=>by
  have hstep:HH [.sh L,.sh (.int k),.sh (.int (i:Int)),.sh (encD none)]=some (.nx [.sh L,.sh (.int k),.sh (.int (i:Int)),.sh (encD none)]):=by
   unfold HH
   walk_at "pu"
  have h1:=HY (bs:=Eb 2 3) (F:=HH) (d:=.tuple [.int (i:Int),encD none]) (ds:=((r.map encD).zipIdx (i+1) |>.map fun p=>.tuple [.int (p.2:Nat),p.1])) (ρ:=[.sh L,.sh (.int k),s2,s3]) rfl hstep
  rcases Yj L k r (i+1) (.sh (.int (i:Int))) (.sh (encD none)) with⟨a,b,q1,q2⟩ | ⟨p,q1,q2⟩
  ·exact .inl ⟨a,b,q1,h1.trans q2⟩
  ·exact .inr ⟨p,q1,h1.trans q2⟩
 | some x::r,i,s2,s3=>by
  have hx:encD (some x)=.tuple [.int x.1,.int x.2]:=rfl
  have hne:BZ (.tuple [.int x.1,.int x.2]) (.tuple [])=some (.bool true):=by rfl
  by_cases hk:x.1=k
  ·have hstep:HH [.sh L,.sh (.int k),.sh (.int (i:Int)),.sh (encD (some x))]=some (.rt (.int (i:Int))):=by
    unfold HH
    rw[hx]
    clear hx
    subst hk
    walk_at "pu"
   exact .inr ⟨i,by rw[Ew,if_pos hk],RC (bs:=Eb 2 3) (F:=HH) (d:=.tuple [.int (i:Int),encD (some x)]) rfl hstep⟩
  ·have hstep:HH [.sh L,.sh (.int k),.sh (.int (i:Int)),.sh (encD (some x))]=some (.nx [.sh L,.sh (.int k),.sh (.int (i:Int)),.sh (encD (some x))]):=by
    unfold HH
    rw[hx]
    clear hx
    walk_at "pu"
   have h1:=HY (bs:=Eb 2 3) (F:=HH) (d:=.tuple [.int (i:Int),encD (some x)]) (ds:=((r.map encD).zipIdx (i+1) |>.map fun p=>.tuple [.int (p.2:Nat),p.1])) (ρ:=[.sh L,.sh (.int k),s2,s3]) rfl hstep
   rcases Yj L k r (i+1) (.sh (.int (i:Int))) (.sh (encD (some x))) with⟨a,b,q1,q2⟩ | ⟨p,q1,q2⟩
   ·exact .inl ⟨a,b,by rw[Ew,if_neg hk];exact q1,h1.trans q2⟩
   ·exact .inr ⟨p,by rw[Ew,if_neg hk];exact q1,h1.trans q2⟩
theorem U6 (ts:List Thing)(k:Int):K3 [.list (ts.map encD),.int k]=some (Z7 (Ew k 0 ts)):=by
 rcases Yj (.list (ts.map encD)) k ts 0 .no .no with⟨a,b,q1,q2⟩ | ⟨p,q1,q2⟩
 ·refine Dl (o:=.rt .none) rfl ?_ (by rw[q1];rfl)
  unfold QZ
  refine Aw ((GJ (items:=Gf (ts.map encD)) (by clear q1 q2;walk_at "pu")).trans q2) (by clear q1 q2;walk_at "pu")
 ·refine Dl (o:=.rt (.int (p:Int))) rfl ?_ (by rw[q1];rfl)
  unfold QZ
  exact Kz ((GJ (items:=Gf (ts.map encD)) (by clear q1 q2;walk_at "pu")).trans q2)
theorem vD {n W:Nat}(hn:0<n)(hn2:n<16777216):K9 [.int (n:Int),.int (W:Int)]=some (MK n W):=by
 have hr:=fH n hn2
 have hc:BX (Az Dn (Ac (Aa 0) Ae)) (Bg 0) DK (Ab CP (Ab CZ (Aa 0) (Aa 2)) (Aa 1)) 1 [0,1] [some (.int (n:Int)),some (.int (W:Int))]=some (MK n W):=by
  rw[HF (items:=(List.range n).map fun i:Nat=>.int (i:Int)) (by walk_at "pu") (by simpa using hn2),Vj _ (fun i=>.int (Ce n W i:Int))]
  ·rfl
  ·intro i hi
   have hi':=List.mem_range.mp hi
   refine⟨[some (.int (i:Int)),some (.int (n:Int)),some (.int (W:Int))],rfl,?_⟩
   have e:((Ce n W i:Nat):Int)=(i:Int)*(W:Int) / (n:Int):=by
    unfold Ce
    rw[Int.natCast_ediv,Int.natCast_mul]
   have a1:0<(n:Int)∧(n:Int)<1073741824:=by omega
   have a2:-18446744073709551616<(i:Int)∧(i:Int)<18446744073709551616:=by omega
   clear hr hi hi'
   walk_at "pu"
 refine FN rfl ?_
 unfold U8
 walk_at "pu"
theorem AHL {bs:D→Af→Option Af}{F:Ai}(R:Af→Prop){h n:Nat}{r:D}(hn:h<n)(H:∀ (i:Nat) ρ,i<h→R ρ→∃ ρ1 ρ2,bs (.int (i:Int)) ρ=some ρ1∧F ρ1=some (.nx ρ2)∧R ρ2)(Hl:∀ ρ,R ρ→∃ ρ1,bs (.int (h:Int)) ρ=some ρ1∧F ρ1=some (.rt r))(ρ:Af)(h0:R ρ) :
  Bx bs F (Ci 0 n) ρ=some (.rt r):=by
 have key:∀ (d j:Nat) (ρ:Af),j+d=h→R ρ→Bx bs F ((List.range' j (n-j)).map fun i:Nat=>(.int (0+(i:Int)):D)) ρ=some (.rt r):=by
  intro d
  induction d with
  | zero =>
   intro j ρ hj hr
   obtain⟨m,hm⟩:∃ m,n-j=m+1:=⟨n-j-1,by omega⟩
   rw[hm,List.range'_succ,List.map_cons,Int.zero_add]
   have:j=h:=by omega
   subst this
   obtain⟨ρ1,q1,q2⟩:=Hl ρ hr
   exact RC q1 q2
  | succ d ih =>
   intro j ρ hj hr
   obtain⟨m,hm⟩:∃ m,n-j=m+1:=⟨n-j-1,by omega⟩
   rw[hm,List.range'_succ,List.map_cons,Int.zero_add]
   obtain⟨ρ1,ρ2,q1,q2,q3⟩:=H j ρ (by omega) hr
   rw[HY q1 q2]
   have:=ih (j+1) ρ2 (by omega) q3
   rw[show n-(j+1)=m by omega] at this
   exact this
 have:=key h 0 ρ (by omega) h0
 rw[Nat.sub_zero,← List.range_eq_range'] at this
 exact this
theorem AFH (ts:List Thing)(t:Int)(w st hh:Nat)(k:Int)(h:Nat)(w1:1≤w)(w20:w≤20)(Eh:st≤20)(h4:hh≤4)(hlen:ts.length=2 ^ hh*w)(hle:h≤hh)(hr:Ep ts w st (Br ts k ts.length) h)(hno:∀ l,l<h→¬ Ep ts w st (Br ts k ts.length) l) :
  Zm [.tuple [.int t,.int (w:Int),.int (st:Int)],.int (hh:Int),.list (ts.map encD),.int k]=some (.int (h:Int)):=by
 have hz:=Ia h4 w1 w20
 have hl:ts.length<16777216:=by omega
 have Ko:=gQ ts hl k
 generalize Br ts k ts.length=s at *
 have loop:=AHL (bs:=Ek 5) (F:=O6) (r:=.int (h:Int)) (n:=hh+1) (h:=h) (fun ρ=>∃ s5 s6,ρ=[.sh (.tuple [.int t,.int (w:Int),.int (st:Int)]),.sh (.int (hh:Int)),.sh (.list (ts.map encD)),.sh (.int k),.sh (.int (s:Int)),s5,s6]) (by omega) ?_ ?_ [.sh (.tuple [.int t,.int (w:Int),.int (st:Int)]),.sh (.int (hh:Int)),.sh (.list (ts.map encD)),.sh (.int k),.sh (.int (s:Int)),.no,.no] ⟨_,_,rfl⟩
 ·have hr:=J7 ((hh:Int)+1) ⟨by omega,by omega⟩
  rw[show ((hh:Int)+1).toNat=hh+1 by omega] at hr
  refine Dl (o:=.rt (.int (h:Int))) rfl ?_ rfl
  unfold Uc
  clear hno hz hle hl h4 Eh w20 w1 hlen
  refine Aw (ρ':=[.sh (.tuple [.int t,.int (w:Int),.int (st:Int)]),.sh (.int (hh:Int)),.sh (.list (ts.map encD)),.sh (.int k),.sh (.int (s:Int)),.no,.no]) (by clear loop hr;walk_at "pu") ?_
  exact Kz ((GJ (items:=Ci 0 (hh+1)) (by clear loop;walk_at "pu")).trans loop)
 ·rintro i ρ hi ⟨s5,s6,rfl⟩
  have hs:=bC (t:=t) (w:=w) (st:=st) (h:=i) (p:=s) (by omega) w1 w20
  have hc:=U3 (t:=t) (w:=w) (st:=st) (h:=i) (by omega) Eh
  have hheld:=held_eq ts hl (Bv w s i) (Bv w s i+2 ^ i*w)
  have hnot:=hno i hi
  unfold Ep at hnot
  generalize hC:(cnt ts (Bv w s i) (Bv w s i+2 ^ i*w):Int)=C at *
  generalize hP:(2:Int) ^ i*((w:Int)-(i:Int)*(st:Int))=P at *
  generalize ((Bv w s i+2 ^ i*w:Nat):Int)=E at *
  generalize (Bv w s i:Int)=B at *
  refine⟨_,[.sh (.tuple [.int t,.int (w:Int),.int (st:Int)]),.sh (.int (hh:Int)),.sh (.list (ts.map encD)),.sh (.int k),.sh (.int (s:Int)),.sh (.int (i:Int)),.sh (.tuple [.int B,.int E])],rfl,?_,_,_,rfl⟩
  unfold O6
  clear hno hC hP hr Ko hz hle hl h4 Eh w20 w1 hlen hi
  walk_at "pu"
 ·rintro ρ ⟨s5,s6,rfl⟩
  have hs:=bC (t:=t) (w:=w) (st:=st) (h:=h) (p:=s) (by omega) w1 w20
  have hc:=U3 (t:=t) (w:=w) (st:=st) (h:=h) (by omega) Eh
  have hheld:=held_eq ts hl (Bv w s h) (Bv w s h+2 ^ h*w)
  unfold Ep at hr
  generalize hC:(cnt ts (Bv w s h) (Bv w s h+2 ^ h*w):Int)=C at *
  generalize hP:(2:Int) ^ h*((w:Int)-(h:Int)*(st:Int))=P at *
  generalize ((Bv w s h+2 ^ h*w:Nat):Int)=E at *
  generalize (Bv w s h:Int)=B at *
  refine⟨_,rfl,?_⟩
  unfold O6
  clear hno hC hP Ko hz hle hl h4 Eh w20 w1 hlen
  walk_at "pu"
theorem Wq {α β:Type}(f:α→β):∀ (xs:List α) (k:Nat),(xs.map f).eraseIdx k=(xs.eraseIdx k).map f
 | [],_=>rfl
 | _::_,0=>rfl
 | x::xs,k+1=>congrArg (f x :: ·) (Wq f xs k)
noncomputable def Cv (t:Tr):D:=encM (t.1,t.2.1)
noncomputable def CV (l:List Tr):List (Nat×Thing):=l.flatMap fun t=>[(t.2.1,some t.2.2),(t.1,none)]
theorem Nu (l:List Tr):(CV l).length=2*l.length:=by
 induction l with
 | nil=>rfl
 | cons t l ih=>show (CV l).length+1+1=_;rw[ih,List.length_cons];omega
theorem AH2 (l m:List Tr):CV (l++m)=CV l++CV m:=by
 unfold CV
 rw[List.flatMap_append]
theorem jJ (l:List Tr)(t:Tr):CV (l++[t])=CV l++[(t.2.1,some t.2.2),(t.1,none)]:=AH2 l [t]
theorem aN (ts:List Thing)(a b:List (Nat×Thing)):doneF ts (a++b)=doneF (doneF ts a) b:=by
 unfold doneF
 rw[List.foldl_append]
theorem Run.done {P:List Thing→Tr→Prop}{s s':List Thing}{l:List Tr}(r:Run P s l s'):s'=doneF s (CV l):=by
 induction r with
 | nil=>rfl
 | cons _ _ ih=>exact ih
theorem Run.mid {P:List Thing→Tr→Prop}{t:Tr}{post:List Tr}{s':List Thing}:∀ {pre:List Tr}{s:List Thing},Run P s (pre++t::post) s'→P (doneF s (CV pre)) t
 | [],s,r=>by cases r with | cons p _=>exact p
 | u::pre,s,r=>by cases r with | cons _ r=>exact Run.mid (pre:=pre) r
noncomputable def Cp (P:PP)(A:List Nat):List Tr:=List.zipWith (fun p a=>(p.1,a,p.2)) P A
theorem Rm:∀ (P:PP) (A:List Nat),A.length=P.length→(Cp P A).map (·.1)=P.map (·.1)∧(Cp P A).map (fun t=>t.2.1)=A∧Hk (Cp P A)=P
 | [],[],_=>⟨rfl,rfl,rfl⟩
 | [],_::_,h=>by simp at h
 | _::_,[],h=>by simp at h
 | p::P,a::A,h=>by
  obtain⟨h1,h2,h3⟩:=Rm P A (by simpa using h)
  refine⟨?_,?_,?_⟩
  ·show p.1::(Cp P A).map (·.1)=p.1::P.map (·.1)
   rw[h1]
  ·show a::(Cp P A).map (fun t=>t.2.1)=a::A
   rw[h2]
  ·show (p.1,p.2)::Hk (Cp P A)=p::P
   rw[h3]
theorem ZC:∀ (P:PP) (A:List Nat),A.length=P.length→(at2 (Cp P A)).map (·.1)=A∧(at2 (Cp P A)).map (·.2)=P.map (·.2)
 | [],[],_=>⟨rfl,rfl⟩
 | [],_::_,h=>by simp at h
 | _::_,[],h=>by simp at h
 | p::P,a::A,h=>by
  obtain⟨h1,h2⟩:=ZC P A (by simpa using h)
  exact⟨congrArg (a :: ·) h1,congrArg (p.2 :: ·) h2⟩
theorem AAm:∀ (P:PP) (A:List Nat) (Q:PP) (B:List Nat),A.length=P.length→Cp (P++Q) (A++B)=Cp P A++Cp Q B:=fun P A Q B h=>by
 unfold Cp
 exact List.zipWith_append h.symm
theorem iB (P:PP)(A:List Nat)(h:A.length=P.length):(Cp P A).length=P.length:=by
 unfold Cp
 rw[List.length_zipWith,h,Nat.min_self]
theorem vU:∀ (P:PP) (A:List Nat),A.length=P.length→P.Pairwise (fun a b=>a.1<b.1)→A.Pairwise (· < ·)→Up (Cp P A)
 | [],[],_,_,_=>.nil
 | [],_::_,h,_,_=>by simp at h
 | _::_,[],h,_,_=>by simp at h
 | p::P,a::A,h,hp,ha=>by
  have hl:A.length=P.length:=by simpa using h
  obtain⟨h1,h2,_⟩:=Rm P A hl
  have hp':=List.pairwise_cons.mp hp
  have ha':=List.pairwise_cons.mp ha
  refine List.pairwise_cons.mpr ⟨fun t ht=>⟨?_,?_⟩,vU P A hl hp'.2 ha'.2⟩
  ·have:t.1∈P.map (·.1):=by rw[← h1];exact List.mem_map_of_mem ht
   obtain⟨b,hb,e⟩:=List.mem_map.mp this
   have:=hp'.1 b hb
   show p.1<t.1
   rw[← e]
   exact this
  ·have:t.2.1∈A:=by
    rw[← h2]
    exact List.mem_map.mpr ⟨t,ht,rfl⟩
   exact ha'.1 _ this
theorem VN:∀ l:List Tr,(Du l).length+(Ed l).length≤l.length
 | []=>Nat.le_refl _
 | t::l=>by
  have ih:=VN l
  unfold Du Ed at *
  rw[List.length_reverse] at *
  rw[List.filter_cons,List.filter_cons]
  by_cases c1:t.1<t.2.1
  ·have c2:¬ t.2.1<t.1:=by omega
   simp only[c1,c2,decide_true,decide_false,if_true,List.length_cons,Bool.false_eq_true,if_false]
   omega
  ·by_cases c2:t.2.1<t.1
   ·simp only[c1,c2,decide_true,decide_false,if_true,List.length_cons,Bool.false_eq_true,if_false]
    omega
   ·simp only[c1,c2,decide_false,List.length_cons,Bool.false_eq_true,if_false]
    omega
theorem Ku:∀ (a b:List Thing) (k:Nat),Ao k (a++b)=Ao k a++Ao (k+a.length) b
 | [],b,k=>rfl
 | none::a,b,k=>by
  show Ao (k+1) (a++b)=Ao (k+1) a++_
  rw[Ku a b (k+1),List.length_cons,show k+1+a.length=k+(a.length+1) by omega]
 | some x::a,b,k=>by
  show (k,x)::Ao (k+1) (a++b)=(k,x)::Ao (k+1) a++_
  rw[Ku a b (k+1),List.length_cons,show k+1+a.length=k+(a.length+1) by omega]
  rfl
noncomputable def G7 (P:PP):List Tr:=P.map fun p=>(p.1,p.1,p.2)
theorem Rh (P:PP):Hk (G7 P)=P∧at2 (G7 P)=P:=by
 unfold Hk at2 G7
 constructor<;>rw[List.map_map]<;>exact List.map_id _
theorem T9 (P:PP):Du (G7 P)=[]∧Ed (G7 P)=[]:=by
 have h:∀ t∈G7 P,t.1=t.2.1:=fun t ht=>by
  obtain⟨p,_,rfl⟩:=List.mem_map.mp ht
  rfl
 constructor
 ·unfold Du
  rw[List.filter_eq_nil_iff.mpr fun t ht=>by have:=h t ht;simp [this]]
  rfl
 ·unfold Ed
  exact List.filter_eq_nil_iff.mpr fun t ht=>by have:=h t ht;simp [this]
theorem uR (a b:List Tr):Du (a++b)=Du b++Du a:=by
 unfold Du
 rw[List.filter_append,List.reverse_append]
theorem qP (a b:List Tr):Ed (a++b)=Ed a++Ed b:=by
 unfold Ed
 rw[List.filter_append]
theorem pF {a b:List Tr}(ha:Up a)(hb:Up b)(h:∀ s∈a,∀ t∈b,s.1<t.1∧s.2.1<t.2.1):Up (a++b):=List.pairwise_append.mpr ⟨ha,hb,h⟩
theorem pZ {P:PP}(h:P.Pairwise fun a b=>a.1<b.1):Up (G7 P):=by
 unfold Up G7
 rw[List.pairwise_map]
 exact h.imp fun q=>⟨q,q⟩
theorem AFg {X Y Z:List Thing}{A:List Nat}(hA:A.length=(Ao X.length Y).length)(hup:A.Pairwise (· < ·))(hin:∀ a∈A,X.length≤a∧a<X.length+Y.length) :
  ∃ s',Run Gn (X++Y++Z) (Du (Cp (Ao X.length Y) A)++Ed (Cp (Ao X.length Y) A)) s'∧Ao 0 s'=Ao 0 X++at2 (Cp (Ao X.length Y) A)++Ao (X.length+Y.length) Z∧s'.length=(X++Y++Z).length:=by
 generalize hl:Cp (Ao X.length Y) A=l
 have hup2:=vU (Ao X.length Y) A hA (Ox _ _) hup
 obtain⟨o1,o2,o3⟩:=Rm (Ao X.length Y) A hA
 rw[hl] at hup2 o1 o2 o3
 have in1:∀ t∈l,X.length≤t.1∧t.1<X.length+Y.length:=fun t ht=>by
  have:t.1∈(Ao X.length Y).map (·.1):=by rw[← o1];exact List.mem_map_of_mem ht
  obtain⟨p,hp,e⟩:=List.mem_map.mp this
  have:=Ec Y X.length p hp
  rw[← e]
  exact this
 have in2:∀ t∈l,X.length≤t.2.1∧t.2.1<X.length+Y.length:=fun t ht=>by
  have:t.2.1∈A:=by rw[← o2];exact List.mem_map.mpr ⟨t,ht,rfl⟩
  exact hin _ this
 have inX:∀ t∈G7 (Ao 0 X),t.1<X.length∧t.2.1=t.1:=fun t ht=>by
  obtain⟨p,hp,rfl⟩:=List.mem_map.mp ht
  have:=Ec X 0 p hp
  exact⟨by show p.1<_;omega,rfl⟩
 have inZ:∀ t∈G7 (Ao (X.length+Y.length) Z),X.length+Y.length≤t.1∧t.1<X.length+Y.length+Z.length∧t.2.1=t.1:=fun t ht=>by
  obtain⟨p,hp,rfl⟩:=List.mem_map.mp ht
  have:=Ec Z _ p hp
  exact⟨this.1,this.2,rfl⟩
 have key:=ABu (G7 (Ao 0 X)++(l++G7 (Ao (X.length+Y.length) Z))) (X++Y++Z) ?_ ?_ ?_
 ·obtain⟨s',r,h1,h2⟩:=key
  rw[uR,uR,qP,qP,(T9 _).1,(T9 _).2,(T9 _).1,(T9 _).2,List.append_nil,List.nil_append,List.nil_append,List.append_nil] at r
  refine⟨s',r,?_,h2⟩
  rw[h1]
  show at2 (G7 (Ao 0 X)++(l++G7 (Ao (X.length+Y.length) Z)))=_
  have e:∀ a b:List Tr,at2 (a++b)=at2 a++at2 b:=fun a b=>List.map_append
  rw[e,e,(Rh _).2,(Rh _).2,List.append_assoc]
 ·have e:∀ a b:List Tr,Hk (a++b)=Hk a++Hk b:=fun a b=>List.map_append
  rw[e,e,(Rh _).1,(Rh _).1,o3,Ku,Ku,Nat.zero_add,Nat.zero_add,List.length_append,List.append_assoc]
 ·refine pF (pZ (Ox _ _)) (pF hup2 (pZ (Ox _ _)) ?_) ?_
  ·intro s hs t ht
   have a:=in1 s hs
   have b:=in2 s hs
   have c:=inZ t ht
   omega
  ·intro s hs t ht
   have a:=inX s hs
   rcases List.mem_append.mp ht with ht | ht
   ·have b:=in1 t ht
    have c:=in2 t ht
    omega
   ·have c:=inZ t ht
    omega
 ·intro t ht
  rw[List.length_append,List.length_append]
  rcases List.mem_append.mp ht with ht | ht
  ·have:=inX t ht;omega
  ·rcases List.mem_append.mp ht with ht | ht
   ·have:=in2 t ht;omega
   ·have:=inZ t ht;omega
theorem AGa {f g:Nat}{L M R L' M' R':PP}(h:L++M++R=L'++M'++R')(hL:∀ p∈L,p.1<f)(hL':∀ p∈L',p.1<f)(hM:∀ p∈M,f≤p.1∧p.1<g)(hM':∀ p∈M',f≤p.1∧p.1<g)(hR:∀ p∈R,g≤p.1)(hR':∀ p∈R',g≤p.1)(hfg:f≤g):L=L'∧M=M'∧R=R':=by
 have cut:∀ {L M R:PP},(∀ p∈L,p.1<f)→(∀ p∈M,f≤p.1∧p.1<g)→(∀ p∈R,g≤p.1)→(L++M++R).filter (fun p=>decide (p.1<f))=L∧(L++M++R).filter (fun p=>decide (f≤p.1) && decide (p.1<g))=M∧(L++M++R).filter (fun p=>decide (g≤p.1))=R:=by
  intro L M R hL hM hR
  simp only[List.filter_append]
  refine⟨?_,?_,?_⟩
  ·rw[List.filter_eq_self.mpr fun p hp=>by have:=hL p hp;simp [this],List.filter_eq_nil_iff.mpr fun p hp=>by have:=hM p hp;simp;omega,List.filter_eq_nil_iff.mpr fun p hp=>by have:=hR p hp;simp;omega]
   simp
  ·rw[List.filter_eq_nil_iff.mpr fun p hp=>by have:=hL p hp;simp;omega,List.filter_eq_self.mpr fun p hp=>by have:=hM p hp;simp [this],List.filter_eq_nil_iff.mpr fun p hp=>by have:=hR p hp;simp;omega]
   simp
  ·rw[List.filter_eq_nil_iff.mpr fun p hp=>by have:=hL p hp;simp;omega,List.filter_eq_nil_iff.mpr fun p hp=>by have:=hM p hp;simp;omega,List.filter_eq_self.mpr fun p hp=>by have:=hR p hp;simp [this]]
   simp
 have a:=cut hL hM hR
 have b:=cut hL' hM' hR'
 rw[h] at a
 exact⟨a.1.symm.trans b.1,a.2.1.symm.trans b.2.1,a.2.2.symm.trans b.2.2⟩
theorem AEM {X Y Z s:List Thing}{M:PP}(h:Ao 0 s=Ao 0 X++M++Ao (X.length+Y.length) Z)(hl:s.length=(X++Y++Z).length)(hM:∀ p∈M,X.length≤p.1∧p.1<X.length+Y.length) :
  ∃ Y',s=X++Y'++Z∧Y'.length=Y.length∧Ao X.length Y'=M:=by
 rw[List.length_append,List.length_append] at hl
 have hs:s=s.take X.length++(s.drop X.length).take Y.length++s.drop (X.length+Y.length):=by
  rw[List.append_assoc,← List.drop_drop,List.take_append_drop,List.take_append_drop]
 have l1:(s.take X.length).length=X.length:=by rw[List.length_take];omega
 have l2:((s.drop X.length).take Y.length).length=Y.length:=by rw[List.length_take,List.length_drop];omega
 have l3:(s.drop (X.length+Y.length)).length=Z.length:=by rw[List.length_drop];omega
 have hp:=h
 rw[hs,Ku,Ku,Nat.zero_add,List.length_append,l1,l2,Nat.zero_add] at hp
 obtain⟨e1,e2,e3⟩:=AGa (f:=X.length) (g:=X.length+Y.length) hp (fun p q=>by have:=Ec _ _ p q;omega) (fun p q=>by have:=Ec _ _ p q;omega) (fun p q=>by have:=Ec _ _ p q;omega) hM (fun p q=>(Ec _ _ p q).1) (fun p q=>(Ec _ _ p q).1) (Nat.le_add_right _ _)
 refine⟨(s.drop X.length).take Y.length,?_,l2,e2⟩
 have f1:=Ut _ _ 0 l1 e1
 have f3:=Ut _ _ (X.length+Y.length) l3 e3
 rw[f1,f3] at hs
 exact hs
noncomputable def Dy (f n W:Nat):List Nat:=(List.range n).map fun i=>f+Ce n W i
theorem M8 (f n W:Nat):(Dy f n W).length=n:=by simp [Dy]
theorem AJf {f n W:Nat}(hn:0<n)(h:n≤W):(Dy f n W).Pairwise (· < ·):=by
 unfold Dy
 rw[List.pairwise_map]
 refine List.pairwise_lt_range.imp fun hij=>?_
 have:=AAa hn h hij
 omega
theorem vG {f n W:Nat}(hW:0<W):∀ a∈Dy f n W,f≤a∧a<f+W:=fun a ha=>by
 obtain⟨i,hi,rfl⟩:=List.mem_map.mp ha
 have:=AJQ (n:=n) (W:=W) (List.mem_range.mp hi) hW
 show f≤f+_∧f+_<f+W
 omega
noncomputable def Di (Y:List Thing)(k:Int):Nat:=((things Y).filter fun x=>decide (x.1<k)).length
noncomputable def Jy (f:Nat)(Y:List Thing)(k:Int):List Tr:=Cp (Ao f Y) ((Dy f ((things Y).length+1) Y.length).eraseIdx (Di Y k))
noncomputable def Fp (f:Nat)(Y:List Thing)(k:Int):Nat:=(Dy f ((things Y).length+1) Y.length).getD (Di Y k) 0
noncomputable def Gv (f:Nat)(Y:List Thing)(k:Int):List Tr:=Du (Jy f Y k)++Ed (Jy f Y k)
noncomputable def Hv (f:Nat)(Y:List Thing)(k b:Int):List (Nat×Thing):=CV (Gv f Y k)++[(Fp f Y k,some (k,b))]
theorem Mh (Y:List Thing)(f:Nat):(Ao f Y).length=(things Y).length:=by
 rw[← HJ Y f,List.length_map]
theorem R7 (Y:List Thing)(k:Int):Di Y k≤(things Y).length:=List.length_filter_le _ _
theorem AHR {α:Type}(l:List α)(j:Nat)(h:j<l.length)(d:α):l.eraseIdx j=l.take j++l.drop (j+1)∧l=l.take j++l.getD j d::l.drop (j+1):=by
 refine⟨List.eraseIdx_eq_take_drop_succ l j,?_⟩
 have e:l.getD j d=l[j]:=by rw[List.getD_eq_getElem?_getD,List.getElem?_eq_getElem h];rfl
 rw[e]
 conv=>lhs;rw[← List.take_append_drop j l]
 rw[List.drop_eq_getElem_cons h]
theorem lN (f:Nat)(Y:List Thing)(k:Int):Fp f Y k∈Dy f ((things Y).length+1) Y.length:=by
 have h:=R7 Y k
 unfold Fp
 rw[List.getD_eq_getElem?_getD,List.getElem?_eq_getElem (by rw[M8];omega)]
 exact List.getElem_mem _
theorem t7 {k:Int}:∀ (T:List Pr),DX T→k ∉ T.map (·.1)→T=T.take ((T.filter fun x=>decide (x.1<k)).length)++T.drop ((T.filter fun x=>decide (x.1<k)).length)∧(∀ x∈T.take ((T.filter fun x=>decide (x.1<k)).length),x.1<k)∧∀ x∈T.drop ((T.filter fun x=>decide (x.1<k)).length),k<x.1
 | [],_,_=>⟨rfl,fun x h=>by simp at h,fun x h=>by simp at h⟩
 | y::T,h,hk=>by
  have hp:=List.pairwise_cons.mp (show ((y::T).map (·.1)).Pairwise (· < ·) from h)
  rw[List.map_cons,List.mem_cons,not_or] at hk
  obtain⟨i1,i2,i3⟩:=t7 T hp.2 hk.2
  by_cases c:y.1<k
  ·rw[List.filter_cons_of_pos (by simpa using c),List.length_cons]
   refine⟨(List.take_append_drop _ _).symm,?_,?_⟩
   ·intro x hx
    rw[List.take_succ_cons] at hx
    rcases List.mem_cons.mp hx with rfl | hx
    ·exact c
    ·exact i2 x hx
   ·intro x hx
    rw[List.drop_succ_cons] at hx
    exact i3 x hx
  ·have c':k<y.1:=by omega
   have hall:∀ x∈T,k<x.1:=fun x hx=>by
    have:y.1<x.1:=hp.1 x.1 (List.mem_map_of_mem hx)
    omega
   have hz:(y::T).filter (fun x=>decide (x.1<k))=[]:=List.filter_eq_nil_iff.mpr fun x hx=>by
    rcases List.mem_cons.mp hx with rfl | hx
    ·simp;omega
    ·have:=hall x hx
     simp;omega
   rw[hz]
   refine⟨rfl,fun x hx=>by simp at hx,fun x hx=>?_⟩
   rcases List.mem_cons.mp hx with rfl | hx
   ·exact c'
   ·exact hall x hx
theorem oV {X Y Z:List Thing}{k:Int}(b:Int)(hR:Dr (X++Y++Z))(hk:k ∉ keysOf Y)(hn:(things Y).length+1≤Y.length) :
  ∃ s' Y',Run Gn (X++Y++Z) (Gv X.length Y k) s'∧s'[Fp X.length Y k]?=some none∧doneF (X++Y++Z) (Hv X.length Y k b)=s'.set (Fp X.length Y k) (some (k,b))∧s'.set (Fp X.length Y k) (some (k,b))=X++Y'++Z∧Y'.length=Y.length ∧
   (Ao X.length Y').map (·.1)=Dy X.length ((things Y).length+1) Y.length∧things Y'=(things Y).take (Di Y k)++(k,b)::(things Y).drop (Di Y k)∧s'.length=(X++Y++Z).length:=by
 have hj:=R7 Y k
 have hlen:=M8 X.length ((things Y).length+1) Y.length
 have hup:=AJf (f:=X.length) (n:=(things Y).length+1) (W:=Y.length) (by omega) hn
 have hin:=vG (f:=X.length) (n:=(things Y).length+1) (W:=Y.length) (by omega)
 obtain⟨es1,es2⟩:=AHR (Dy X.length ((things Y).length+1) Y.length) (Di Y k) (by omega) 0
 have hmem:=lN X.length Y k
 have AI5:Fp X.length Y k=(Dy X.length ((things Y).length+1) Y.length).getD (Di Y k) 0:=rfl
 have hA:((Dy X.length ((things Y).length+1) Y.length).eraseIdx (Di Y k)).length=(Ao X.length Y).length:=by
  rw[Mh,List.length_eraseIdx]
  rw[hlen,if_pos (by omega)]
  omega
 have hM:Gv X.length Y k=Du (Cp (Ao X.length Y) ((Dy X.length ((things Y).length+1) Y.length).eraseIdx (Di Y k)))++Ed (Cp (Ao X.length Y) ((Dy X.length ((things Y).length+1) Y.length).eraseIdx (Di Y k))):=rfl
 obtain⟨s',r,hp,hs⟩:=AFg (X:=X) (Y:=Y) (Z:=Z) hA (hup.sublist (List.eraseIdx_sublist _ _)) (fun a ha=>hin a ((List.eraseIdx_sublist _ _).subset ha))
 rw[← hM] at r
 rw[← AI5] at es2
 have hfirst:doneF (X++Y++Z) (Hv X.length Y k b)=s'.set (Fp X.length Y k) (some (k,b)):=by
  unfold Hv
  rw[aN,← r.done]
  rfl
 generalize hAe:Dy X.length ((things Y).length+1) Y.length=AA at *
 generalize Fp X.length Y k=a at *
 generalize hje:Di Y k=j at *
 generalize hPe:Ao X.length Y=P at *
 have hPl:P.length=(things Y).length:=by rw[← hPe];exact Mh Y _
 have hP:P=P.take j++P.drop j:=(List.take_append_drop j P).symm
 have l1:(AA.take j).length=(P.take j).length:=by rw[List.length_take,List.length_take];omega
 have l2:(AA.drop (j+1)).length=(P.drop j).length:=by rw[List.length_drop,List.length_drop];omega
 have hz:at2 (Cp P (AA.eraseIdx j))=at2 (Cp (P.take j) (AA.take j))++at2 (Cp (P.drop j) (AA.drop (j+1))):=by
  rw[es1]
  conv=>lhs;rw[hP]
  rw[AAm _ _ _ _ l1]
  exact List.map_append
 obtain⟨z1,z2⟩:=ZC (P.take j) (AA.take j) l1
 obtain⟨z3,z4⟩:=ZC (P.drop j) (AA.drop (j+1)) l2
 have jF:=hup
 rw[es2] at jF
 obtain⟨u1,u2,u3⟩:=List.pairwise_append.mp jF
 have u4:=List.pairwise_cons.mp u2
 have ain:=hin a hmem
 have AAG:Ao 0 (s'.set a (some (k,b)))=Ao 0 X++(at2 (Cp (P.take j) (AA.take j))++(a,(k,b))::at2 (Cp (P.drop j) (AA.drop (j+1))))++Ao (X.length+Y.length) Z:=by
  have q:=Tz s' 0 a (k,b) (by rw[hs,List.length_append,List.length_append];omega)
  rw[Nat.zero_add,hp,hz,show Ao 0 X++(at2 (Cp (P.take j) (AA.take j))++at2 (Cp (P.drop j) (AA.drop (j+1))))++Ao (X.length+Y.length) Z=(Ao 0 X++at2 (Cp (P.take j) (AA.take j)))++(at2 (Cp (P.drop j) (AA.drop (j+1)))++Ao (X.length+Y.length) Z) by simp,Ry] at q
  ·rw[q]
   simp
  ·intro p hp
   rcases List.mem_append.mp hp with hp | hp
   ·have:=Ec X 0 p hp
    omega
   ·have:p.1∈AA.take j:=by rw[← z1];exact List.mem_map_of_mem hp
    exact u3 p.1 this a Bf
  ·intro p hp
   rcases List.mem_append.mp hp with hp | hp
   ·have:p.1∈AA.drop (j+1):=by rw[← z3];exact List.mem_map_of_mem hp
    exact u4.1 p.1 this
   ·have:=Ec Z _ p hp
    omega
 obtain⟨Y',e1,e2,e3⟩:=AEM (X:=X) (Y:=Y) (Z:=Z) (M:=at2 (Cp (P.take j) (AA.take j))++(a,(k,b))::at2 (Cp (P.drop j) (AA.drop (j+1)))) AAG (by rw[List.length_set];exact hs) (by
  intro p hp
  refine hin p.1 ?_
  rw[es2]
  rcases List.mem_append.mp hp with hp | hp
  ·exact Cw (by rw[← z1];exact List.mem_map_of_mem hp)
  ·rcases List.mem_cons.mp hp with rfl | hp
   ·exact Bc Bf
   ·exact Bc (Bt (by rw[← z3];exact List.mem_map_of_mem hp)))
 refine⟨s',Y',r,?_,hfirst,e1,e2,?_,?_,hs⟩
 ·have hal:a<s'.length:=by rw[hs,List.length_append,List.length_append];omega
  rw[List.getElem?_eq_getElem hal]
  cases hc:s'[a] with
  | none=>rfl
  | some x =>
   exfalso
   have hm:=(Lb s' 0 a x).mp (by rw[List.getElem?_eq_getElem hal,hc])
   rw[Nat.zero_add,hp,hz] at hm
   rcases List.mem_append.mp hm with hm | hm
   ·rcases List.mem_append.mp hm with hm | hm
    ·have:=Ec X 0 _ hm
     simp at this
     omega
    ·rcases List.mem_append.mp hm with hm | hm
     ·have:a∈AA.take j:=by rw[← z1];exact List.mem_map.mpr ⟨_,hm,rfl⟩
      exact Nat.lt_irrefl _ (u3 a this a Bf)
     ·have:a∈AA.drop (j+1):=by rw[← z3];exact List.mem_map.mpr ⟨_,hm,rfl⟩
      exact Nat.lt_irrefl _ (u4.1 a this)
   ·have:=Ec Z _ _ hm
    simp at this
    omega
 ·rw[e3,List.map_append,List.map_cons,z1,z3]
  exact es2.symm
 ·have hT:things Y=P.map (·.2):=by rw[← hPe,HJ]
  rw[← HJ Y' X.length,e3,List.map_append,List.map_cons,z2,z4,hT,List.map_take,List.map_drop]
noncomputable def S8:Ai:=(Ak (Aq 2 (vS (Ax (Mt (Ac (Aa 0) (Ac (Aa 1) Ae))))))
  (Ak (Aq 3 (Fx (BX (Az LQ (Ac (Aa 2) Ae)) (Bg 0) (Av (Ab Ig (Ab Al (Aa 0) (Ad (.int 1))) (Ab Al (Aa 0) (Ad (.int 0))))) (Aa 0) 1 [])))
  (Ak (Aq 4 (Fx (BX (Be (Aa 2)) (Bg 0) (Av (Ab Er (Ab Al (Aa 0) (Ad (.int 1))) (Ab Al (Aa 0) (Ad (.int 0))))) (Aa 0) 1 [])))
  (El (G9 (Aa 3) (Aa 4))))))
noncomputable def VH:List D→Option (List D):=Dt 2 5 S8
noncomputable def Ub:Ai:=(Ak (Aq 6 (vS (Ax (CK (Ac (BV (Ac (Aa 5) (Ac (Ab Al (Aa 2) (Aa 4)) Ae))) (Ac (BV (Ac (Aa 4) (Ac (BV Ae) Ae))) Ae))))))
   (Ak (Aq 2 (vS (Ax (Az M4 (Ac (Aa 2) (Ac (Aa 6) Ae))))))
   (Qa 3 (vS (Aa 6)))))
noncomputable def Uk:Ai:=(Ak (Aq 2 (vS (Aa 0)))
  (Ak (Aq 3 (vL (CK Ae)))
  (Ak (Eu (Be (Aa 1)) (Eb 4 5) Ub)
  (Je 3))))
noncomputable def bJ:List D→Option (List D):=Dt 2 7 Uk
noncomputable def Tc:Ai:=(Ak (Aq 3 (vS (Ab Al (Aa 1) (Ad (.int 0)))))
  (Ak (Aq 4 (vS (Ab Al (Aa 1) (Ad (.int 1)))))
  (Ak (Aq 5 (Fx (BX (Az Im (Ac (Aa 3) (Ac (Aa 4) Ae))) (Bg 0) (Av (Ab BZ (Ab Al (Aa 1) (Aa 0)) (BV Ae))) (Aa 0) 1 [0])))
  (Ak (Aq 6 (vL (BX (Be (Ax (Az K9 (Ac (Ab CG (Am Bm (Ac (Aa 5) Ae)) (Ad (.int 1))) (Ac (Ab Cr (Aa 4) (Aa 3)) Ae))))) (Bg 0) DK (Ab CG (Aa 1) (Aa 0)) 1 [3])))
  (Ak (Aq 7 (Fx (BX (Be (Aa 5)) (Bg 0) (Av (Ab Er (Ab Al (Ab Al (Aa 2) (Aa 0)) (Ad (.int 0))) (Ab Al (Aa 1) (Ad (.int 0))))) (Aa 0) 1 [2,0])))
  (Ak (SQ 8 6 (Am Bm (Ac (Aa 7) Ae)))
  (El (G9 (Ax (Az bJ (Ac (Aa 0) (Ac (Ax (Az VH (Ac (Aa 5) (Ac (Aa 6) Ae)))) Ae)))) (Ax (CK (Ac (BV (Ac (Aa 8) (Ac (Aa 2) Ae))) Ae)))))))))))
noncomputable def Wt:List D→Option (List D):=Dt 3 9 Tc
noncomputable def Qc:Ai:=(Ak (Aq 5 (vS (Am K3 (Ac (Aa 2) (Ac (Aa 3) Ae)))))
  (Ak (CN (Av (Ab Nx (Aa 5) (Ad .none)))
   (El (CK (Ac (BV (Ac (Aa 5) (Ac (BV (Ac (Aa 3) (Ac (Aa 4) Ae))) Ae))) Ae))) CQ)
  (Ak (CN (Av (Ab Ih (Am Nh (Ac (Aa 2) (Ac (Ad (.int 0)) (Ac (Am Bm (Ac (Aa 2) Ae)) Ae)))) (Am Qs (Ac (Aa 0) (Ac (Aa 1) Ae)))))
   R1 CQ)
  (Ak (Aq 6 (vS (Am Zm (Ac (Aa 0) (Ac (Aa 1) (Ac (Aa 2) (Ac (Aa 3) Ae)))))))
  (El (Az Wt (Ac (Aa 2) (Ac (Am Ve (Ac (Aa 0) (Ac (Aa 6) (Ac (Am Rn (Ac (Aa 2) (Ac (Aa 3) Ae))) Ae)))) (Ac (BV (Ac (Aa 3) (Ac (Aa 4) Ae))) Ae)))))))))
noncomputable def J9:List D→Option (List D):=Dt 5 7 Qc
noncomputable def RD:Ai:=(Ak (Aq 2 (vS (Am K3 (Ac (Aa 0) (Ac (Aa 1) Ae)))))
  (Ak (CN (Av (Ab Kr (Aa 2) (Ad .none)))
   R1 CQ)
  (El (CK (Ac (BV (Ac (Aa 2) (Ac (BV Ae) Ae))) Ae)))))
noncomputable def RW:List D→Option (List D):=Dt 2 3 RD
theorem AEQ (ds:List D):LQ [.list ds]=some ds.reverse:=rfl
theorem n8:∀ l:List Tr,Kv ((l.map (·.1)).map Bh) ((l.map fun t=>t.2.1).map Bh)=l.map Cv
 | []=>rfl
 | t::l=>congrArg (Cv t :: ·) (n8 l)
theorem AFt (l:List Tr)(hl:l.length<1000000):VH [.list ((l.map (·.1)).map Bh),.list ((l.map fun t=>t.2.1).map Bh)]=some ((Du l++Ed l).map Cv):=by
 have hz:=n8 l
 have few:=VN l
 have c1:∀ a b c d:Option D,BX (Az LQ (Ac (Aa 2) Ae)) (Bg 0) (Av (Ab Ig (Ab Al (Aa 0) (Ad (.int 1))) (Ab Al (Aa 0) (Ad (.int 0))))) (Aa 0) 1 [] [a,b,some (.list (l.map Cv)),c,d]=some ((Du l).map Cv):=by
  intro a b c d
  rw[HF (items:=l.reverse.map Cv) (by rw[List.map_reverse];have:=AEQ (l.map Cv);clear hz few;walk_at "pu") (by rw[List.length_map,List.length_reverse];omega),Ii Cv (fun t=>decide (t.1<t.2.1)) Cv]
  ·unfold Du
   rw[List.filter_reverse]
  ·intro t _
   refine⟨[some (.tuple [.int (t.1:Int),.int (t.2.1:Int)])],rfl,?_,fun _=>rfl⟩
   have e:decide (t.1<t.2.1)=decide ((t.1:Int)<(t.2.1:Int)):=by simp
   rw[e]
   clear e hz few
   walk_at "pu"
 have c2:∀ a b c d:Option D,BX (Be (Aa 2)) (Bg 0) (Av (Ab Er (Ab Al (Aa 0) (Ad (.int 1))) (Ab Al (Aa 0) (Ad (.int 0))))) (Aa 0) 1 [] [a,b,some (.list (l.map Cv)),c,d]=some ((Ed l).map Cv):=by
  intro a b c d
  rw[HF (items:=l.map Cv) (by clear c1 hz few;walk_at "pu") (by rw[List.length_map];omega),Ii Cv (fun t=>decide (t.2.1<t.1)) Cv]
  ·rfl
  ·intro t _
   refine⟨[some (.tuple [.int (t.1:Int),.int (t.2.1:Int)])],rfl,?_,fun _=>rfl⟩
   have e:decide (t.2.1<t.1)=decide ((t.2.1:Int)<(t.1:Int)):=by simp
   rw[e]
   clear e hz few c1
   walk_at "pu"
 have hfit:(Du l).length+(Ed l).length<16777216:=by omega
 rw[List.map_append]
 generalize ((l.map (·.1)).map Bh)=P at *
 generalize ((l.map fun t=>t.2.1).map Bh)=A at *
 refine FN rfl ?_
 unfold S8
 refine Aw (ρ':=[.sh (.list P),.sh (.list A),.sh (.list (l.map Cv)),.no,.no]) (by clear c1 c2 hfit few;unfold Mt;walk_at "pu") ?_
 refine Aw (ρ':=[.sh (.list P),.sh (.list A),.sh (.list (l.map Cv)),.sh (.list ((Du l).map Cv)),.no]) ?_ ?_
 ·have:=c1 (some (.list P)) (some (.list A)) none none
  generalize BX (Az LQ (Ac (Aa 2) Ae)) (Bg 0) (Av (Ab Ig (Ab Al (Aa 0) (Ad (.int 1))) (Ab Al (Aa 0) (Ad (.int 0))))) (Aa 0) 1 []=CC at *
  clear c1 c2 hfit few hz
  walk_at "pu"
 refine Aw (ρ':=[.sh (.list P),.sh (.list A),.sh (.list (l.map Cv)),.sh (.list ((Du l).map Cv)),.sh (.list ((Ed l).map Cv))]) ?_ ?_
 ·have:=c2 (some (.list P)) (some (.list A)) (some (.list ((Du l).map Cv))) none
  generalize BX (Be (Aa 2)) (Bg 0) (Av (Ab Er (Ab Al (Aa 0) (Ad (.int 1))) (Ab Al (Aa 0) (Ad (.int 0))))) (Aa 0) 1 []=CC at *
  clear c1 c2 hfit few hz
  walk_at "pu"
 ·clear c1 c2 few hz
  walk_at "pu"
theorem ACh {ts s':List Thing}{ms:List Tr}(r:Run Gn ts ms s')(hm:ms.length≤1000000):bJ [.list (ts.map encD),.list (ms.map Cv)]=some ((CV ms).map By):=by
 have loop:=Zo (bs:=Eb 4 5) (F:=Ub) Cv (fun pre ρ=>∃ s4 s5 s6,ρ=[.sh (.list (ts.map encD)),.sh (.list (ms.map Cv)),.sh (.list ((doneF ts (CV pre)).map encD)),.ow ((CV pre).map By),s4,s5,s6]) ms ?_ [.sh (.list (ts.map encD)),.sh (.list (ms.map Cv)),.sh (.list (ts.map encD)),.ow [],.no,.no,.no] ⟨_,_,_,rfl⟩
 ·obtain⟨ρ',hf,s4,s5,s6,rfl⟩:=loop
  refine FN rfl ?_
  unfold Uk
  refine Aw (ρ':=[.sh (.list (ts.map encD)),.sh (.list (ms.map Cv)),.sh (.list (ts.map encD)),.no,.no,.no,.no]) (by clear hf;walk_at "pu") ?_
  refine Aw (ρ':=[.sh (.list (ts.map encD)),.sh (.list (ms.map Cv)),.sh (.list (ts.map encD)),.ow [],.no,.no,.no]) (by clear hf;walk_at "pu") ?_
  refine Aw ((GJ (items:=ms.map Cv) (by clear hf;walk_at "pu")).trans hf) (by clear hf;walk_at "pu")
 ·rintro pre t post ρ e ⟨s4,s5,s6,rfl⟩
  have hp:Gn (doneF ts (CV pre)) t:=by
   rw[e] at r
   exact r.mid
  have hlen:(CV pre).length+2<16777216:=by
   have:=congrArg List.length e
   simp at this
   rw[Nu]
   omega
  obtain⟨L,R,mv⟩:=hp
  have here:(doneF ts (CV pre))[t.1]?=some (some t.2.2):=(Lb _ 0 t.1 t.2.2).mpr (by rw[Nat.zero_add,mv.eq];simp)
  have hlt:t.1<(doneF ts (CV pre)).length:=by
   obtain⟨h,_⟩:=List.getElem?_eq_some_iff.mp here
   exact h
  have hat:Bj ((doneF ts (CV pre)).map encD) (t.1:Int)=some (.tuple [.int t.2.2.1,.int t.2.2.2]):=by
   rw[G8,List.getElem?_map,here]
   rfl
  have hd:=vA (doneF ts (CV pre)) [(t.2.1,some t.2.2),(t.1,none)] (by
   intro q hq
   simp only[List.mem_cons,List.not_mem_nil,or_false] at hq
   rcases hq with rfl | rfl
   ·exact mv.lt
   ·exact hlt)
  rw[← aN,← jJ] at hd
  have hd':M4 [.list ((doneF ts (CV pre)).map encD),.list [.tuple [.int (t.2.1:Int),.tuple [.int t.2.2.1,.int t.2.2.2]],.tuple [.int (t.1:Int),.tuple []]]]=some ((doneF ts (CV (pre++[t]))).map encD):=hd
  have hsn:(CV (pre++[t])).map By=(CV pre).map By++[.tuple [.int (t.2.1:Int),.tuple [.int t.2.2.1,.int t.2.2.2]],.tuple [.int (t.1:Int),.tuple []]]:=by
   rw[jJ,List.map_append]
   rfl
  refine⟨_,[.sh (.list (ts.map encD)),.sh (.list (ms.map Cv)),.sh (.list ((doneF ts (CV (pre++[t]))).map encD)),.ow ((CV (pre++[t])).map By),.sh (.int (t.1:Int)),.sh (.int (t.2.1:Int)),.sh (.list [.tuple [.int (t.2.1:Int),.tuple [.int t.2.2.1,.int t.2.2.2]],.tuple [.int (t.1:Int),.tuple []]])],rfl,?_,_,_,_,rfl⟩
  rw[hsn]
  clear hsn hd e hlt here mv r hm
  generalize (doneF ts (CV pre)).map encD=U at *
  generalize (doneF ts (CV (pre++[t]))).map encD=U' at *
  unfold Ub
  refine Aw (ρ':=[.sh (.list (ts.map encD)),.sh (.list (ms.map Cv)),.sh (.list U),.ow ((CV pre).map By),.sh (.int (t.1:Int)),.sh (.int (t.2.1:Int)),.sh (.list [.tuple [.int (t.2.1:Int),.tuple [.int t.2.2.1,.int t.2.2.2]],.tuple [.int (t.1:Int),.tuple []]])]) (by clear hd' hlen;walk_at "pu") ?_
  refine Aw (ρ':=[.sh (.list (ts.map encD)),.sh (.list (ms.map Cv)),.sh (.list U'),.ow ((CV pre).map By),.sh (.int (t.1:Int)),.sh (.int (t.2.1:Int)),.sh (.list [.tuple [.int (t.2.1:Int),.tuple [.int t.2.2.1,.int t.2.2.2]],.tuple [.int (t.1:Int),.tuple []]])]) (by clear hlen hat;walk_at "pu") ?_
  clear hd' hat
  unfold Qa
  walk_at "pu"
theorem AGk (f W:Nat):Ci (f:Int) W=(List.range' f W).map Bh:=by
 unfold Ci
 rw[List.range'_eq_map_range,List.map_map]
 refine List.map_congr_left fun i _=>?_
 show _=PyData.int ((f+i:Nat):Int)
 rw[Int.natCast_add]
theorem ADW {X Y Z:List Thing}{i:Nat}(h1:X.length≤i)(h2:i<X.length+Y.length):(X++Y++Z).getD i none=Y.getD (i-X.length) none:=by
 rw[List.getD_eq_getElem?_getD,List.getD_eq_getElem?_getD,List.append_assoc,List.getElem?_append_right h1,List.getElem?_append_left (by omega)]
theorem AHt {X Y Z:List Thing}(hl:(X++Y++Z).length≤320)(a1 a2 a5 a6 a7 a8:Option D) :
  BX (Az Im (Ac (Aa 3) (Ac (Aa 4) Ae))) (Bg 0) (Av (Ab BZ (Ab Al (Aa 1) (Aa 0)) (BV Ae))) (Aa 0) 1 [0] [some (.list ((X++Y++Z).map encD)),a1,a2,some (.int (X.length:Int)),some (.int ((X.length+Y.length:Nat):Int)),a5,a6,a7,a8]=some (((Ao X.length Y).map (·.1)).map Bh):=by
 have hll:=hl
 rw[List.length_append,List.length_append] at hll
 have hr:=fB (X.length:Int) ((X.length+Y.length:Nat):Int) ⟨by omega,by omega,by omega,by omega⟩
 rw[show (((X.length+Y.length:Nat):Int)-(X.length:Int)).toNat=Y.length by omega,AGk] at hr
 rw[HF (items:=(List.range' X.length Y.length).map Bh) (by clear hl hll;walk_at "pu") (by rw[List.length_map,List.length_range'];omega),Ii Bh (fun i=>Fj ((X++Y++Z).getD i none)) Bh]
 ·rw[← YQ]
  refine congrArg (fun l=>some (List.map Bh l)) (List.filter_congr fun i hi=>?_)
  have:=List.mem_range'_1.mp hi
  rw[ADW this.1 this.2]
 ·intro i hi
  have:=List.mem_range'_1.mp hi
  have ha:=Yc (X++Y++Z) (i:=i) (by rw[List.length_append,List.length_append];omega)
  have e3:Fj ((X++Y++Z).getD i none) = !decide ((X++Y++Z).getD i none=none):=rfl
  refine⟨[some (.int (i:Int)),some (.list ((X++Y++Z).map encD))],rfl,?_,fun _=>rfl⟩
  rw[e3]
  generalize (X++Y++Z).getD i none=u at *
  clear hr hi this hl hll e3
  walk_at "pu"
theorem ADL {n W f:Nat}(hn:0<n)(hn2:n≤320)(a0 a1 a2 a4 a6 a7 a8:Option D){L:List D}(hL:(L.length:Int)+1=(n:Int)){e:Int}(he:e-(f:Int)=(W:Int)) :
  BX (Be (Ax (Az K9 (Ac (Ab CG (Am Bm (Ac (Aa 5) Ae)) (Ad (.int 1))) (Ac (Ab Cr (Aa 4) (Aa 3)) Ae))))) (Bg 0) DK (Ab CG (Aa 1) (Aa 0)) 1 [3] [a0,a1,a2,some (.int (f:Int)),some (.int e),some (.list L),a6,a7,a8]=some ((Dy f n W).map Bh):=by
 have ht:=vD (n:=n) (W:=W) hn (by omega)
 rw[HF (items:=(List.range n).map fun i:Nat=>.int (Ce n W i:Int)) ?_ (by rw[List.length_map,List.length_range];omega),Vj (fun i:Nat=>(.int (Ce n W i:Int):D)) (fun i=>Bh (f+Ce n W i))]
 ·unfold Dy
  rw[List.map_map]
  rfl
 ·intro i _
  refine⟨[some (.int (Ce n W i:Int)),some (.int (f:Int))],rfl,?_⟩
  have e2:Bh (f+Ce n W i)=.int ((f:Int)+(Ce n W i:Int)):=by unfold Bh;rw[Int.natCast_add]
  rw[e2]
  clear ht e2 hL he hn2
  walk_at "pu"
 ·have ht':K9 [.int (n:Int),.int (W:Int)]=some ((List.range n).map fun i:Nat=>.int (Ce n W i:Int)):=ht
  generalize ((List.range n).map fun i:Nat=>(.int (Ce n W i:Int):D))=I at *
  clear ht hn2
  walk_at "pu"
theorem ADk {X Y Z:List Thing}{k b:Int}(hl:(X++Y++Z).length≤320)(a1 a3 a4 a6 a7 a8:Option D) :
  BX (Be (Aa 5)) (Bg 0) (Av (Ab Er (Ab Al (Ab Al (Aa 2) (Aa 0)) (Ad (.int 0))) (Ab Al (Aa 1) (Ad (.int 0))))) (Aa 0) 1 [2,0] [some (.list ((X++Y++Z).map encD)),a1,some (.tuple [.int k,.int b]),a3,a4,some (.list (((Ao X.length Y).map (·.1)).map Bh)),a6,a7,a8] =
   some (((Ao X.length Y).filter fun p=>decide (p.2.1<k)).map fun p=>Bh p.1):=by
 have hll:=hl
 rw[List.length_append,List.length_append] at hll
 have hpl:(Ao X.length Y).length≤Y.length:=by
  rw[Mh]
  exact List.length_filterMap_le _ _
 rw[HF (items:=(Ao X.length Y).map fun p=>Bh p.1) (by rw[List.map_map];clear hll hl hpl;walk_at "pu";rfl) (by rw[List.length_map];omega),Ii (fun p:Nat×Pr=>Bh p.1) (fun p=>decide (p.2.1<k)) (fun p=>Bh p.1)]
 intro p hp
 have hat:Bj ((X++Y++Z).map encD) (p.1:Int)=some (.tuple [.int p.2.1,.int p.2.2]):=by
  have:(X++Y++Z)[p.1]?=some (some p.2):=(Lb _ 0 p.1 p.2).mpr (by
   rw[Nat.zero_add,Ku,Ku,Nat.zero_add]
   exact Cw (Bc hp))
  rw[G8,List.getElem?_map,this]
  rfl
 refine⟨[some (.int (p.1:Int)),some (.tuple [.int k,.int b]),some (.list ((X++Y++Z).map encD))],rfl,?_,fun _=>rfl⟩
 clear hp hll hl hpl
 walk_at "pu"
theorem ADN (Y:List Thing)(f:Nat)(k:Int):((Ao f Y).filter fun p=>decide (p.2.1<k)).length=Di Y k:=by
 unfold Di
 rw[← HJ Y f,List.filter_map,List.length_map]
 rfl
theorem ADQ {X Y Z:List Thing}{k:Int}(b:Int)(hl:(X++Y++Z).length≤320)(hR:Dr (X++Y++Z))(hk:k ∉ keysOf Y)(hn:(things Y).length+1≤Y.length) :
  Wt [.list ((X++Y++Z).map encD),.tuple [.int (X.length:Int),.int ((X.length+Y.length:Nat):Int)],.tuple [.int k,.int b]]=some ((Hv X.length Y k b).map By):=by
 obtain⟨s',Y',r,_⟩:=oV (X:=X) (Z:=Z) b hR hk hn
 have hll:=hl
 rw[List.length_append,List.length_append] at hll
 have hj:=R7 Y k
 have hA:((Dy X.length ((things Y).length+1) Y.length).eraseIdx (Di Y k)).length=(Ao X.length Y).length:=by
  rw[Mh,List.length_eraseIdx,M8,if_pos (by omega)]
  omega
 obtain⟨o1,o2,_⟩:=Rm (Ao X.length Y) _ hA
 have hzl:=iB (Ao X.length Y) _ hA
 have hpl:=Mh Y X.length
 have few:=VN (Jy X.length Y k)
 have hel:(Jy X.length Y k).length=(things Y).length:=hzl.trans hpl
 have hmv:=AFt (Jy X.length Y k) (by omega)
 have hml:(Gv X.length Y k).length≤320:=by
  unfold Gv
  rw[List.length_append]
  omega
 have hws:=ACh r (by omega)
 have p1:=AHt (X:=X) (Y:=Y) (Z:=Z) hl (some (.tuple [.int (X.length:Int),.int ((X.length+Y.length:Nat):Int)])) (some (.tuple [.int k,.int b])) none none none none
 have p2:=ADL (n:=(things Y).length+1) (W:=Y.length) (f:=X.length) (by omega) (by omega) (some (.list ((X++Y++Z).map encD))) (some (.tuple [.int (X.length:Int),.int ((X.length+Y.length:Nat):Int)])) (some (.tuple [.int k,.int b])) none none none none (L:=((Ao X.length Y).map (·.1)).map Bh) (by rw[List.length_map,List.length_map,hpl];omega) (e:=((X.length+Y.length:Nat):Int)) (by omega)
 have p3:=ADk (X:=X) (Y:=Y) (Z:=Z) (k:=k) (b:=b) hl (some (.tuple [.int (X.length:Int),.int ((X.length+Y.length:Nat):Int)])) (some (.int (X.length:Int))) (some (.int ((X.length+Y.length:Nat):Int))) none none none
 have hlen3:(((Ao X.length Y).filter fun p=>decide (p.2.1<k)).map fun p=>Bh p.1).length=Di Y k:=by rw[List.length_map];exact ADN Y X.length k
 have hget:((Dy X.length ((things Y).length+1) Y.length).map Bh)[Di Y k]?=some (.int (Fp X.length Y k:Int)):=by
  unfold Fp
  rw[List.getElem?_map,List.getD_eq_getElem?_getD,List.getElem?_eq_getElem (by rw[M8];omega)]
  rfl
 have her:((Dy X.length ((things Y).length+1) Y.length).map Bh).eraseIdx (Di Y k)=((Jy X.length Y k).map fun t=>t.2.1).map Bh:=by
  rw[Wq]
  exact congrArg (List.map Bh) o2.symm
 have hpm:((Ao X.length Y).map (·.1)).map Bh=((Jy X.length Y k).map (·.1)).map Bh:=congrArg (List.map Bh) o1.symm
 have ACk:((Dy X.length ((things Y).length+1) Y.length).map Bh).length<16777216:=by rw[List.length_map,M8];omega
 have hwl:((CV (Gv X.length Y k)).map By).length+1<16777216:=by rw[List.length_map,Nu];omega
 have hfin:(Hv X.length Y k b).map By=(CV (Gv X.length Y k)).map By++[.tuple [.int (Fp X.length Y k:Int),.tuple [.int k,.int b]]]:=by
  unfold Hv
  rw[List.map_append]
  rfl
 have Mx:VH [.list (((Ao X.length Y).map (·.1)).map Bh),.list (((Dy X.length ((things Y).length+1) Y.length).map Bh).eraseIdx (Di Y k))]=some ((Gv X.length Y k).map Cv):=by
  rw[her,hpm]
  exact hmv
 rw[hfin]
 clear hfin hmv hpm her few hel hzl o1 o2 hA hml hpl hR hk hn r
 generalize (X++Y++Z).map encD=S at *
 generalize ((Ao X.length Y).map (·.1)).map Bh=P at *
 generalize (Dy X.length ((things Y).length+1) Y.length).map Bh=A at *
 generalize (((Ao X.length Y).filter fun p=>decide (p.2.1<k)).map fun p=>Bh p.1)=Q at *
 generalize (CV (Gv X.length Y k)).map By=Ws at *
 generalize (Gv X.length Y k).map Cv=Ms at *
 generalize ((X.length+Y.length:Nat):Int)=e at *
 generalize (X.length:Int)=f at *
 generalize (Fp X.length Y k:Int)=a at *
 generalize Di Y k=j at *
 refine FN rfl ?_
 unfold Tc
 refine Aw (ρ':=[.sh (.list S),.sh (.tuple [.int f,.int e]),.sh (.tuple [.int k,.int b]),.sh (.int f),.no,.no,.no,.no,.no]) (by clear p1 p2 p3 Mx hws hget hll hl;walk_at "pu") ?_
 refine Aw (ρ':=[.sh (.list S),.sh (.tuple [.int f,.int e]),.sh (.tuple [.int k,.int b]),.sh (.int f),.sh (.int e),.no,.no,.no,.no]) (by clear p1 p2 p3 Mx hws hget hll hl;walk_at "pu") ?_
 refine Aw (ρ':=[.sh (.list S),.sh (.tuple [.int f,.int e]),.sh (.tuple [.int k,.int b]),.sh (.int f),.sh (.int e),.sh (.list P),.no,.no,.no]) ?_ ?_
 ·generalize BX (Az Im (Ac (Aa 3) (Ac (Aa 4) Ae))) (Bg 0) (Av (Ab BZ (Ab Al (Aa 1) (Aa 0)) (BV Ae))) (Aa 0) 1 [0]=CC at *
  clear p2 p3 Mx hws hget hll hl
  walk_at "pu"
 refine Aw (ρ':=[.sh (.list S),.sh (.tuple [.int f,.int e]),.sh (.tuple [.int k,.int b]),.sh (.int f),.sh (.int e),.sh (.list P),.ow A,.no,.no]) ?_ ?_
 ·generalize BX (Be (Ax (Az K9 (Ac (Ab CG (Am Bm (Ac (Aa 5) Ae)) (Ad (.int 1))) (Ac (Ab Cr (Aa 4) (Aa 3)) Ae))))) (Bg 0) DK (Ab CG (Aa 1) (Aa 0)) 1 [3]=CC at *
  clear p1 p3 Mx hws hget hll hl
  walk_at "pu"
 refine Aw (ρ':=[.sh (.list S),.sh (.tuple [.int f,.int e]),.sh (.tuple [.int k,.int b]),.sh (.int f),.sh (.int e),.sh (.list P),.ow A,.sh (.list Q),.no]) ?_ ?_
 ·generalize BX (Be (Aa 5)) (Bg 0) (Av (Ab Er (Ab Al (Ab Al (Aa 2) (Aa 0)) (Ad (.int 0))) (Ab Al (Aa 1) (Ad (.int 0))))) (Aa 0) 1 [2,0]=CC at *
  clear p1 p2 Mx hws hget hll hl
  walk_at "pu"
 refine Aw (ρ':=[.sh (.list S),.sh (.tuple [.int f,.int e]),.sh (.tuple [.int k,.int b]),.sh (.int f),.sh (.int e),.sh (.list P),.ow (A.eraseIdx j),.sh (.list Q),.sh (.int a)]) ?_ ?_
 ·have hj0:0≤(j:Int):=Int.natCast_nonneg _
  have hjn:((j:Int)).toNat=j:=Int.toNat_natCast j
  clear p1 p2 p3 Mx hws hll hl hwl hj
  unfold SQ
  rw[← hlen3] at *
  walk_at "pu"
 ·clear p1 p2 p3 hget hll hl ACk hj hlen3
  walk_at "pu"
theorem AJi {ts:List Thing}{B:D}{hh k b:Int}{p:Nat}(h:Ew k 0 ts=some p):J9 [B,.int hh,.list (ts.map encD),.int k,.int b]=some ([(p,some (k,b))].map By):=by
 have hp:=U6 ts k
 rw[h] at hp
 have hp':K3 [.list (ts.map encD),.int k]=some (.int (p:Int)):=hp
 refine FN rfl ?_
 unfold Qc
 refine Aw (ρ':=[.sh B,.sh (.int hh),.sh (.list (ts.map encD)),.sh (.int k),.sh (.int b),.sh (.int (p:Int)),.no]) (by clear hp;walk_at "pu") ?_
 refine dG ?_
 clear hp hp' h
 walk_at "pu"
 rfl
theorem ADl {ts:List Thing}{k:Int}{p:Nat}(h:Ew k 0 ts=some p):RW [.list (ts.map encD),.int k]=some ([(p,none)].map By):=by
 have hp:=U6 ts k
 rw[h] at hp
 have hp':K3 [.list (ts.map encD),.int k]=some (.int (p:Int)):=hp
 refine FN rfl ?_
 unfold RD
 refine Aw (ρ':=[.sh (.list (ts.map encD)),.sh (.int k),.sh (.int (p:Int))]) (by clear hp;walk_at "pu") ?_
 refine Aw (ρ':=[.sh (.list (ts.map encD)),.sh (.int k),.sh (.int (p:Int))]) (by clear hp hp' h;walk_at "pu") ?_
 clear hp hp' h
 walk_at "pu"
 rfl
theorem rK {ts:List Thing}{w hh h s:Nat}(w1:1≤w)(hlen:ts.length=2 ^ hh*w)(hle:h≤hh)(hs:s<ts.length):∃ X Y Z,ts=X++Y++Z∧X.length=Bv w s h∧Y.length=2 ^ h*w∧Bv w s h≤s∧s<Bv w s h+2 ^ h*w:=by
 have hq:ts.length=2 ^ (hh-h)*(2 ^ h*w):=by
  rw[hlen,← Nat.mul_assoc,← Nat.pow_add,show hh-h+h=hh by omega]
 have hz:0<2 ^ h*w:=Nat.mul_pos (Nat.pow_pos (by decide)) w1
 unfold Bv
 generalize 2 ^ h*w=Z at *
 generalize 2 ^ (hh-h)=q at *
 have hd:s / Z<q:=by
  rw[Nat.div_lt_iff_lt_mul hz]
  omega
 have h1:s / Z*Z≤s:=Nat.div_mul_le_self s Z
 have h2:s<s / Z*Z+Z:=by
  have:=Nat.lt_succ_iff.mp (Nat.lt_succ_of_lt (Nat.mod_lt s hz))
  have e:=Nat.div_add_mod s Z
  rw[Nat.mul_comm] at e
  have:=Nat.mod_lt s hz
  omega
 have h3:s / Z*Z+Z≤ts.length:=by
  rw[hq,← Nat.succ_mul]
  exact Nat.mul_le_mul_right Z hd
 refine⟨ts.take (s / Z*Z),(ts.drop (s / Z*Z)).take Z,ts.drop (s / Z*Z+Z),?_,?_,?_,h1,h2⟩
 ·rw[List.append_assoc,← List.drop_drop,List.take_append_drop,List.take_append_drop]
 ·rw[List.length_take];omega
 ·rw[List.length_take,List.length_drop];omega
theorem zZ (X Y Z:List Thing):cnt (X++Y++Z) X.length (X.length+Y.length)=(things Y).length:=by
 unfold cnt
 rw[List.append_assoc,List.drop_left,show X.length+Y.length-X.length=Y.length by omega,List.take_left]
theorem gY {X Y Z:List Thing}{w st s h:Nat}(h1:X.length=Bv w s h)(h2:Y.length=2 ^ h*w)(hr:Ep (X++Y++Z) w st s h):(things Y).length+1≤Y.length:=by
 unfold Ep at hr
 rw[← h1,← h2,zZ] at hr
 have e:(2:Int) ^ h*((w:Int)-(h:Int)*(st:Int))≤((2 ^ h*w:Nat):Int):=by
  rw[Int.natCast_mul,Int.natCast_pow]
  refine Int.mul_le_mul_of_nonneg_left ?_ (Int.pow_nonneg (by decide))
  have:0≤(h:Int)*(st:Int):=Int.mul_nonneg (by omega) (by omega)
  omega
 omega
theorem ABh {X Y Z:List Thing}{t:Int}{w st hh h:Nat}{k:Int}(b:Int)(w1:1≤w)(w20:w≤20)(Eh:st≤20)(h4:hh≤4)(hlen:(X++Y++Z).length=2 ^ hh*w)(hR:Dr (X++Y++Z))(hk:k ∉ keysOf (X++Y++Z))(hc:((keysOf (X++Y++Z)).length:Int)<2 ^ hh*((w:Int)-hh*st))(hle:h≤hh)(hr:Ep (X++Y++Z) w st (Br (X++Y++Z) k (X++Y++Z).length) h)(hno:∀ l,l<h→¬ Ep (X++Y++Z) w st (Br (X++Y++Z) k (X++Y++Z).length) l)(h1:X.length=Bv w (Br (X++Y++Z) k (X++Y++Z).length) h)(h2:Y.length=2 ^ h*w) :
  J9 [.tuple [.int t,.int (w:Int),.int (st:Int)],.int (hh:Int),.list ((X++Y++Z).map encD),.int k,.int b]=some ((Hv X.length Y k b).map By):=by
 have hz:=Ia h4 w1 w20
 have hn:=gY h1 h2 hr
 have hkY:k ∉ keysOf Y:=fun q=>hk (by rw[Tj,Tj];exact Cw (Bc q))
 have hev:=ADQ (X:=X) (Y:=Y) (Z:=Z) b (by omega) hR hkY hn
 have hp:=U6 (X++Y++Z) k
 rw[(PX (k:=k) (X++Y++Z) 0).mpr hk] at hp
 have hp':K3 [.list ((X++Y++Z).map encD),.int k]=some .none:=hp
 have hheld:=held_eq (X++Y++Z) (by omega) 0 (X++Y++Z).length
 rw[pK,show ((0:Nat):Int)=0 from rfl] at hheld
 have hcap:=U3 (t:=t) (w:=w) (st:=st) (h:=hh) h4 Eh
 have hcl:(keysOf (X++Y++Z)).length=(things (X++Y++Z)).length:=by rw[Hj,List.length_map]
 rw[hcl] at hc
 have hnot:¬ (2:Int) ^ hh*((w:Int)-(hh:Int)*(st:Int))≤((things (X++Y++Z)).length:Int):=by omega
 have hhe:=AFH (X++Y++Z) t w st hh k h w1 w20 Eh h4 hlen hle hr hno
 have hse:=gQ (X++Y++Z) (by omega) k
 have hst:=bC (t:=t) (w:=w) (st:=st) (h:=h) (p:=Br (X++Y++Z) k (X++Y++Z).length) (by omega) w1 w20
 rw[← h1,← h2] at hst
 have hl3:((X++Y++Z).map encD).length=(X++Y++Z).length:=List.length_map _
 clear hp hkY hn hk hR hr hno h1 h2 hc hcl hle h4 Eh w1 w20 hz hlen
 generalize (Hv X.length Y k b).map By=Ws at *
 generalize (2:Int) ^ hh*((w:Int)-(hh:Int)*(st:Int))=C at *
 generalize Br (X++Y++Z) k (X++Y++Z).length=s at *
 generalize ((X.length+Y.length:Nat):Int)=e at *
 generalize (X.length:Int)=f at *
 generalize ((things (X++Y++Z)).length:Int)=n at *
 generalize (X++Y++Z).length=len at *
 generalize (X++Y++Z).map encD=S at *
 generalize hB:(PyData.tuple [.int t,.int (w:Int),.int (st:Int)]:D)=B at *
 refine FN rfl ?_
 unfold Qc
 refine Aw (ρ':=[.sh B,.sh (.int (hh:Int)),.sh (.list S),.sh (.int k),.sh (.int b),.sh .none,.no]) (by clear hev hheld hcap hnot hhe hse hst hl3 hB;walk_at "pu") ?_
 refine Aw (ρ':=[.sh B,.sh (.int (hh:Int)),.sh (.list S),.sh (.int k),.sh (.int b),.sh .none,.no]) (by clear hev hheld hcap hnot hhe hse hst hl3 hp' hB;walk_at "pu") ?_
 refine Aw (ρ':=[.sh B,.sh (.int (hh:Int)),.sh (.list S),.sh (.int k),.sh (.int b),.sh .none,.no]) (by clear hev hhe hse hst hp' hB;walk_at "pu") ?_
 refine Aw (ρ':=[.sh B,.sh (.int (hh:Int)),.sh (.list S),.sh (.int k),.sh (.int b),.sh .none,.sh (.int (h:Int))]) (by clear hev hheld hcap hnot hse hst hl3 hp' hB;walk_at "pu") ?_
 clear hheld hcap hnot hhe hp' hl3 hB
 walk_at "pu"
theorem Ml {t:Int}{w st hh:Nat}(bd:Bd t (w:Int) (st:Int))(ht:(hh:Int)≤t):1≤w∧w≤20∧st≤20∧1≤st∧hh≤4:=by
 have a:=bd.w1
 have b:=bd.hi
 have c:=bd.t4
 have d:=bd.t0
 have e:=bd.s1
 have f:=bd.lo
 have g:(st:Int)*1≤st*(t+2):=Int.mul_le_mul_of_nonneg_left (by omega) (by omega)
 omega
theorem ACG (ts:List Thing)(t:Int)(w st hh:Nat)(k b:Int)(h:Nat)(bd:Bd t (w:Int) (st:Int))(ht:(hh:Int)≤t)(hlen:ts.length=2 ^ hh*w)(hR:Dr ts)(hk:k ∉ keysOf ts)(hc:((keysOf ts).length:Int)<2 ^ hh*((w:Int)-hh*st))(hle:h≤hh)(hr:Ep ts w st (Br ts k ts.length) h)(hno:∀ l,l<h→¬ Ep ts w st (Br ts k ts.length) l) :
  ∃ X Y Z Y' s',ts=X++Y++Z∧X.length=Bv w (Br ts k ts.length) h∧Y.length=2 ^ h*w∧Y'.length=Y.length∧J9 [.tuple [.int t,.int (w:Int),.int (st:Int)],.int (hh:Int),.list (ts.map encD),.int k,.int b]=some ((Hv X.length Y k b).map By) ∧
   Run Gn ts (Gv X.length Y k) s'∧s'.length=ts.length∧s'[Fp X.length Y k]?=some none∧doneF ts (Hv X.length Y k b)=s'.set (Fp X.length Y k) (some (k,b))∧doneF ts (Hv X.length Y k b)=X++Y'++Z∧(Ao X.length Y').map (·.1)=Dy X.length ((things Y).length+1) Y.length ∧
   things Y'=(things Y).take (Di Y k)++(k,b)::(things Y).drop (Di Y k)∧(things Y).length+1≤Y.length∧(Gv X.length Y k).length≤(things Y).length∧Fp X.length Y k<ts.length:=by
 obtain⟨w1,w20,Eh,s1,h4⟩:=Ml bd ht
 have hz:=Ia h4 w1 w20
 have hs:=XH ts k ts.length
 obtain⟨X,Y,Z,e1,e2,e3,e4,e5⟩:=rK (h:=h) w1 hlen hle (s:=Br ts k ts.length) (by omega)
 generalize hse:Br ts k ts.length=s at *
 subst e1
 have hn:=gY e2 e3 hr
 have hkY:k ∉ keysOf Y:=fun q=>hk (by rw[Tj,Tj];exact Cw (Bc q))
 subst hse
 have bV:=ABh (X:=X) (Y:=Y) (Z:=Z) (t:=t) b w1 w20 Eh h4 hlen hR hk hc hle hr hno e2 e3
 obtain⟨s',Y',r,hfree,hd,hd2,hl,hp,hth,hsl⟩:=oV (X:=X) (Z:=Z) b hR hkY hn
 have hA:((Dy X.length ((things Y).length+1) Y.length).eraseIdx (Di Y k)).length=(Ao X.length Y).length:=by
  have hj:=R7 Y k
  rw[Mh,List.length_eraseIdx,M8,if_pos (by omega)]
  omega
 have hzl:=iB (Ao X.length Y) _ hA
 have few:=VN (Jy X.length Y k)
 have hel:(Jy X.length Y k).length=(things Y).length:=hzl.trans (Mh Y _)
 have hin:=vG (f:=X.length) (n:=(things Y).length+1) (W:=Y.length) (by omega) _ (lN X.length Y k)
 refine⟨X,Y,Z,Y',s',rfl,e2,e3,hl,bV,r,hsl,hfree,hd,hd.trans hd2,hp,hth,hn,?_,?_⟩
 ·unfold Gv
  rw[List.length_append]
  omega
 ·rw[List.length_append,List.length_append]
  omega
noncomputable def TJ:Ai:=(Bs (Ab Al (Ab Al (Ab Al (Aa 0) (Ad (.int 2))) (Ad (.int 0))) (Ad (.int 0))))
noncomputable def M3:List D→Option D:=Cz 1 1 TJ
noncomputable def VG:Ai:=(Bs (Ab Al (Ab Al (Ab Al (Aa 0) (Ad (.int 2))) (Ad (.int 0))) (Ad (.int 1))))
noncomputable def Mu:List D→Option D:=Cz 1 1 VG
noncomputable def Ro:Ai:=(El (Fd (Ab Al (Aa 1) (Am M3 (Ac (Aa 1) Ae))) JQ (Ea (Am Qy (Ac (Aa 0) (Ac (Am Mu (Ac (Aa 1) Ae)) Ae))))))
noncomputable def MT:List D→Option (List D):=Dt 2 2 Ro
noncomputable def UG:Ai:=(M7 2 (Aa 3) (Aa 4) (vS (Aa 5)))
noncomputable def OJ:Ai:=(Ak (Aq 2 (vN (Fi (Be (Aa 0)) (Bg 0) DK (Az G4 (Ac (Aa 0) Ae)) 1 [])))
  (Ak (Eu (Be (Aa 1)) (NP 3 4 5) UG)
  (Q5 2)))
noncomputable def Th:List D→Option (List (List D)):=runN 2 6 OJ
noncomputable def Ua:Ai:=(El (BX (Be (Aa 1)) (J0 0 1) DK (BV (Ac (Aa 2) (Ac (Aa 0) (Ac (Aa 1) Ae)))) 2 [0]))
noncomputable def OD:List D→Option (List D):=Dt 2 2 Ua
noncomputable def Qt:Ai:=(Ak (Aq 6 (vS (Am Qh (Ac (Aa 0) (Ac (Ab CG (Ab CG (Ab CZ (Ad (.int 2)) (Aa 5)) (Aa 1)) (Ad (.int 500))) Ae)))))
   (Ak (Aq 7 (vS (Ab Cr (Ab Ba (Ab CP (Aa 6) (Ad (.int 3))) (Ad (.int 1000))) (Ad (.int 500)))))
   (Ak (CN (Fo (Av (Ab BZ (Aa 3) (Ax (CK Ae)))) (Av (Ab Bp (Ab Ba (Ab CP (Aa 6) (Ad (.int 7))) (Ad (.int 2))) (Ad (.int 0)))))
    (Aq 7 (vS (Ab Cr (Ab CG (Ab Al (Ab Al (Aa 3) (Ab Ba (Ab CP (Aa 6) (Ad (.int 14))) (Am Bm (Ac (Aa 3) Ae)))) (Ad (.int 0))) (Ab Ba (Ab CP (Aa 6) (Ad (.int 5))) (Ad (.int 3)))) (Ad (.int 1))))) CQ)
   (Jh 4 (vS (Ab Al (Ax (CK (Ac (BV Ae) (Ac (BV (Ac (Aa 7) (Ac (Ab Ba (Ab CP (Aa 6) (Ad (.int 11))) (Ab Fy (Ad (.int 10)) (Ad (.int 6)))) Ae))) Ae)))) (Am Jw (Ac (Ab Ig (Ab Ba (Aa 6) (Ad (.int 3))) (Ad (.int 0))) Ae))))))))
noncomputable def RJ:Ai:=(Ak (Aq 4 (vL (CK Ae)))
  (Ak (Eu (Az Dn (Ac (Aa 2) Ae)) (Ek 5) Qt)
  (Je 4)))
noncomputable def Lw:List D→Option (List D):=Dt 4 8 RJ
noncomputable def Mj:Ai:=(Ak (Aq 5 (vS (Ax (BX (Be (Aa 3)) (Bg 0) (Av (Ab BZ (Aa 0) (BV Ae))) (Aa 0) 1 []))))
  (Ak (Aq 6 (vL (BX (Az Dn (Ac (Ad (.int 2)) Ae)) (Bg 0) DK (Ax (Az Lw (Ac (Aa 1) (Ac (Aa 0) (Ac (Ab CZ (Am Hu (Ac (Ab Al (Aa 3) (Ad (.int 0))) Ae)) (Ab Al (Aa 3) (Ad (.int 1)))) (Ac (Aa 2) Ae)))))) 1 [4,5,0])))
  (Ak (Ir 6 (Aa 2) (Hb (G9 (Aa 3) (Ax (Fd (Ab Al (Aa 6) (Aa 2)) (Ea (Am Bm (Ac (Aa 3) Ae))) JQ)))))
  (El (CK (Ac (Ab Al (Aa 6) (Ad (.int 0))) (Ac (Ab Al (Aa 6) (Ad (.int 1))) (Ac (Ax (CK (Ac (BV (Ac (Aa 2) (Ac (Aa 1) Ae))) Ae))) Ae))))))))
noncomputable def Nm:List D→Option (List D):=Dt 5 7 Mj
noncomputable def Q6:Ai:=(Bs (Ab CZ (Am Hu (Ac (Aa 1) Ae)) (Ab Cr (Ab Al (Aa 0) (Ad (.int 1))) (Ab CZ (Aa 1) (Ab Al (Aa 0) (Ad (.int 2)))))))
noncomputable def Ly:List D→Option D:=Cz 2 2 Q6
noncomputable def VP:Ai:=(Ak (Aq 8 (vS (Ab Cr (Ab Ba (Am Qh (Ac (Aa 2) (Ac (Aa 7) Ae))) (Ab Al (Ax (CK (Ac (Ab Fy (Ad (.int 10)) (Ad (.int 9))) (Ac (Ad (.int 3)) Ae)))) (Ab Ba (Aa 7) (Ad (.int 2))))) (Ad (.int 1)))))
   (Ir 6 (Ab Al (Aa 5) (Aa 7)) (vS (BV (Ac (Ab Cr (Ab CZ (Ab CZ (Ad (.int 3)) (Aa 7)) (Ab Al (Ax (CK (Ac (Ad (.int 1)) (Ac (Ab Fy (Ad (.int 10)) (Ad (.int 40))) Ae)))) (Ab Ba (Aa 2) (Ad (.int 2))))) (Ab Ba (Aa 2) (Ab Fy (Ad (.int 10)) (Ad (.int 57))))) (Ac (Aa 8) Ae))))))
noncomputable def VD:Ai:=(RT 5 (Ab Ba (Ab CP (Am Qh (Ac (Aa 2) (Ac (Am Bm (Ac (Aa 5) Ae)) Ae))) (Ad (.int 7))) (Am Bm (Ac (Aa 5) Ae))))
noncomputable def Td:Ai:=(Ak (Aq 4 (vS (Ab CZ (Am Hu (Ac (Aa 1) Ae)) (Ab Al (Aa 0) (Ad (.int 1))))))
  (Ak (Aq 5 (vL (QF (Ac (Aa 4) Ae))))
  (Ak (Gu (Av (Ab Ig (Am Bm (Ac (Aa 5) Ae)) (Am Ja (Ac (Ad (.int 0)) (Ac (Aa 3) Ae))))) VD 1000000)
  (Ak (Aq 6 (vL (BX (Az Dn (Ac (Aa 4) Ae)) (Bg 0) DK (BV Ae) 1 [])))
  (Ak (Ow (Az Dn (Ac (Am Bm (Ac (Aa 5) Ae)) Ae)) (Ek 7) VP)
  (Je 6))))))
noncomputable def aK:List D→Option (List D):=Dt 4 9 Td
noncomputable abbrev Dk:=List (List Thing)
noncomputable def encL (ts:List Thing):D:=.list (ts.map encD)
noncomputable def BK (k:Dk):D:=.list (k.map encL)
noncomputable def BW (k:Dk):List (List D):=k.map fun ts=>ts.map encD
theorem T6 (k:Dk):BK k=.list ((BW k).map PyData.list):=by
 unfold BK BW encL
 rw[List.map_map]
 rfl
theorem tV {α β:Type}(f:α→β)(xs:List α)(i:Int):Bj (xs.map f) i=(Bj xs i).map f:=by
 unfold Bj
 rw[List.length_map]
 cases Ei xs.length i with
 | none=>rfl
 | some j=>simp
theorem sO {α:Type}{xs:List α}{j:Nat}{x:α}(h:xs[j]?=some x):Bj xs (j:Int)=some x:=by
 unfold Bj
 rw[J6 (List.getElem?_eq_some_iff.mp h).1]
 exact h
theorem Wu {k:Dk}{j:Nat}{A:List Thing}(h:k[j]?=some A):Al (BK k) (.int (j:Int))=some (encL A):=by
 show Bj (k.map encL) _=_
 rw[tV,sO h]
 rfl
theorem cJ (x y:Int):Al (encD (some (x,y))) (.int 0)=some (.int x):=rfl
theorem AEd (x y:Int):Al (encD (some (x,y))) (.int 1)=some (.int y):=rfl
structure FQ (k:Dk)(n a h:Nat)(A B:List Thing):Prop where
 eq:k=[A,B,[some ((a:Int),(h:Int))]]
 lA:A.length=n
 lB:B.length=n
 a2:a<2
noncomputable def CT (k:Dk)(a:Nat):List Thing:=k.getD a []
theorem FQ.ar {k:Dk}{n a h:Nat}{A B:List Thing}(d:FQ k n a h A B):k[a]?=some (CT k a)∧(CT k a).length=n:=by
 obtain⟨rfl,lA,lB,a2⟩:=d
 match a,a2 with
 | 0,_=>exact⟨rfl,lA⟩
 | 1,_=>exact⟨rfl,lB⟩
theorem FQ.Nt {k:Dk}{n a h:Nat}{A B:List Thing}(d:FQ k n a h A B):k[1-a]?=some (CT k (1-a))∧(CT k (1-a)).length=n:=by
 obtain⟨rfl,lA,lB,a2⟩:=d
 match a,a2 with
 | 0,_=>exact⟨rfl,lB⟩
 | 1,_=>exact⟨rfl,lA⟩
theorem FQ.sg {k:Dk}{n a h:Nat}{A B:List Thing}(d:FQ k n a h A B):Al (BK k) (.int 2)=some (encL [some ((a:Int),(h:Int))])∧Al (encL [some ((a:Int),(h:Int))]) (.int 0)=some (encD (some ((a:Int),(h:Int)))):=by
 obtain⟨rfl,_⟩:=d
 exact⟨rfl,rfl⟩
theorem T3 {k:Dk}{n a h:Nat}{A B:List Thing}(d:FQ k n a h A B):M3 [BK k]=some (.int (a:Int)):=by
 obtain⟨e1,e2⟩:=d.sg
 have e3:=cJ (a:Int) (h:Int)
 refine Dl (o:=.rt (.int (a:Int))) rfl ?_ rfl
 unfold TJ
 walk_at "pu"
theorem Tt {k:Dk}{n a h:Nat}{A B:List Thing}(d:FQ k n a h A B):Mu [BK k]=some (.int (h:Int)):=by
 obtain⟨e1,e2⟩:=d.sg
 have e3:=AEd (a:Int) (h:Int)
 refine Dl (o:=.rt (.int (h:Int))) rfl ?_ rfl
 unfold VG
 walk_at "pu"
theorem oU {α:Type}(f:α→D)(xs:List α)(n:Nat):cutD (xs.map f) none (some (n:Int))=(xs.take n).map f:=by
 unfold cutD
 have e0:HT.DY (xs.map f).length 0 none=0:=rfl
 rw[e0,List.drop_zero,← List.map_take]
 have e1:HT.DY (xs.map f).length (xs.map f).length (some (n:Int))=min n xs.length:=by
  simp only[HT.DY,List.length_map]
  rw[if_neg (by omega)]
  omega
 rw[e1,Nat.sub_zero]
 congr 1
 by_cases h:n≤xs.length
 ·rw[Nat.min_eq_left h]
 ·rw[Nat.min_eq_right (by omega),List.take_of_length_le (Nat.le_refl _),List.take_of_length_le (by omega)]
noncomputable def CW (w:Nat)(k:Dk)(a h:Nat):List Thing:=(CT k a).take (2 ^ h*w)
theorem R3 {k:Dk}{n a h w st:Nat}{t:Int}{A B:List Thing}(d:FQ k n a h A B)(h4:h≤4):MT [.tuple [.int t,.int (w:Int),.int (st:Int)],BK k]=some ((CW w k a h).map encD):=by
 have e1:=T3 d
 have e2:=Tt d
 have e3:=places_eq (t:=t) (w:=w) (st:=st) h4
 have e4:=Wu d.ar.1
 have e5:Gk (encL (CT k a))=some ((CT k a).map encD):=rfl
 have e6:=oU encD (CT k a) (2 ^ h*w)
 refine FN rfl ?_
 unfold Ro CW
 walk_at "pu"
theorem ACn (dss:List (List D)):KZ (Bg 0) DK (Az G4 (Ac (Aa 0) Ae)) [none] (dss.map PyData.list)=some dss:=by
 induction dss with
 | nil=>rfl
 | cons d r ih =>
  rw[List.map_cons]
  unfold KZ
  rw[ih]
  rfl
theorem sH {fi:BJ}{ρ:BR}{dss:List (List D)}(h:fi ρ=some (dss.map PyData.list))(hl:dss.length<16777216):Fi fi (Bg 0) DK (Az G4 (Ac (Aa 0) Ae)) 1 [] ρ=some dss:=by
 unfold Fi
 rw[h]
 show (if fits (dss.map PyData.list).length=true then _ else _)=_
 rw[List.length_map,if_pos (Ym hl)]
 exact ACn dss
theorem AIm {f:BJ}{ρ:Af}{ds:List D}(i:Nat)(h:f (masked ρ)=some ds):Aq i (Fx f) ρ=some (.nx (ρ.set i (.sh (.list ds)))):=by
 have e:Ax f (masked ρ)=some (.list ds):=by
  show (f (masked ρ)).map PyData.list=_
  rw[h]
  rfl
 show ((Ax f (masked ρ)).bind _).bind _=_
 rw[e]
 rfl
noncomputable abbrev Wr:=Nat×Nat×Thing
noncomputable def Bl (q:Wr):D:=.tuple [.int (q.1:Nat),.int (q.2.1:Nat),encD q.2.2]
noncomputable def DW (k:Dk)(q:Wr):Dk:=k.set q.1 ((k.getD q.1 []).set q.2.1 q.2.2)
noncomputable def GR (k:Dk)(ws:List Wr):Dk:=ws.foldl DW k
noncomputable def Hm (k:Dk)(q:Wr):Prop:=q.1<k.length∧q.2.1<(k.getD q.1 []).length
noncomputable def Alike (k k':Dk):Prop:=k'.length=k.length∧∀ a,(k'.getD a []).length=(k.getD a []).length
theorem Alike.refl (k:Dk):Alike k k:=⟨rfl,fun _=>rfl⟩
theorem Alike.DW {k k':Dk}(h:Alike k k')(q:Wr):Alike k (DW k' q):=by
 unfold LL.DW
 refine⟨by rw[List.length_set];exact h.1,fun a=>?_⟩
 rw[← h.2 a]
 by_cases e:q.1=a
 ·subst e
  by_cases hl:q.1<k'.length
  ·simp [List.getD_eq_getElem?_getD,List.getElem?_set_self hl]
  ·rw[List.set_eq_of_length_le (by omega)]
 ·simp [List.getD_eq_getElem?_getD,List.getElem?_set_ne e]
theorem Alike.ok {k k':Dk}(h:Alike k k'){q:Wr}(o:Hm k q):Hm k' q:=⟨by rw[h.1];exact o.1,by rw[h.2];exact o.2⟩
theorem cF {k:Dk}{a:Nat}(h:a<k.length):(BW k)[a]?=some ((k.getD a []).map encD):=by
 unfold BW
 rw[List.getElem?_map,List.getElem?_eq_getElem h,List.getD_eq_getElem?_getD,List.getElem?_eq_getElem h]
 rfl
theorem mF (k:Dk)(q:Wr):(BW k).set q.1 (((k.getD q.1 []).map encD).set q.2.1 (encD q.2.2))=BW (DW k q):=by
 unfold BW LL.DW
 rw[List.map_set,List.map_set]
theorem AFL (k:Dk)(ws:List Wr)(hk:k.length<16777216)(h:∀ q∈ws,Hm k q):Th [BK k,.list (ws.map Bl)]=some (BW (GR k ws)):=by
 have loop:=aW (bs:=NP 3 4 5) (F:=UG) Bl (fun (us:Dk) ρ=>Alike k us∧∃ s3 s4 s5,ρ=[.sh (BK k),.sh (.list (ws.map Bl)),.on (BW us),s3,s4,s5]) DW ws ?_ k
  [.sh (BK k),.sh (.list (ws.map Bl)),.on (BW k),.no,.no,.no] ⟨Alike.refl k,.no,.no,.no,rfl⟩
 ·obtain⟨ρ',hf,_,s3,s4,s5,rfl⟩:=loop
  have hm:Th=L2.runN 2 6 OJ:=rfl
  rw[hm]
  unfold L2.runN
  rw[if_pos (show [BK k,PyData.list (ws.map Bl)].length=2 from rfl)]
  have main:OJ (Gr 6 [BK k,.list (ws.map Bl)])=some (.rn (BW (GR k ws))):=by
   unfold OJ
   have hc:Fi (Be (Aa 0)) (Bg 0) DK (Az G4 (Ac (Aa 0) Ae)) 1 [] (masked (Gr 6 [BK k,.list (ws.map Bl)]))=some (BW k):=sH (by rw[T6];rfl) (by unfold BW;rw[List.length_map];exact hk)
   refine Aw (ρ':=[.sh (BK k),.sh (.list (ws.map Bl)),.on (BW k),.no,.no,.no]) ?_ ?_
   ·show (vN _ _).bind _=_
    unfold vN
    rw[hc]
    rfl
   ·refine Aw ((GJ (items:=ws.map Bl) (by walk_at "pu")).trans hf) ?_
    walk_at "pu"
    rfl
  rw[main]
  rfl
 ·rintro us ρ q hq ⟨hA,s3,s4,s5,rfl⟩
  obtain⟨o1,o2⟩:=hA.ok (h q hq)
  have l1:(BW us).length=us.length:=by unfold BW;rw[List.length_map]
  have i1:=J6 (n:=us.length) (j:=q.1) o1
  have i2:=J6 (n:=(us.getD q.1 []).length) (j:=q.2.1) o2
  have g1:=cF o1
  have st:=mF us q
  refine⟨_,[.sh (BK k),.sh (.list (ws.map Bl)),.on (BW (DW us q)),.sh (.int (q.1:Nat)),.sh (.int (q.2.1:Nat)),.sh (encD q.2.2)],rfl,?_,hA.DW q,_,_,_,rfl⟩
  clear hA hq h o1 o2
  unfold UG
  walk_at "pu"
theorem Zh (a:Nat)(ws:List (Nat×Thing))(hl:ws.length<16777216):OD [.int (a:Int),.list (ws.map By)]=some ((ws.map fun q=>((a,q.1,q.2):Wr)).map Bl):=by
 refine FN rfl ?_
 unfold Ua
 have hc:BX (Be (Aa 1)) (J0 0 1) DK (BV (Ac (Aa 2) (Ac (Aa 0) (Ac (Aa 1) Ae)))) 2 [0] (full (Gr 2 [.int (a:Int),.list (ws.map By)]))=some ((ws.map fun q=>((a,q.1,q.2):Wr)).map Bl):=by
  refine (HF (items:=ws.map By) (by walk_at "pu") (by rw[List.length_map];exact hl)).trans ?_
  have key:∀ us:List (Nat×Thing),JB (J0 0 1) DK (BV (Ac (Aa 2) (Ac (Aa 0) (Ac (Aa 1) Ae)))) [none,none,some (.int (a:Int))] (us.map By)=some ((us.map fun q=>((a,q.1,q.2):Wr)).map Bl):=by
   intro us
   induction us with
   | nil=>rfl
   | cons q r ih =>
    rw[List.map_cons]
    unfold JB
    rw[ih]
    rfl
  exact key ws
 show (BX _ _ _ _ _ _ _).bind _=_
 rw[hc]
 rfl
theorem yP (X:List Pr):BZ (.list (X.map Ay)) (.list [])=some (.bool (!decide (X=[]))):=cV X []
theorem j6 (c k:Int)(n:Nat)(X:List Pr)(hn:n≤320)(hX:X.length≤320):∃ A:List Thing,Lw [.int c,.int k,.int (n:Int),.list (X.map Ay)]=some (A.map encD)∧A.length=n:=by
 have loop:=Tw (lo:=0) (bs:=Ek 5) (F:=Qt)
  (fun i ρ=>∃ (A:List Thing) (s5 s6 s7:Sl),ρ=[.sh (.int c),.sh (.int k),.sh (.int (n:Int)),.sh (.list (X.map Ay)),.ow (A.map encD),s5,s6,s7]∧A.length=i)
  n ?_ [.sh (.int c),.sh (.int k),.sh (.int (n:Int)),.sh (.list (X.map Ay)),.ow [],.no,.no,.no] ⟨[],_,_,_,rfl,rfl⟩
 ·obtain⟨ρ',yO,A,s5,s6,s7,rfl,hl⟩:=loop
  refine⟨A,FN rfl ?_,hl⟩
  have hr:Dn [.int (n:Int)]=some (Ci 0 n):=J7 _ ⟨by omega,by omega⟩
  unfold RJ
  refine Aw (ρ':=[.sh (.int c),.sh (.int k),.sh (.int (n:Int)),.sh (.list (X.map Ay)),.ow [],.no,.no,.no]) (by walk_at "pu") ?_
  exact Aw ((GJ (items:=Ci 0 n) (by walk_at "pu")).trans yO) (by walk_at "pu")
 ·rintro i ρ hi ⟨A,s5,s6,s7,rfl,hl⟩
  obtain⟨m,hm,m0⟩:=Yu c (2*(0+(i:Int))+k+500)
  have hi2:i<16777216:=by omega
  have hnil:=yP X
  have hi3:-18446744073709551616<(0+(i:Int))∧(0+(i:Int))<18446744073709551616:=⟨by omega,by omega⟩
  have last:∀ key:Int,∃ x:Thing,(Jh 4 (vS (Ab Al (Ax (CK (Ac (BV Ae) (Ac (BV (Ac (Aa 7) (Ac (Ab Ba (Ab CP (Aa 6) (Ad (.int 11))) (Ab Fy (Ad (.int 10)) (Ad (.int 6)))) Ae))) Ae)))) (Am Jw (Ac (Ab Ig (Ab Ba (Aa 6) (Ad (.int 3))) (Ad (.int 0))) Ae)))))
    [.sh (.int c),.sh (.int k),.sh (.int (n:Int)),.sh (.list (X.map Ay)),.ow (A.map encD),.sh (.int (0+(i:Int))),.sh (.int m),.sh (.int key)]=some (.nx [.sh (.int c),.sh (.int k),.sh (.int (n:Int)),.sh (.list (X.map Ay)),.ow ((A++[x]).map encD),.sh (.int (0+(i:Int))),.sh (.int m),.sh (.int key)]):=by
   intro key
   have lA:A.length<16777216:=by omega
   by_cases h3:0<m % 3
   ·refine⟨some (key,m / 11 % Cj 6),?_⟩
    rw[List.map_append]
    show _=some (Out.nx [_,_,_,_,.ow (A.map encD++[.tuple [.int key,.int (m / 11 % Cj 6)]]),_,_,_])
    clear hm hnil
    walk_at "pu"
   ·refine⟨none,?_⟩
    rw[List.map_append]
    show _=some (Out.nx [_,_,_,_,.ow (A.map encD++[.tuple []]),_,_,_])
    clear hm hnil
    walk_at "pu"
  by_cases hb:X≠[]∧m / 7 % 2=0
  ·obtain⟨b1,b2⟩:=hb
   have hXp:0<X.length:=List.length_pos_iff.mpr b1
   have hmm:=FJ (m / 14) (b:=(X.length:Int)) (by omega)
   obtain⟨v,hv,ev⟩:=Hx (X.map Ay) (i:=m / 14 % (X.length:Int)) hmm.1 (by rw[List.length_map];exact hmm.2)
   obtain⟨x,hx,rfl⟩:=List.mem_map.mp hv
   obtain⟨kx,wx⟩:=x
   obtain⟨y,hy⟩:=last (kx+m / 5 % 3-1)
   refine⟨_,[.sh (.int c),.sh (.int k),.sh (.int (n:Int)),.sh (.list (X.map Ay)),.ow ((A++[y]).map encD),.sh (.int (0+(i:Int))),.sh (.int m),.sh (.int (kx+m / 5 % 3-1))],rfl,?_,A++[y],_,_,_,rfl,by rw[List.length_append,hl];rfl⟩
   have e0:Al (Ay (kx,wx)) (.int 0)=some (.int kx):=rfl
   have AJ8:(0:Int)<(X.length:Int):=by omega
   unfold Qt
   refine Aw (ρ':=[.sh (.int c),.sh (.int k),.sh (.int (n:Int)),.sh (.list (X.map Ay)),.ow (A.map encD),.sh (.int (0+(i:Int))),.sh (.int m),s7]) (by clear hnil hv ev hy e0;walk_at "pu") ?_
   refine Aw (ρ':=[.sh (.int c),.sh (.int k),.sh (.int (n:Int)),.sh (.list (X.map Ay)),.ow (A.map encD),.sh (.int (0+(i:Int))),.sh (.int m),.sh (.int (m / 3 % 1000-500))]) (by clear hm hnil hv ev hy e0;walk_at "pu") ?_
   refine Aw (ρ':=[.sh (.int c),.sh (.int k),.sh (.int (n:Int)),.sh (.list (X.map Ay)),.ow (A.map encD),.sh (.int (0+(i:Int))),.sh (.int m),.sh (.int (kx+m / 5 % 3-1))]) ?_ hy
   clear hm hv hy hmm hx hXp m0
   walk_at "pu"
  ·obtain⟨y,hy⟩:=last (m / 3 % 1000-500)
   refine⟨_,[.sh (.int c),.sh (.int k),.sh (.int (n:Int)),.sh (.list (X.map Ay)),.ow ((A++[y]).map encD),.sh (.int (0+(i:Int))),.sh (.int m),.sh (.int (m / 3 % 1000-500))],rfl,?_,A++[y],_,_,_,rfl,by rw[List.length_append,hl];rfl⟩
   unfold Qt
   refine Aw (ρ':=[.sh (.int c),.sh (.int k),.sh (.int (n:Int)),.sh (.list (X.map Ay)),.ow (A.map encD),.sh (.int (0+(i:Int))),.sh (.int m),s7]) (by clear hnil hy hb;walk_at "pu") ?_
   refine Aw (ρ':=[.sh (.int c),.sh (.int k),.sh (.int (n:Int)),.sh (.list (X.map Ay)),.ow (A.map encD),.sh (.int (0+(i:Int))),.sh (.int m),.sh (.int (m / 3 % 1000-500))]) (by clear hm hnil hy hb;walk_at "pu") ?_
   refine Aw ?_ hy
   clear hm hy
   by_cases b1:X=[]
   ·clear hb
    rw[decide_eq_true b1,Bool.not_true] at hnil
    clear b1
    walk_at "pu"
   ·have b2:¬ m / 7 % 2=0:=fun z=>hb ⟨b1,z⟩
    clear hb
    walk_at "pu"
theorem AHs {α:Type}(f:α→D)(xs:List α)(n:Nat):cutD (xs.map f) (some (n:Int)) none=(xs.drop n).map f:=by
 unfold cutD
 have e0:HT.DY (xs.map f).length 0 (some (n:Int))=min n xs.length:=by
  simp only[HT.DY,List.length_map]
  rw[if_neg (by omega)]
  omega
 have e1:HT.DY (xs.map f).length (xs.map f).length none=xs.length:=by simp [HT.DY]
 rw[e0,e1,← List.map_drop,← List.map_take]
 congr 1
 by_cases h:n≤xs.length
 ·rw[Nat.min_eq_left h,List.take_of_length_le (by simp)]
 ·rw[Nat.min_eq_right (by omega),List.drop_of_length_le (Nat.le_refl _),List.drop_of_length_le (by omega)]
  simp
noncomputable def QV (last:Thing):List Thing→Thing
 | []=>last
 | none::r=>QV last r
 | some x::r=>QV (some x) r
theorem We:∀ (A:List Thing) (last:Thing) (i:Nat) (R:List Thing),(keysOf (last::A)).Pairwise (· < ·)→FW last i (A++R)=FW (QV last A) (i+A.length) R
 | [],last,i,R,_=>rfl
 | none::r,last,i,R,h=>by
  have h':(keysOf (last::r)).Pairwise (· < ·):=by
   cases last with
   | none=>exact h
   | some y=>exact h
  have:=We r last (i+1) R h'
  rw[List.cons_append,List.length_cons]
  show FW last (i+1) (r++R)=FW (QV last r) _ R
  rw[this]
  congr 1
  omega
 | some x::r,last,i,R,h=>by
  have hx:¬ some x=last:=by
   intro e
   subst e
   have h2:(x.1::x.1::keysOf r).Pairwise (· < ·):=h
   have:=(List.pairwise_cons.mp h2).1 x.1 Bf
   omega
  have h':(keysOf (some x::r)).Pairwise (· < ·):=by
   cases last with
   | none=>exact h
   | some y=>exact (List.pairwise_cons.mp (show (y.1::keysOf (some x::r)).Pairwise (· < ·) from h)).2
  have:=We r (some x) (i+1) R h'
  rw[List.cons_append,List.length_cons]
  show (if some x=last then some i else FW (some x) (i+1) (r++R))=FW (QV (some x) r) _ R
  rw[if_neg hx,this]
  congr 1
  omega
theorem w6 {ts:List Thing}(h:Dr ts):FW none 0 ts=none:=by
 have:=We ts none 0 [] h
 rw[List.append_nil] at this
 rw[this]
 rfl
theorem ADc {ts:List Thing}(h:Dr ts):J8 ts=ts:=by
 unfold J8
 rw[w6 h]
noncomputable def Vf:Ai:=(Ak (Aq 3 (vS (Ax (Az MT (Ac (Aa 0) (Ac (Aa 1) Ae))))))
  (Ak (Aq 4 (vS (Am Mu (Ac (Aa 1) Ae))))
  (Ak (CN (Jp (Av (Ab Bp (Aa 4) (Ab Al (Aa 0) (Ad (.int 0))))) (Av (Ab Er (Am Nh (Ac (Aa 3) (Ac (Ad (.int 0)) (Ac (Am Bm (Ac (Aa 3) Ae)) Ae)))) (Am Qs (Ac (Aa 0) (Ac (Aa 4) Ae))))))
   (Bs (Ad (.bool false))) CQ)
  (Bs (Ab Kr (Am K3 (Ac (Aa 3) (Ac (Aa 2) Ae))) (Ad .none))))))
noncomputable def Le:List D→Option D:=Cz 3 5 Vf
noncomputable def Ou:Ai:=(Ak (CN (JP (Av (Am Le (Ac (Aa 0) (Ac (Aa 1) (Ac (Aa 2) Ae))))))
   (El (CK Ae)) CQ)
  (Ak (Aq 3 (vS (Ab Cr (Ad (.int 1)) (Am M3 (Ac (Aa 1) Ae)))))
  (Ak (Aq 4 (vS (Ab CG (Am Mu (Ac (Aa 1) Ae)) (Ad (.int 1)))))
  (Ak (Aq 5 (vS (Ax (Az Rv (Ac (Ax (Az MT (Ac (Aa 0) (Ac (Aa 1) Ae)))) Ae)))))
  (Ak (Aq 6 (vS (Ax (Az K9 (Ac (Am Bm (Ac (Aa 5) Ae)) (Ac (Am Qy (Ac (Aa 0) (Ac (Aa 4) Ae))) Ae))))))
  (Ak (Aq 7 (Fx (BX (Az HX (Ac (Ab Al (Aa 1) (Aa 3)) Ae)) (J0 0 1) (Av (Ab BZ (Aa 1) (BV Ae))) (BV (Ac (Aa 0) (Ac (BV Ae) Ae))) 2 [])))
  (Ak (Aq 8 (vS (Ax (Mt (Ac (Aa 6) (Ac (Aa 5) Ae))))))
  (El (G9 (Ax (Az OD (Ac (Aa 3) (Ac (Ax (G9 (Aa 7) (Aa 8))) Ae)))) (Ax (CK (Ac (BV (Ac (Ad (.int 2)) (Ac (Ad (.int 0)) (Ac (BV (Ac (Aa 3) (Ac (Aa 4) Ae))) Ae)))) Ae))))))))))))
noncomputable def LK:List D→Option (List D):=Dt 3 9 Ou
noncomputable def R0:Ai:=(Ak (Aq 4 (vS (Ax (Az LK (Ac (Aa 0) (Ac (Aa 1) (Ac (Aa 2) Ae)))))))
  (Ak (Aq 5 (vS (Ax (Oi (NZ Th (Ac (Aa 1) (Ac (Aa 4) Ae)))))))
  (Ak (Aq 6 (vS (Ax (Az J9 (Ac (Aa 0) (Ac (Am Mu (Ac (Aa 5) Ae)) (Ac (Ax (Az MT (Ac (Aa 0) (Ac (Aa 5) Ae)))) (Ac (Aa 2) (Ac (Aa 3) Ae)))))))))
  (El (G9 (Aa 4) (Ax (Az OD (Ac (Am M3 (Ac (Aa 5) Ae)) (Ac (Aa 6) Ae)))))))))
noncomputable def Jj:List D→Option (List D):=Dt 4 7 R0
noncomputable def Eo (P:PP)(s:List Thing):List Thing:=P.foldl (fun s p=>s.set p.1 (some p.2)) s
theorem RX:∀ (Y' X Z:List Thing),Eo (Ao X.length Y') (X++List.replicate Y'.length none++Z)=X++Y'++Z
 | [],X,Z=>rfl
 | none::r,X,Z=>by
  have ih:=RX r (X++[none]) Z
  rw[List.length_append] at ih
  show Eo (Ao (X.length+1) r) (X++List.replicate (r.length+1) none++Z)=_
  have e1:X++List.replicate (r.length+1) none++Z=X++[none]++List.replicate r.length none++Z:=by rw[List.replicate_succ];simp
  have e2:X++none::r++Z=X++[none]++r++Z:=by simp
  rw[e1,e2]
  exact ih
 | some x::r,X,Z=>by
  have ih:=RX r (X++[some x]) Z
  rw[List.length_append] at ih
  show Eo (Ao (X.length+1) r) ((X++List.replicate (r.length+1) none++Z).set X.length (some x))=_
  have e1:(X++List.replicate (r.length+1) none++Z).set X.length (some x)=X++[some x]++List.replicate r.length none++Z:=by
   rw[List.replicate_succ,List.append_assoc,List.set_append_right _ _ (Nat.le_refl _),Nat.sub_self]
   simp
  have e2:X++some x::r++Z=X++[some x]++r++Z:=by simp
  rw[e1,e2]
  exact ih
theorem ABb (P:PP):∀ s:List Thing,(Eo P s).length=s.length:=by
 unfold Eo
 induction P with
 | nil=>exact fun s=>rfl
 | cons p P ih=>intro s;rw[List.foldl_cons,ih];simp
theorem Pu:∀ (n k:Nat) (P:PP),P.Pairwise (fun a b=>a.1<b.1)→(∀ p∈P,k≤p.1∧p.1<k+n)→∃ Y:List Thing,Y.length=n∧Ao k Y=P
 | 0,k,[],_,_=>⟨[],rfl,rfl⟩
 | 0,k,p::P,_,h=>by
  have:=h p (.head _)
  omega
 | n+1,k,[],_,_=>by
  obtain⟨Y,h1,h2⟩:=Pu n (k+1) [] .nil (fun p hp=>by cases hp)
  exact⟨none::Y,by simp [h1],h2⟩
 | n+1,k,p::P,hs,h=>by
  obtain⟨hs1,hs2⟩:=List.pairwise_cons.mp hs
  by_cases hk:p.1=k
  ·obtain⟨Y,h1,h2⟩:=Pu n (k+1) P hs2 (fun q hq=>by
    have a:=hs1 q hq
    have b:=h q (.tail _ hq)
    omega)
   refine⟨some p.2::Y,by simp [h1],?_⟩
   show (k,p.2)::Ao (k+1) Y=p::P
   rw[h2,← hk]
  ·obtain⟨Y,h1,h2⟩:=Pu n (k+1) (p::P) hs (fun q hq=>by
    have c:=h p (.head _)
    have b:=h q hq
    rcases List.mem_cons.mp hq with rfl | hq
    ·omega
    ·have a:=hs1 q hq
     omega)
   exact⟨none::Y,by simp [h1],h2⟩
theorem AGv {fi:BJ}{W:Nat}(hW:W<16777216){ρ:BR}(h:fi ρ=some ((List.range W).map Bh)):BX fi (Bg 0) DK (BV Ae) 1 [] ρ=some ((List.replicate W (none:Thing)).map encD):=by
 rw[HF h (by simpa using hW),Vj Bh (fun _=>encD none)]
 ·congr 1
  rw[List.map_replicate,List.map_const',List.length_range]
 ·intro i _
  exact⟨_,rfl,rfl⟩
theorem AGN {fi:BJ}{bs:D→Af→Option Af}{F:Ai}{ρ:Af}{items:List D}(h:fi (full ρ)=some items):Ow fi bs F ρ=Bx bs F items ρ:=by
 unfold Ow
 rw[h]
 rfl
theorem AIV {t:Int}{w st hh:Nat}(c more:Int)(bd:Bd t (w:Int) (st:Int))(h4:hh≤4):∃ ts:List Thing,aK [.tuple [.int t,.int (w:Int),.int (st:Int)],.int (hh:Int),.int c,.int more]=some (ts.map encD)∧Dr ts∧ts.length=2 ^ hh*w∧((keysOf ts).length:Int)=min ((2 ^ hh*w:Nat):Int) (max 0 more):=by
 have w1:=bd.w1
 have w20:=bd.hi
 have hz:=Ia (k:=hh) (w:=w) h4 (by omega) (by omega)
 have Gg:=Pq (h:=(hh:Int)) (by omega) (by omega)
 have hTw:tw (hh:Int)*(w:Int)=((2 ^ hh*w:Nat):Int):=by rw[O4,Int.natCast_mul]
 have hTs:-18446744073709551616<tw (hh:Int)∧tw (hh:Int)<18446744073709551616:=by
  rcases Qu (h:=(hh:Int)) (by omega) (by omega) with e | e | e | e | e<;>omega
 have hhs:-18446744073709551616<(hh:Int)∧(hh:Int)<18446744073709551616:=by omega
 generalize hT2:tw (hh:Int)=T2 at *
 generalize hSz:2 ^ hh*w=Z at *
 obtain⟨many,Fb⟩:∃ many:Nat,min (Z:Int) (max 0 more)=(many:Int):=⟨(min (Z:Int) (max 0 more)).toNat,by omega⟩
 have hmz:many≤Z:=by omega
 have hg:Dn [.int (Z:Int)]=some ((List.range Z).map Bh):=fH Z (by omega)
 have wh:=W7 (c:=Av (Ab Ig (Am Bm (Ac (Aa 5) Ae)) (Am Ja (Ac (Ad (.int 0)) (Ac (Aa 3) Ae))))) (F:=VD) Z
  (fun k ρ=>∃ A:List Nat,ρ=[.sh (.tuple [.int t,.int (w:Int),.int (st:Int)]),.sh (.int (hh:Int)),.sh (.int c),.sh (.int more),.sh (.int (Z:Int)),.ow (A.map Bh),.no,.no,.no]∧A.Pairwise (· < ·)∧(∀ a∈A,a<Z)∧A.length+k=Z∧many≤A.length) ?_ 1000000 0
  [.sh (.tuple [.int t,.int (w:Int),.int (st:Int)]),.sh (.int (hh:Int)),.sh (.int c),.sh (.int more),.sh (.int (Z:Int)),.ow ((List.range Z).map Bh),.no,.no,.no] ⟨List.range Z,rfl,List.pairwise_lt_range,fun a ha=>List.mem_range.mp ha,by simp,by simpa using hmz⟩ (Nat.zero_le _) (by omega)
 ·obtain⟨k,ρ',hw,⟨A,rfl,h1,h2,h3,h4'⟩,hend,_⟩:=wh
  have hAl:A.length=many:=by
   have he:(Av (Ab Ig (Am Bm (Ac (Aa 5) Ae)) (Am Ja (Ac (Ad (.int 0)) (Ac (Aa 3) Ae))))) (full [.sh (.tuple [.int t,.int (w:Int),.int (st:Int)]),.sh (.int (hh:Int)),.sh (.int c),.sh (.int more),.sh (.int (Z:Int)),.ow (A.map Bh),.no,.no,.no])=some (decide (max 0 more<(A.length:Int))):=by
    clear hend hw Gg hTw hT2 hSz Fb hg h2 hz
    walk_at "pu"
   rw[he] at hend
   have:=of_decide_eq_false (Option.some.inj hend)
   omega
  have mc:=FJ c (b:=2) (by decide)
  obtain⟨v,hv,ev⟩:=Hx ([.int 1,.int (Cj 40)]:List D) (i:=c % 2) mc.1 mc.2
  obtain⟨mu,rfl,mu0⟩:∃ mu:Int,v=.int mu∧0<mu:=by
   simp only[List.mem_cons,List.mem_nil_iff,or_false] at hv
   rcases hv with rfl | rfl
   ·exact⟨1,rfl,by decide⟩
   ·exact⟨_,rfl,Nq _⟩
  have lp:=Tw (bs:=Ek 7) (F:=VP) (lo:=0)
   (fun i ρ=>∃ (P:PP) (s9 s10:Sl),ρ=[.sh (.tuple [.int t,.int (w:Int),.int (st:Int)]),.sh (.int (hh:Int)),.sh (.int c),.sh (.int more),.sh (.int (Z:Int)),.ow (A.map Bh),.ow ((Eo P (List.replicate Z none)).map encD),s9,s10]∧P.map (·.1)=A.take i∧P.map (fun p=>p.2.1)=(List.range i).map (fun j:Nat=>3*(j:Int)*mu-c % Cj 57)) many ?_
   [.sh (.tuple [.int t,.int (w:Int),.int (st:Int)]),.sh (.int (hh:Int)),.sh (.int c),.sh (.int more),.sh (.int (Z:Int)),.ow (A.map Bh),.ow ((List.replicate Z (none:Thing)).map encD),.no,.no] ⟨[],_,_,rfl,rfl,rfl⟩
  ·obtain⟨ρ2,hf,P,s9,s10,rfl,hP1,hP2⟩:=lp
   rw[← hAl,List.take_length] at hP1
   obtain⟨Y,hY1,hY2⟩:=Pu Z 0 P (by
    have:(P.map (·.1)).Pairwise (· < ·):=by rw[hP1];exact h1
    exact List.pairwise_map.mp this) (fun p hp=>by
    have:=h2 p.1 (by rw[← hP1];exact List.mem_map_of_mem hp)
    omega)
   have hlay:Eo P (List.replicate Z none)=Y:=by
    have:=RX Y [] []
    rw[List.nil_append,List.nil_append,List.append_nil,List.append_nil,hY1] at this
    have e:Ao ([]:List Thing).length Y=P:=hY2
    rw[e] at this
    exact this
   have hkeys:keysOf Y=(List.range many).map (fun j:Nat=>3*(j:Int)*mu-c % Cj 57):=by
    rw[Hj,← HJ Y 0,hY2,List.map_map]
    exact hP2
   refine⟨Y,?_,?_,hY1,?_⟩
   ·rw[hlay] at hf
    have hrm:=J7 (many:Int) ⟨by omega,by omega⟩
    rw[Int.toNat_natCast] at hrm
    have c2:=AGv (fi:=Az Dn (Ac (Aa 4) Ae)) (W:=Z) (by omega) (ρ:=[some (.tuple [.int t,.int (w:Int),.int (st:Int)]),some (.int (hh:Int)),some (.int c),some (.int more),some (.int (Z:Int)),none,none,none,none]) (by
     clear hf hw hend Gg hTw hT2 hSz Fb h2 hz hkeys hlay hP1 hP2 hY2
     walk_at "pu")
    have hfit:(List.range Z).length<16777216:=by simp;omega
    have hp:QF (Ac (Aa 4) Ae) [some (.tuple [.int t,.int (w:Int),.int (st:Int)]),some (.int (hh:Int)),some (.int c),some (.int more),some (.int (Z:Int)),none,none,none,none]=some ((List.range Z).map Bh):=by
     unfold QF
     clear hf hw hend Gg hTw hT2 hSz Fb h2 hz hkeys hlay hP1 hP2 hY2 c2
     walk_at "pu"
    refine FN rfl ?_
    clear hend hkeys hlay hP1 hP2 hY2 h2 hz hSz hT2 ev hv
    generalize (List.range Z).map Bh=RZ at *
    generalize (List.replicate Z (none:Thing)).map encD=RN at *
    generalize Y.map encD=YD at *
    have AKK:(A.map Bh).length=many:=by rw[List.length_map];exact hAl
    generalize A.map Bh=AD at *
    unfold Td
    generalize BX (Az Dn (Ac (Aa 4) Ae)) (Bg 0) DK (BV Ae) 1 []=CC at *
    refine Aw (ρ':=[.sh (.tuple [.int t,.int (w:Int),.int (st:Int)]),.sh (.int (hh:Int)),.sh (.int c),.sh (.int more),.sh (.int (Z:Int)),.no,.no,.no,.no]) (by clear hf hw c2 hp Fb;walk_at "pu") ?_
    refine Aw (ρ':=[.sh (.tuple [.int t,.int (w:Int),.int (st:Int)]),.sh (.int (hh:Int)),.sh (.int c),.sh (.int more),.sh (.int (Z:Int)),.ow RZ,.no,.no,.no]) (by clear hf hw c2 Fb hTw;walk_at "pu") ?_
    refine Aw hw ?_
    refine Aw (ρ':=[.sh (.tuple [.int t,.int (w:Int),.int (st:Int)]),.sh (.int (hh:Int)),.sh (.int c),.sh (.int more),.sh (.int (Z:Int)),.ow AD,.ow RN,.no,.no]) (by clear hf hw hp Fb hTw;walk_at "pu") ?_
    refine Aw ((AGN (items:=Ci 0 many) (by clear hf hw c2 hp Fb hTw;walk_at "pu")).trans hf) (by clear hf hw c2 hp Fb hTw;walk_at "pu")
   ·unfold Dr
    rw[hkeys,List.pairwise_map]
    refine List.pairwise_lt_range.imp fun {a b} hab=>?_
    have:3*(a:Int)*mu<3*(b:Int)*mu:=Int.mul_lt_mul_of_pos_right (by omega) mu0
    omega
   ·rw[hkeys,List.length_map,List.length_range,Fb]
  ·rintro i ρ hi ⟨P,s9,s10,rfl,hP1,hP2⟩
   rw[Int.zero_add]
   obtain⟨z,hz',z0⟩:=Yu c (i:Int)
   have mi:=FJ (i:Int) (b:=2) (by decide)
   obtain⟨u,hu,eu⟩:=Hx ([.int (Cj 9),.int 3]:List D) (i:=(i:Int) % 2) mi.1 mi.2
   obtain⟨dv,rfl,dv0⟩:∃ dv:Int,u=.int dv∧0<dv∧dv<1073741824:=by
    simp only[List.mem_cons,List.mem_nil_iff,or_false] at hu
    rcases hu with rfl | rfl
    ·exact⟨_,rfl,Nq _,by unfold Cj;decide⟩
    ·exact⟨3,rfl,by decide,by decide⟩
   have hAi:i<A.length:=by omega
   have AEk:Bj (A.map Bh) (i:Int)=some (.int ((A[i]:Nat):Int)):=by
    rw[G8]
    simp [hAi,Bh]
   have hlt:A[i]<(Eo P (List.replicate Z none)).length:=by
    rw[ABb,List.length_replicate]
    exact h2 _ (List.getElem_mem hAi)
   have hix:=J6 hlt
   refine⟨_,[.sh (.tuple [.int t,.int (w:Int),.int (st:Int)]),.sh (.int (hh:Int)),.sh (.int c),.sh (.int more),.sh (.int (Z:Int)),.ow (A.map Bh),.ow ((Eo (P++[(A[i],(3*(i:Int)*mu-c % Cj 57,z % dv-1))]) (List.replicate Z none)).map encD),.sh (.int (i:Int)),.sh (.int (z % dv-1))],rfl,?_,_,_,_,rfl,?_,?_⟩
   ·have hsn:(Eo (P++[(A[i],(3*(i:Int)*mu-c % Cj 57,z % dv-1))]) (List.replicate Z none)).map encD=((Eo P (List.replicate Z none)).map encD).set A[i] (.tuple [.int (3*(i:Int)*mu-c % Cj 57),.int (z % dv-1)]):=by
     unfold Eo
     rw[List.foldl_append]
     show (List.set (List.foldl (fun (s:List Thing) (p:Nat×Pr)=>s.set p.1 (some p.2)) (List.replicate Z none) P) A[i] (some (3*(i:Int)*mu-c % Cj 57,z % dv-1))).map encD=_
     rw[List.map_set]
     rfl
    rw[hsn]
    have b1:-18446744073709551616<(i:Int)∧(i:Int)<18446744073709551616:=by omega
    have b3:-18446744073709551616<3*(i:Int)∧3*(i:Int)<18446744073709551616:=by omega
    generalize (Eo P (List.replicate Z none))=V at *
    generalize A[i]=q at *
    clear hsn hP1 hP2 hw hend h1 h2 h3 h4' hAl Gg hTw hT2 hSz Fb hg hv hu hz hlt hAi hi hmz hTs hhs mi mc
    unfold VP
    refine Aw (ρ':=[.sh (.tuple [.int t,.int (w:Int),.int (st:Int)]),.sh (.int (hh:Int)),.sh (.int c),.sh (.int more),.sh (.int (Z:Int)),.ow (A.map Bh),.ow (V.map encD),.sh (.int (i:Int)),.sh (.int (z % dv-1))]) (by clear ev AEk hix;walk_at "pu") ?_
    clear eu hz'
    walk_at "pu"
   ·rw[List.map_append,hP1,List.take_succ,List.getElem?_eq_getElem hAi]
    rfl
   ·rw[List.map_append,hP2,List.range_succ,List.map_append]
    rfl
 ·rintro k ρ ⟨A,rfl,h1,h2,h3,h4'⟩
  refine⟨decide (max 0 more<(A.length:Int)),by clear h1 h2 h3 h4' Gg hTw hT2 hSz Fb hg hz;walk_at "pu",fun hb=>?_⟩
  have hb':=of_decide_eq_true hb
  obtain⟨z,hz',_⟩:=Yu c (A.length:Int)
  have mp:=FJ (z / 7) (b:=(A.length:Int)) (by omega)
  have ml:0<(A.length:Int):=by omega
  have hfit:A.length<16777216:=by omega
  refine⟨by omega,[.sh (.tuple [.int t,.int (w:Int),.int (st:Int)]),.sh (.int (hh:Int)),.sh (.int c),.sh (.int more),.sh (.int (Z:Int)),.ow ((A.map Bh).eraseIdx (z / 7 % (A.length:Int)).toNat),.no,.no,.no],?_,A.eraseIdx (z / 7 % (A.length:Int)).toNat,?_,?_,?_,?_,?_⟩
  ·have hm0:=mp.1
   have hm1:=mp.2
   clear h1 h2 h3 h4' hb hb' hmz mp hg Gg hTw hT2 hSz Fb hz hTs hhs
   unfold VD RT
   walk_at "pu"
  ·rw[Wq]
  ·exact h1.sublist (List.eraseIdx_sublist _ _)
  ·exact fun a ha=>h2 a ((List.eraseIdx_sublist _ _).subset ha)
  ·rw[List.length_eraseIdx_of_lt (by omega)];omega
  ·rw[List.length_eraseIdx_of_lt (by omega)];omega
noncomputable def Cu (w st h:Nat):Int:=2 ^ h*((w:Int)-(h:Int)*(st:Int))
theorem Qz (ts:List Thing):(keysOf ts).length=(things ts).length:=by rw[Hj,List.length_map]
theorem AIS {ts:List Thing}(h:Dr ts)(hl:ts.length<16777216):Rv [.list (ts.map encD)]=some ((things ts).map Ay):=by
 rw[AEJ ts hl,ADc h,Ls]
theorem ABq {k:Dk}{n a h t w st:Nat}{A B:List Thing}(d:FQ k n a h A B)(h4:h≤4)(t4:t≤4)(Eh:st≤20)(hn:n≤320)(key:Int) :
  Le [.tuple [.int (t:Int),.int (w:Int),.int (st:Int)],BK k,.int key]=some (.bool (!decide (h=t) && !decide (((things (CW w k a h)).length:Int)<Cu w st h) && decide (key ∉ keysOf (CW w k a h)))):=by
 have e1:=R3 (w:=w) (st:=st) (t:=(t:Int)) d h4
 have e2:=Tt d
 have hl:(CW w k a h).length≤320:=by
  unfold CW
  have:=d.ar.2
  rw[List.length_take]
  omega
 have e3:=held_eq (CW w k a h) (by omega) 0 (CW w k a h).length
 rw[pK] at e3
 have e4:=U3 (t:=(t:Int)) (w:=w) (st:=st) (h:=h) h4 Eh
 have e5:=U6 (CW w k a h) key
 have e6:=PX (k:=key) (CW w k a h) 0
 have e7:Bp (.int (h:Int)) (.int (t:Int))=some (.bool (decide (h=t))):=by
  have:=AAL.Bp (by decide) h t
  exact this
 change _=some (PyData.int (Cu w st h)) at e4
 generalize hS:CW w k a h=S at *
 generalize Cu w st h=cap at *
 have e3':Nh [.list (S.map encD),.int 0,.int (S.length:Int)]=some (.int ((things S).length:Int)):=e3
 have hcmp:∀ b:Bool,b=(!decide (h=t) && !decide (((things S).length:Int)<cap) && decide (key ∉ keysOf S))→Le [.tuple [.int (t:Int),.int (w:Int),.int (st:Int)],BK k,.int key]=some (.bool b):=by
  intro b hb
  refine Dl (o:=.rt (.bool b)) rfl ?_ rfl
  unfold Vf
  refine Aw (ρ':=[.sh (.tuple [.int (t:Int),.int (w:Int),.int (st:Int)]),.sh (BK k),.sh (.int key),.sh (.list (S.map encD)),.no]) (by clear e2 e3 e3' e4 e5 e6 e7 hb hS;walk_at "pu") ?_
  refine Aw (ρ':=[.sh (.tuple [.int (t:Int),.int (w:Int),.int (st:Int)]),.sh (BK k),.sh (.int key),.sh (.list (S.map encD)),.sh (.int (h:Int))]) (by clear e1 e3 e3' e4 e5 e6 e7 hb hS;walk_at "pu") ?_
  by_cases q1:h=t
  ·rw[decide_eq_true q1] at e7 hb
   refine Kz ?_
   have hbf:b=false:=by rw[hb];rfl
   rw[hbf]
   clear e1 e2 e3 e5 e6 hb hS q1 e4 e3'
   walk_at "pu"
  ·rw[decide_eq_false q1] at e7 hb
   by_cases q2:((things S).length:Int)<cap
   ·refine Kz ?_
    have hbf:b=false:=by rw[hb,decide_eq_true q2];rfl
    rw[hbf]
    clear e1 e2 e3 e5 e6 hb hS q1
    walk_at "pu"
   ·refine Aw (ρ':=[.sh (.tuple [.int (t:Int),.int (w:Int),.int (st:Int)]),.sh (BK k),.sh (.int key),.sh (.list (S.map encD)),.sh (.int (h:Int))]) ?_ ?_
    ·clear e1 e2 e3 e5 e6 hb hS q1
     walk_at "pu"
    ·rw[decide_eq_false q2] at hb
     have hb2:b=HB (Z7 (Ew key 0 S)):=by
      rw[hb]
      by_cases q3:key∈keysOf S
      ·rw[decide_eq_false (fun z=>z q3)]
       cases e8:Ew key 0 S with
       | none=>exact absurd q3 (e6.mp e8)
       | some p=>rfl
      ·rw[decide_eq_true q3,e6.mpr q3]
       rfl
     rw[hb2]
     clear e1 e2 e3 e4 e6 e7 hb hS q1 q2 hb2 e3'
     walk_at "pu"
 exact hcmp _ rfl
noncomputable def Hs (O:List Thing):List (Nat×Thing):=((List.range O.length).filter fun i=>Fj (O.getD i none)).map fun i=>(i,none)
noncomputable def Hn (X:List Pr)(W:Nat):List (Nat×Thing):=(List.range X.length).map fun i=>(Ce X.length W i,some (X.getD i (0,0)))
noncomputable def gW (w:Nat)(k:Dk)(a h:Nat):List Wr :=
 (Hs (CT k (1-a))++Hn (things (CW w k a h)) (2 ^ (h+1)*w)).map (fun q=>((1-a,q.1,q.2):Wr))++[(2,0,some (((1-a:Nat):Int),((h+1:Nat):Int)))]
theorem xK (O:List Thing)(hl:O.length<16777216){ρ:BR}(h:Az HX (Ac (Ab Al (Aa 1) (Aa 3)) Ae) ρ=some (Gf (O.map encD))) :
  BX (Az HX (Ac (Ab Al (Aa 1) (Aa 3)) Ae)) (J0 0 1) (Av (Ab BZ (Aa 1) (BV Ae))) (BV (Ac (Aa 0) (Ac (BV Ae) Ae))) 2 [] ρ=some ((Hs O).map By):=by
 rw[Wy] at h
 rw[HF h (by simpa using hl),Ii (Lx O) (fun i=>Fj (O.getD i none)) (fun i=>By (i,none))]
 ·unfold Hs
  rw[List.map_map]
  rfl
 ·intro i hi
  have hi':=List.mem_range.mp hi
  have hT:=PN (O.getD i none) none
  refine⟨[some (.int (i:Int)),some (encD (O.getD i none))],rfl,?_,fun _=>rfl⟩
  show Av _ [some (.int (i:Int)),some (encD (O.getD i none))]=some (!decide (O.getD i none=none))
  have hT':BZ (encD (O.getD i none)) (.tuple [])=some (.bool (!decide (O.getD i none=none))):=hT
  generalize encD (O.getD i none)=z at *
  walk_at "pu"
theorem AHy (X:List Pr)(W:Nat):Kv (MK X.length W) (X.map Ay)=(Hn X W).map By:=by
 unfold Kv MK Hn
 rw[List.map_map]
 apply List.ext_getElem?
 intro i
 rw[List.getElem?_zipWith]
 by_cases hi:i<X.length
 ·simp [hi,By,Ay,List.getD_eq_getElem?_getD,encD]
 ·simp [hi]
theorem Vp (O:List Thing):(Hs O).length≤O.length:=by
 unfold Hs
 rw[List.length_map]
 exact Nat.le_trans (List.length_filter_le _ _) (by simp)
theorem XQ (X:List Pr)(W:Nat):(Hn X W).length=X.length:=by simp [Hn]
theorem R8 (ts:List Thing):(things ts).length≤ts.length:=List.length_filterMap_le _ _
theorem Vs {k:Dk}{B:D}{key:Int}(h:Le [B,BK k,.int key]=some (.bool false)):LK [B,BK k,.int key]=some []:=by
 refine FN rfl ?_
 unfold Ou
 refine dG ?_
 walk_at "pu"
theorem AFf {k:Dk}{n a h t w st:Nat}{A B:List Thing}(d:FQ k n a h A B)(h3:h+1≤4)(hn:n≤320)(hR:Dr (CW w k a h))(hX:0<(things (CW w k a h)).length){key:Int}(hm:Le [.tuple [.int (t:Int),.int (w:Int),.int (st:Int)],BK k,.int key]=some (.bool true)) :
  LK [.tuple [.int (t:Int),.int (w:Int),.int (st:Int)],BK k,.int key]=some ((gW w k a h).map Bl):=by
 have e1:=R3 (w:=w) (st:=st) (t:=(t:Int)) d (by omega)
 have e2:=Tt d
 have e3:=T3 d
 have hl:(CW w k a h).length≤320:=by
  unfold CW
  have:=d.ar.2
  rw[List.length_take]
  omega
 have e4:=AIS hR (by omega)
 have e5:=places_eq (t:=(t:Int)) (w:=w) (st:=st) (h:=h+1) h3
 have AKS:=R8 (CW w k a h)
 generalize hS:CW w k a h=S at *
 have e6:=vD (n:=(things S).length) (W:=2 ^ (h+1)*w) hX (by omega)
 obtain⟨ho1,ho2⟩:=d.Nt
 have e7:=Wu ho1
 have ha2:=d.a2
 have ho:((1-a:Nat):Int)=1-(a:Int):=by omega
 have hh:((h+1:Nat):Int)=(h:Int)+1:=by omega
 have e8:=Zh (1-a) (Hs (CT k (1-a))++Hn (things S) (2 ^ (h+1)*w)) (by
  rw[List.length_append,XQ]
  have:=Vp (CT k (1-a))
  omega)
 have hcl:=Vp (CT k (1-a))
 have e9:=AHy (things S) (2 ^ (h+1)*w)
 have hgW:gW w k a h=(Hs (CT k (1-a))++Hn (things S) (2 ^ (h+1)*w)).map (fun q=>((1-a,q.1,q.2):Wr))++[(2,0,some (((1-a:Nat):Int),((h+1:Nat):Int)))]:=by unfold gW;rw[hS]
 rw[hgW,List.map_append]
 rw[hh] at e5
 rw[ho] at e7 e8 ⊢
 rw[hh]
 generalize hO:CT k (1-a)=O at *
 generalize 2 ^ (h+1)*w=W at *
 generalize hC:Hs O=C at *
 generalize hLL:Hn (things S) W=LL at *
 have lLL:LL.length=(things S).length:=by rw[← hLL];exact XQ _ _
 have eC:LK=Dt 3 9 Ou:=rfl
 have Bq:∃ Bo:D,Bo=.tuple [.int (t:Int),.int (w:Int),.int (st:Int)]:=⟨_,rfl⟩
 obtain⟨Bo,hBo⟩:=Bq
 rw[← hBo] at hm e1 e5 ⊢
 clear hBo
 have Ex:=xK O (by omega) (ρ:=masked [.sh Bo,.sh (BK k),.sh (.int key),.sh (.int (1-(a:Int))),.sh (.int ((h:Int)+1)),.sh (.list ((things S).map Ay)),.sh (.list (MK (things S).length W)),.no,.no]) (by
  have eEn:HX [encL O]=some (Gf (O.map encD)):=rfl
  clear e1 e2 e3 e4 e5 e6 e8 e9 hm
  walk_at "pu")
 rw[hC] at Ex
 refine FN rfl ?_
 unfold Ou
 refine Aw (ρ':=[.sh Bo,.sh (BK k),.sh (.int key),.no,.no,.no,.no,.no,.no]) (by clear e1 e2 e3 e4 e5 e6 e7 e8 e9 Ex;walk_at "pu") ?_
 refine Aw (ρ':=[.sh Bo,.sh (BK k),.sh (.int key),.sh (.int (1-(a:Int))),.no,.no,.no,.no,.no]) (by clear e1 e2 e4 e5 e6 e7 e8 e9 Ex hm ho;walk_at "pu") ?_
 refine Aw (ρ':=[.sh Bo,.sh (BK k),.sh (.int key),.sh (.int (1-(a:Int))),.sh (.int ((h:Int)+1)),.no,.no,.no,.no]) (by clear e1 e3 e4 e5 e6 e7 e8 e9 Ex hm ho hh;walk_at "pu") ?_
 refine Aw (ρ':=[.sh Bo,.sh (BK k),.sh (.int key),.sh (.int (1-(a:Int))),.sh (.int ((h:Int)+1)),.sh (.list ((things S).map Ay)),.no,.no,.no]) (by clear e2 e3 e5 e6 e7 e8 e9 Ex hm ho hh;walk_at "pu") ?_
 refine Aw (ρ':=[.sh Bo,.sh (BK k),.sh (.int key),.sh (.int (1-(a:Int))),.sh (.int ((h:Int)+1)),.sh (.list ((things S).map Ay)),.sh (.list (MK (things S).length W)),.no,.no]) (by clear e1 e2 e3 e4 e7 e8 e9 Ex hm ho hh;walk_at "pu") ?_
 refine Aw (AIm 7 Ex) ?_
 refine Aw (ρ':=[.sh Bo,.sh (BK k),.sh (.int key),.sh (.int (1-(a:Int))),.sh (.int ((h:Int)+1)),.sh (.list ((things S).map Ay)),.sh (.list (MK (things S).length W)),.sh (.list (C.map By)),.sh (.list (LL.map By))]) (by
  unfold Mt
  clear e1 e2 e3 e4 e5 e6 e7 e8 Ex hm ho hh
  walk_at "pu") ?_
 have f1:(C.map By).length+(LL.map By).length<16777216:=by rw[List.length_map,List.length_map];omega
 have f2:((C++LL).map fun q=>((1-a,q.1,q.2):Wr)).length+1<16777216:=by rw[List.length_map,List.length_append];omega
 rw[List.map_append] at e8
 rw[List.length_map,List.length_map] at f1
 rw[List.length_map] at f2
 have hend:Bl (2,0,some (1-(a:Int),(h:Int)+1))=.tuple [.int 2,.int 0,.tuple [.int (1-(a:Int)),.int ((h:Int)+1)]]:=rfl
 clear e1 e2 e3 e4 e5 e6 e7 e9 Ex hm ho hh lLL
 simp only[List.map_cons,List.map_nil,hend]
 generalize hM:(C++LL).map (fun q=>((1-a,q.1,q.2):Wr))=MM at *
 have f3:MM.length+1<16777216:=by rw[← hM,List.length_map];exact f2
 clear hM
 walk_at "pu"
theorem fU (k:Dk)(a b:List Wr):GR k (a++b)=GR (GR k a) b:=by
 unfold GR
 rw[List.foldl_append]
theorem AG1 {α:Type}{xs:List α}{i:Nat}{x:α}(h:xs[i]?=some x):xs.set i x=xs:=by
 have hl:=(List.getElem?_eq_some_iff.mp h).1
 have e:xs[i]'hl=x:=(List.getElem?_eq_some_iff.mp h).2
 have e2:=List.set_getElem_self (as:=xs) (i:=i) hl
 rw[e] at e2
 exact e2
theorem AFe {k:Dk}{o:Nat}(h:o<k.length):k[o]?=some (CT k o):=by
 unfold CT
 rw[List.getD_eq_getElem?_getD,List.getElem?_eq_getElem h]
 rfl
theorem AHo (k:Dk){o:Nat}(h:o<k.length)(x:List Thing):CT (k.set o x) o=x:=by
 unfold CT
 rw[List.getD_eq_getElem?_getD,List.getElem?_set_self h]
 rfl
theorem rZ (o:Nat):∀ (ws:List (Nat×Thing)) {k:Dk},o<k.length→GR k (ws.map fun q=>((o,q.1,q.2):Wr))=k.set o (doneF (CT k o) ws)
 | [],k,h=>by
  show k=k.set o (CT k o)
  rw[AG1 (AFe h)]
 | q::r,k,h=>by
  have ih:=rZ o r (k:=k.set o ((CT k o).set q.1 q.2)) (by simpa using h)
  rw[AHo k h,List.set_set] at ih
  exact ih
theorem done_none (j:Nat):∀ (is:List Nat) (ts:List Thing),(doneF ts (is.map fun i=>(i,none)))[j]?=if j∈is∧j<ts.length then some none else ts[j]?
 | [],ts=>by simp [doneF]
 | i::r,ts=>by
  show (doneF (ts.set i none) (r.map fun i=>(i,none)))[j]?=_
  rw[done_none j r (ts.set i none),List.length_set]
  by_cases hj:j<ts.length
  ·by_cases hr:j∈r
   ·rw[if_pos ⟨hr,hj⟩,if_pos ⟨.tail _ hr,hj⟩]
   ·rw[if_neg fun z=>hr z.1]
    by_cases hi:i=j
    ·subst hi
     rw[List.getElem?_set_self hj,if_pos ⟨.head _,hj⟩]
    ·rw[List.getElem?_set_ne hi,if_neg fun z=>(List.mem_cons.mp z.1).elim (fun e=>hi e.symm) hr]
  ·rw[if_neg fun z=>hj z.2,if_neg fun z=>hj z.2,List.getElem?_eq_none (by simp;omega),List.getElem?_eq_none (by omega)]
theorem ACa (O:List Thing):doneF O (Hs O)=List.replicate O.length none:=by
 apply List.ext_getElem?
 intro j
 unfold Hs
 rw[done_none,List.getElem?_replicate]
 by_cases hj:j<O.length
 ·rw[if_pos hj]
  by_cases hf:Fj (O.getD j none)=true
  ·rw[if_pos ⟨List.mem_filter.mpr ⟨List.mem_range.mpr hj,hf⟩,hj⟩]
  ·rw[if_neg (fun z=>hf (by have:=(List.mem_filter.mp z.1).2;exact this)),List.getElem?_eq_getElem hj]
   have e:O.getD j none=O[j]:=by rw[List.getD_eq_getElem?_getD,List.getElem?_eq_getElem hj];rfl
   rw[e] at hf
   cases h2:O[j] with
   | none=>rfl
   | some x=>rw[h2] at hf;exact absurd rfl hf
 ·rw[if_neg fun z=>hj z.2,if_neg hj,List.getElem?_eq_none (by omega)]
noncomputable def PL (X:List Pr)(W:Nat):PP:=(List.range X.length).map fun i=>(Ce X.length W i,X.getD i (0,0))
theorem ACO (X:List Pr)(W:Nat)(s:List Thing):doneF s (Hn X W)=Eo (PL X W) s:=by
 unfold doneF Hn Eo PL
 rw[List.foldl_map,List.foldl_map]
theorem iV:∀ (P:PP) (s1 s2:List Thing),(∀ p∈P,p.1<s1.length)→Eo P (s1++s2)=Eo P s1++s2
 | [],_,_,_=>rfl
 | p::r,s1,s2,h=>by
  show Eo r ((s1++s2).set p.1 (some p.2))=Eo r (s1.set p.1 (some p.2))++s2
  rw[List.set_append_left _ _ (h p (.head _))]
  exact iV r _ s2 fun q hq=>by rw[List.length_set];exact h q (.tail _ hq)
theorem Yl {X:List Pr}{W:Nat}(hm:0<X.length)(hW:0<W):∀ p∈PL X W,p.1<W:=by
 intro p hp
 obtain⟨i,hi,rfl⟩:=List.mem_map.mp hp
 have hi':=List.mem_range.mp hi
 show Ce X.length W i<W
 unfold Ce
 rw[Nat.div_lt_iff_lt_mul hm,Nat.mul_comm W]
 exact Nat.mul_lt_mul_of_pos_right hi' hW
theorem lL {n W i:Nat}(hn:0<n)(hW:n≤W):Ce n W i<Ce n W (i+1):=by
 unfold Ce
 have:i*W / n+1≤(i+1)*W / n:=by
  rw[Nat.le_div_iff_mul_le hn,Nat.add_mul,Nat.one_mul,Nat.add_mul,Nat.one_mul]
  have:=Nat.div_mul_le_self (i*W) n
  omega
 omega
theorem qF {n W:Nat}(hn:0<n)(hW:n≤W){i:Nat}:∀ d,Ce n W i<Ce n W (i+1+d)
 | 0=>lL hn hW
 | d+1=>Nat.lt_trans (qF hn hW d) (lL hn hW)
theorem AGW (X:List Pr)(W:Nat)(hm:0<X.length)(hW:X.length≤W):∃ Y:List Thing,Eo (PL X W) (List.replicate W none)=Y∧Y.length=W∧things Y=X:=by
 obtain⟨Y,hY1,hY2⟩:=Pu W 0 (PL X W) (by
  unfold PL
  rw[List.pairwise_map]
  refine List.pairwise_lt_range.imp fun {a b} hab=>?_
  obtain⟨d,rfl⟩:∃ d,b=a+1+d:=⟨b-a-1,by omega⟩
  exact qF hm hW d) (fun p hp=>⟨Nat.zero_le _,by rw[Nat.zero_add];exact Yl hm (by omega) p hp⟩)
 refine⟨Y,?_,hY1,?_⟩
 ·have:=RX Y [] []
  rw[List.nil_append,List.nil_append,List.append_nil,List.append_nil,hY1] at this
  have e:Ao ([]:List Thing).length Y=PL X W:=hY2
  rw[e] at this
  exact this
 ·rw[← HJ Y 0,hY2]
  unfold PL
  rw[List.map_map]
  apply List.ext_getElem?
  intro i
  by_cases hi:i<X.length
  ·simp [hi,List.getD_eq_getElem?_getD]
  ·simp [hi]
theorem grown {k:Dk}{n a h w:Nat}{A B:List Thing}(d:FQ k n a h A B)(hX:0<(things (CW w k a h)).length)(hXW:(things (CW w k a h)).length≤2 ^ (h+1)*w)(hW:2 ^ (h+1)*w≤n) :
  ∃ A' B' Y,FQ (GR k (gW w k a h)) n (1-a) (h+1) A' B'∧Eo (PL (things (CW w k a h)) (2 ^ (h+1)*w)) (List.replicate (2 ^ (h+1)*w) none)=Y∧CW w (GR k (gW w k a h)) (1-a) (h+1)=Y∧Y.length=2 ^ (h+1)*w∧things Y=things (CW w k a h):=by
 obtain⟨Y,hY0,hY1,hY2⟩:=AGW (things (CW w k a h)) (2 ^ (h+1)*w) hX hXW
 have ha2:=d.a2
 have hk3:k.length=3:=by rw[d.eq];rfl
 have ho:=d.Nt.2
 have e1:doneF (CT k (1-a)) (Hs (CT k (1-a))++Hn (things (CW w k a h)) (2 ^ (h+1)*w))=Y++List.replicate (n-2 ^ (h+1)*w) none:=by
  rw[aN,ACa,ACO,ho]
  have e2:List.replicate n (none:Thing)=List.replicate (2 ^ (h+1)*w) none++List.replicate (n-2 ^ (h+1)*w) none:=by
   rw[List.replicate_append_replicate]
   congr 1
   omega
  rw[e2,iV _ _ _ (fun p hp=>by rw[List.length_replicate];exact Yl hX (by omega) p hp),hY0]
 have e3:GR k (gW w k a h)=(k.set (1-a) (Y++List.replicate (n-2 ^ (h+1)*w) none)).set 2 [some (((1-a:Nat):Int),((h+1:Nat):Int))]:=by
  unfold gW
  rw[fU,rZ (1-a) _ (by omega),e1]
  obtain⟨rfl,_⟩:=d
  match a,ha2 with
  | 0,_=>rfl
  | 1,_=>rfl
 have lY:(Y++List.replicate (n-2 ^ (h+1)*w) (none:Thing)).length=n:=by
  rw[List.length_append,List.length_replicate,hY1]
  omega
 have tk:(Y++List.replicate (n-2 ^ (h+1)*w) (none:Thing)).take (2 ^ (h+1)*w)=Y:=List.take_left' hY1
 rw[e3]
 obtain⟨rfl,lA,lB,_⟩:=d
 match a,ha2 with
 | 0,_=>exact⟨A,Y++List.replicate (n-2 ^ (h+1)*w) none,Y,⟨rfl,lA,lY,by decide⟩,hY0,tk,hY1,hY2⟩
 | 1,_=>exact⟨Y++List.replicate (n-2 ^ (h+1)*w) none,B,Y,⟨rfl,lY,lB,by decide⟩,hY0,tk,hY1,hY2⟩
theorem ABo {k:Dk}{n a h w:Nat}{A B:List Thing}(d:FQ k n a h A B)(hX:0<(things (CW w k a h)).length)(hXW:(things (CW w k a h)).length≤2 ^ (h+1)*w)(hW:2 ^ (h+1)*w≤n):∀ q∈gW w k a h,Hm k q:=by
 intro q hq
 have ha2:=d.a2
 have hk3:k.length=3:=by rw[d.eq];rfl
 have ho:=d.Nt.2
 unfold gW at hq
 rcases List.mem_append.mp hq with hq | hq
 ·obtain⟨p,hp,rfl⟩:=List.mem_map.mp hq
  refine⟨by show 1-a<k.length;omega,?_⟩
  show p.1<(CT k (1-a)).length
  rw[ho]
  rcases List.mem_append.mp hp with hp | hp
  ·obtain⟨i,hi,rfl⟩:=List.mem_map.mp hp
   have:=List.mem_range.mp (List.mem_filter.mp hi).1
   rw[ho] at this
   exact this
  ·obtain⟨i,hi,rfl⟩:=List.mem_map.mp hp
   have:=Yl hX (by omega) (Ce _ (2 ^ (h+1)*w) i,(things (CW w k a h)).getD i (0,0)) (List.mem_map_of_mem hi)
   show Ce _ _ i<n
   have h2:Ce (things (CW w k a h)).length (2 ^ (h+1)*w) i<2 ^ (h+1)*w:=this
   omega
 ·rw[List.mem_singleton.mp hq]
  obtain⟨rfl,_⟩:=d
  exact⟨by show 2<3;decide,by show 0<1;decide⟩
theorem uV {k k':Dk}{n a h t w st:Nat}{A B:List Thing}{gs:List Wr}{ws:List (Nat×Thing)}{key b:Int}(hk:k.length=3)(d:FQ k' n a h A B)(h4:h≤4)(hg:LK [.tuple [.int (t:Int),.int (w:Int),.int (st:Int)],BK k,.int key]=some (gs.map Bl))(hok:∀ q∈gs,Hm k q)(hk':GR k gs=k')(hp:J9 [.tuple [.int (t:Int),.int (w:Int),.int (st:Int)],.int (h:Int),.list ((CW w k' a h).map encD),.int key,.int b]=some (ws.map By))(hl:gs.length+ws.length<16777216) :
  Jj [.tuple [.int (t:Int),.int (w:Int),.int (st:Int)],BK k,.int key,.int b]=some ((gs++ws.map fun q=>((a,q.1,q.2):Wr)).map Bl):=by
 have e1:=AFL k gs (by omega) hok
 rw[hk'] at e1
 have e2:=Tt d
 have e3:=T3 d
 have e4:=R3 (w:=w) (st:=st) (t:=(t:Int)) d h4
 have e5:=Zh a ws (by omega)
 have eK:=T6 k'
 obtain⟨Bo,hBo⟩:∃ Bo:D,Bo=.tuple [.int (t:Int),.int (w:Int),.int (st:Int)]:=⟨_,rfl⟩
 rw[← hBo] at hg hp e4 ⊢
 clear hBo
 rw[List.map_append]
 have f1:gs.length+ws.length<16777216:=hl
 refine FN rfl ?_
 unfold R0
 refine Aw (ρ':=[.sh Bo,.sh (BK k),.sh (.int key),.sh (.int b),.sh (.list (gs.map Bl)),.no,.no]) (by clear e1 e2 e3 e4 e5 eK hp;walk_at "pu") ?_
 refine Aw (ρ':=[.sh Bo,.sh (BK k),.sh (.int key),.sh (.int b),.sh (.list (gs.map Bl)),.sh (BK k'),.no]) (by rw[eK];clear e2 e3 e4 e5 eK hp hg;walk_at "pu") ?_
 refine Aw (ρ':=[.sh Bo,.sh (BK k),.sh (.int key),.sh (.int b),.sh (.list (gs.map Bl)),.sh (BK k'),.sh (.list (ws.map By))]) (by clear e1 e3 e5 eK hg;walk_at "pu") ?_
 clear e1 e2 e4 eK hg hp
 generalize hM:ws.map (fun q=>((a,q.1,q.2):Wr))=MM at *
 have f2:gs.length+MM.length<16777216:=by rw[← hM,List.length_map];exact f1
 clear hM
 walk_at "pu"
theorem mV {k:Dk}{n a h t w st:Nat}{A B:List Thing}{ws:List (Nat×Thing)}{key b:Int}(d:FQ k n a h A B)(h4:h≤4)(hm:Le [.tuple [.int (t:Int),.int (w:Int),.int (st:Int)],BK k,.int key]=some (.bool false))(hp:J9 [.tuple [.int (t:Int),.int (w:Int),.int (st:Int)],.int (h:Int),.list ((CW w k a h).map encD),.int key,.int b]=some (ws.map By))(hl:ws.length<16777216) :
  Jj [.tuple [.int (t:Int),.int (w:Int),.int (st:Int)],BK k,.int key,.int b]=some ((ws.map fun q=>((a,q.1,q.2):Wr)).map Bl):=by
 have:=uV (gs:=[]) (k:=k) (k':=k) (by rw[d.eq];rfl) d h4 (Vs hm) (fun q hq=>by cases hq) rfl hp (by simpa using hl)
 exact this
theorem W2 {y:Pr}:∀ (s:List Thing) (i:Nat) (x:Pr),s.getD i none=some x→y.1=x.1→keysOf (s.set i (some y))=keysOf s
 | [],i,x,h,_=>by simp at h
 | none::s,0,x,h,_=>by cases h
 | some z::s,0,x,h,e=>by
  have hz:z=x:=Option.some.inj h
  show y.1::keysOf s=z.1::keysOf s
  rw[e,hz]
 | none::s,i+1,x,h,e=>W2 s i x h e
 | some z::s,i+1,x,h,e=>congrArg (z.1 :: ·) (W2 s i x h e)
theorem Wx:∀ (s:List Thing) (i:Nat),(keysOf (s.set i none)).Sublist (keysOf s)
 | [],i=>.slnil
 | none::s,0=>List.Sublist.refl _
 | some z::s,0=>List.sublist_cons_self _ _
 | none::s,i+1=>Wx s i
 | some z::s,i+1=>(Wx s i).cons₂ z.1
noncomputable def pc (s:List Thing)(k a b:Nat):Nat:=(((Ao k s).map (·.1)).filter fun p=>decide (a≤p) && decide (p<b)).length
theorem ZR:∀ {ts:List Thing},Dr ts→∀ {i j:Nat}{x y:Pr},i<j→ts.getD i none=some x→ts.getD j none=some y→x.1<y.1
 | [],_,i,j,x,y,_,h,_=>by simp at h
 | none::r,hR,0,j,x,y,_,h,_=>by cases h
 | none::r,hR,i+1,0,x,y,h,_,_=>by omega
 | none::r,hR,i+1,j+1,x,y,h,h1,h2=>ZR (ts:=r) hR (Nat.lt_of_succ_lt_succ h) h1 h2
 | some z::r,hR,i,0,x,y,h,_,_=>by omega
 | some z::r,hR,0,j+1,x,y,_,h1,h2=>by
  have hz:z=x:=Option.some.inj h1
  have hp:=List.pairwise_cons.mp (show (z.1::keysOf r).Pairwise (· < ·) from hR)
  rw[← hz]
  refine hp.1 y.1 ?_
  have h2':r.getD j none=some y:=h2
  rw[List.getD_eq_getElem?_getD] at h2'
  cases hg:r[j]? with
  | none=>rw[hg] at h2';cases h2'
  | some u =>
   rw[hg] at h2'
   have hu:u=some y:=h2'
   exact List.mem_filterMap.mpr ⟨u,List.mem_of_getElem? hg,by rw[hu];rfl⟩
 | some z::r,hR,i+1,j+1,x,y,h,h1,h2=>ZR (ts:=r) (List.pairwise_cons.mp (show (z.1::keysOf r).Pairwise (· < ·) from hR)).2 (Nat.lt_of_succ_lt_succ h) h1 h2
theorem wC (ts:List Thing)(k:Int):∀ (n i:Nat) (x:Pr),i<n→ts.getD i none=some x→x.1<k→i≤Br ts k n
 | 0,i,x,h,_,_=>by omega
 | n+1,i,x,h,h1,h2=>by
  show i≤if Hi ts k n=true then n else Br ts k n
  by_cases hc:Hi ts k n=true
  ·rw[if_pos hc];omega
  ·rw[if_neg hc]
   rcases Nat.lt_or_ge i n with q | q
   ·exact wC ts k n i x q h1 h2
   ·exfalso
    have:i=n:=by omega
    subst this
    unfold Hi at hc
    rw[h1] at hc
    simp at hc
    omega
theorem tY (ts:List Thing)(k:Int):∀ n,0<Br ts k n→∃ y,ts.getD (Br ts k n) none=some y∧y.1<k
 | 0,h=>by cases h
 | n+1,h=>by
  have e:Br ts k (n+1)=if Hi ts k n=true then n else Br ts k n:=rfl
  by_cases hc:Hi ts k n=true
  ·rw[e,if_pos hc]
   unfold Hi at hc
   cases hg:ts.getD n none with
   | none=>rw[hg] at hc;cases hc
   | some y=>rw[hg] at hc;exact⟨y,rfl,of_decide_eq_true hc⟩
  ·rw[e,if_neg hc] at h ⊢
   exact tY ts k n h
theorem tG {s:List Thing}{x:Pr}(h:x∈things s):∃ i,i<s.length∧s.getD i none=some x:=by
 obtain⟨u,hu,e⟩:=List.mem_filterMap.mp h
 obtain⟨i,hi,hg⟩:=List.mem_iff_getElem.mp hu
 refine⟨i,hi,?_⟩
 rw[List.getD_eq_getElem?_getD,List.getElem?_eq_getElem hi,hg]
 exact e
theorem AFr {X Y Y' Z:List Thing}{k b:Int}{s:Nat}(hR:Dr (X++Y++Z))(hk:k ∉ keysOf (X++Y++Z))(hs:Br (X++Y++Z) k (X++Y++Z).length=s)(hs1:X.length≤s)(hs2:s<X.length+Y.length)(hth:things Y'=(things Y).take (Di Y k)++(k,b)::(things Y).drop (Di Y k)):Dr (X++Y'++Z):=by
 have hRP:DX (things X++things Y++things Z):=by
  have:=(IK _).mp hR
  rw[Ge,Ge] at this
  exact this
 have hRY:DX (things Y):=by
  unfold DX at hRP ⊢
  rw[List.map_append,List.map_append] at hRP
  exact (List.pairwise_append.mp (List.pairwise_append.mp hRP).1).2.1
 have hkT:k ∉ (things X++things Y++things Z).map (·.1):=by
  rw[Hj,Ge,Ge] at hk
  exact hk
 have hkY:k ∉ (things Y).map (·.1):=fun q=>hkT (by rw[List.map_append,List.map_append];exact Cw (Bc q))
 obtain⟨p1,p2,p3⟩:=t7 (k:=k) (things Y) hRY hkY
 have gX:∀ x∈things X,x.1<k:=by
  intro x hx
  obtain⟨i,hi,hg⟩:=tG hx
  have hg':(X++Y++Z).getD i none=some x:=by
   rw[List.getD_eq_getElem?_getD,List.append_assoc,List.getElem?_append_left hi,← List.getD_eq_getElem?_getD]
   exact hg
  obtain⟨y,hy,hyk⟩:=tY (X++Y++Z) k (X++Y++Z).length (by rw[hs];omega)
  rw[hs] at hy
  have:=ZR hR (i:=i) (j:=s) (by omega) hg' hy
  omega
 have gZ:∀ x∈things Z,k<x.1:=by
  intro x hx
  obtain⟨i,hi,hg⟩:=tG hx
  have hg':(X++Y++Z).getD (X.length+Y.length+i) none=some x:=by
   rw[List.getD_eq_getElem?_getD,List.getElem?_append_right (by rw[List.length_append];omega),List.length_append,show X.length+Y.length+i-(X.length+Y.length)=i by omega,← List.getD_eq_getElem?_getD]
   exact hg
  have hne:x.1≠k:=fun e=>hkT (by rw[List.map_append];exact Bc (by rw[← e];exact List.mem_map_of_mem hx))
  rcases Int.lt_or_le x.1 k with q | q
  ·exfalso
   have:=wC (X++Y++Z) k (X++Y++Z).length (X.length+Y.length+i) x (by rw[List.length_append,List.length_append];omega) hg' q
   rw[hs] at this
   omega
  ·omega
 rw[IK,Ge,Ge,hth]
 unfold DX at hRP ⊢
 unfold Di
 generalize ((things Y).filter fun x=>decide (x.1<k)).length=j at *
 rw[p1] at hRP
 generalize (things Y).take j=T1 at *
 generalize (things Y).drop j=T2 at *
 generalize things X=TX at *
 generalize things Z=TZ at *
 simp only[List.map_append,List.map_cons,List.pairwise_append,List.pairwise_cons,List.mem_append,List.mem_cons,List.mem_map] at hRP ⊢
 obtain⟨⟨a1,⟨a2,a3,a4⟩,a5⟩,a6,a7⟩:=hRP
 refine⟨⟨a1,⟨a2,⟨?_,a3⟩,?_⟩,?_⟩,a6,?_⟩
 ·rintro _ ⟨x,hx,rfl⟩
  exact p3 x hx
 ·rintro a ⟨x,hx,rfl⟩ c hc
  rcases hc with rfl | ⟨y,hy,rfl⟩
  ·exact p2 x hx
  ·exact a4 _ ⟨x,hx,rfl⟩ _ ⟨y,hy,rfl⟩
 ·rintro a ⟨x,hx,rfl⟩ c hc
  rcases hc with⟨y,hy,rfl⟩ | rfl | ⟨y,hy,rfl⟩
  ·exact a5 _ ⟨x,hx,rfl⟩ _ (.inl ⟨y,hy,rfl⟩)
  ·exact gX x hx
  ·exact a5 _ ⟨x,hx,rfl⟩ _ (.inr ⟨y,hy,rfl⟩)
 ·rintro a ha c ⟨y,hy,rfl⟩
  rcases ha with⟨x,hx,rfl⟩ | ⟨x,hx,rfl⟩ | rfl | ⟨x,hx,rfl⟩
  ·exact a7 _ (.inl ⟨x,hx,rfl⟩) _ ⟨y,hy,rfl⟩
  ·exact a7 _ (.inr (.inl ⟨x,hx,rfl⟩)) _ ⟨y,hy,rfl⟩
  ·exact gZ y hy
  ·exact a7 _ (.inr (.inr ⟨x,hx,rfl⟩)) _ ⟨y,hy,rfl⟩
end LL
namespace L2
open PySem PySem.Spec PyProof.Rows
noncomputable def FZ (vf:Af→Option Sl):Ai:=fun ρ=>(vf ρ).bind fun s=>(Gy s).bind fun d=>some (.ro d ρ)
noncomputable def fJ (K:Frag)(te:TE)(wf:Af→Option (D×Af)):Prop:=∀ (H0:Hp) (O0:List Addr) (G:Hp) (σ:St) (H:Hp) (ρ ρ':Af) (d:D) (Q:VK),Bu O0 H0→Bk K H0 O0 G σ H ρ→wf ρ=some (d,ρ') →
 (∀ v H',Ey K H0 O0 G σ H' ρ' v (.sh d)→Q v H')→te σ H Q
structure JM (X:Cx)(K:Frag)(e:Expr)(te:TE)(wf:Af→Option (D×Af)):Prop where
 pe:PE X e te
 pu:fJ K te wf
noncomputable def O7 (j:Nat)(wf:Af→Option (D×Af)):Ai:=fun ρ=>(wf ρ).bind fun x=>some (.nx (x.2.set j (.sh x.1)))
section
variable {X:Cx}{K:Frag}
theorem Q9 {e:Expr}{te:TE}{vf:Af→Option Sl}{pos:Pos}(he:PE X e te)(pv:Dg K te vf):JS X K (.Return (some e) pos) (Ib te) (FZ vf):=⟨M6 he,by
 intro H0 O0 G σ H ρ o E ok t hf q
 obtain⟨s,e1,hf⟩:=Ag hf
 obtain⟨d,e2,hf⟩:=Ag hf
 cases hf
 have es:s=.sh d:=by
  unfold Gy at e2
  split at e2
  ·cases e2;rfl
  ·cases e2
 subst es
 refine pv H0 O0 G σ H ρ (.sh d) _ ok t e1 fun v H' s1 sv=>q v σ H' ?_
 obtain⟨O,P,s0,n,nd,g,sl,hh⟩:=sv.ex
 exact⟨O,P,s0,n,nd,(fun b o e=>by cases e),sl,hh⟩⟩
end
noncomputable abbrev WY (b:Bool):SortKind:=(sortPriv% PySem.Builtin.KeyKind.tuples) b
noncomputable def Lh (h:Heap)(v:Value)(k:Int):Prop:=∃ (a:Addr) (o:Obj) (w:Int) (t u:Tok) (n:Nat),v=.ref a∧h.get? a=some o∧o.cls=.type "tuple"∧o.data=.seq #[.int k t,.int w u] n
section
variable {prog:Program}{w:World}{A:Around}{E:Value→Shared→Prop}{s:Shared}
theorem AIO (b:Bool)(x y:Value):keyLt' (WY b) x y=(do
  let xs ← Builtin.List.listItems x
  let ys ← Builtin.List.listItems y
  for ((p,q),i) in (xs.toList.zip ys.toList).zipIdx do
   if !(← eqBool p q) then return ← oneLt' (b && i == 0) p q
  return decide (xs.size<ys.size)):=rfl
theorem ABT {x y:Value}{k k':Int}{Q:Bool→Shared→Prop}(hx:Lh s.heap x k)(hy:Lh s.heap y k')(hne:k≠k')(h:Q (decide (k<k')) s):wpAny (model prog w) A (keyLt' (WY true) x y) Q E s:=by
 obtain⟨a,o,v,t,u,n,rfl,ho,hc,hd⟩:=hx
 obtain⟨a',o',v',t',u',n',rfl,ho',hc',hd'⟩:=hy
 rw[AIO]
 refine wpAny_bind (listItems_at ho hd ?_)
 refine wpAny_bind (listItems_at ho' hd' ?_)
 show wpAny _ _ (forIn [((Value.int k t,Value.int k' t'),0),((Value.int v u,Value.int v' u'),1)] _ _ >>= _) _ _ _
 rw[List.forIn_cons]
 refine wpAny_bind (wpAny_bind (wpAny_bind (wpAny_eqBool_int ?_)))
 rw[show (k == k')=false from by simpa using hne]
 refine wpAny_bind (oneLt_int (wpAny_pure ?_))
 exact wpAny_pure (wpAny_pure h)
section
variable {K0:Nat→Int}{n j0:Nat}(hn:1≤n)(hr:∀ i j,i<j→j<n→K0 i<K0 j)(hj:j0≤n)(hlo:∀ i,i<j0→K0 i<K0 n)(hhi:∀ i,j0≤i→i<n→K0 n<K0 i)
include hn hr hj hlo hhi
end
section
variable {K0:Nat→Int}{n j0:Nat}(hn:1≤n)(hj:j0≤n)(hlo:∀ i,i<j0→K0 i<K0 n)(hhi:∀ i,j0≤i→i<n→K0 n<K0 i)
include hn hj hlo hhi
end
section
variable {K0:Nat→Int}{n j0:Nat}(hn:1≤n)(hr:∀ i j,i<j→j<n→K0 i<K0 j)(hj:j0≤n)(hlo:∀ i,i<j0→K0 i<K0 n)(hhi:∀ i,j0≤i→i<n→K0 n<K0 i)
include hn hr hj hlo hhi
end
end
section
variable {prog:Program}{w:World}{A:Around}{E:Value→Shared→Prop}{s:Shared}
variable {K0:Nat→Int}{n j0:Nat}(hn:1≤n)(hr:∀ i j,i<j→j<n→K0 i<K0 j)(hj:j0≤n)(hlo:∀ i,i<j0→K0 i<K0 n)(hhi:∀ i,j0≤i→i<n→K0 n<K0 i)
include hn hr hj hlo hhi
end
theorem jZ {hp:Heap}:∀ (vs:List Value),(∀ v∈vs,∃ k,Lh hp v k)→∃ fs:List Value,fs.length=vs.length∧PySem.W.KatTups hp vs fs∧∀ v∈fs,∃ (k:Int) (t:Tok),v=Value.int k t
 | [],_=>⟨[],rfl,.nil,fun v h=>by cases h⟩
 | v::vs,hall=>by
  obtain⟨fs,h1,h2,h3⟩:=jZ vs fun v hm=>hall v (.tail _ hm)
  obtain⟨k,b,o,x,t,u,m,rfl,hb,hc,hd⟩:=hall v (.head _)
  refine⟨.int k t::fs,by simp [h1],PySem.W.KatTups.cons hb hc hd rfl h2,fun v hm=>?_⟩
  rcases List.mem_cons.mp hm with rfl | hm
  ·exact⟨k,t,rfl⟩
  ·exact h3 v hm
section
variable {prog:Program}{w:World}{A:Around}{E:Value→Shared→Prop}{s:Shared}
variable {K0:Nat→Int}{n j0:Nat}(hr:∀ i j,i<j→j<n→K0 i<K0 j)(hj:j0≤n)(hlo:∀ i,i<j0→K0 i<K0 n)(hhi:∀ i,j0≤i→i<n→K0 n<K0 i)
include hr hj hlo hhi
end
section
variable {prog:Program}{w:World}{A:Around}{E:Value→Shared→Prop}{s:Shared}
variable {K0:Nat→Int}{n j0:Nat}(hr:∀ i j,i<j→j<n→K0 i<K0 j)(hj:j0≤n)(hlo:∀ i,i<j0→K0 i<K0 n)(hhi:∀ i,j0≤i→i<n→K0 n<K0 i)
include hr hj hlo hhi
end
open PySem PySem.Spec PyProof.Rows PySem.W
noncomputable def gN (p:Array Nat)(i:Nat):Nat:=p.getD i 0
theorem ACg {p:Array Nat}{i:Nat}(h:i<p.size):p[i]?=some (gN p i):=by
 unfold gN
 simp [Array.getD,h]
theorem nP {p:Array Nat}{a b:Nat}(ha:a<p.size)(hb:b<p.size)(i:Nat):gN (p.swapIfInBounds a b) i=if i=a then gN p b else if i=b then gN p a else gN p i:=by
 have e:p.swapIfInBounds a b=p.swap a b:=by
  unfold Array.swapIfInBounds
  rw[dif_pos ha,dif_pos hb]
 rw[e]
 by_cases hi:i<p.size
 ·have g:∀ {q:Array Nat}{j:Nat} (h:j<q.size),gN q j=q[j]:=fun {q j} h=>by
   unfold gN
   simp [Array.getD,h]
  rw[g (show i<(p.swap a b).size by rw[Array.size_swap];exact hi),g ha,g hb,g hi,Array.getElem_swap]
 ·have o:∀ {q:Array Nat}{j:Nat},¬ j<q.size→gN q j=0:=fun {q j} h=>by
   unfold gN
   simp [Array.getD,h]
  rw[o (show ¬ i<(p.swap a b).size by rw[Array.size_swap];exact hi),o hi,if_neg (by omega),if_neg (by omega)]
theorem ZW (p:Array Nat)(k d:Nat):(bubble p k d).size=p.size:=bubble_size p k d
theorem K5 {p:Array Nat}{k:Nat}(hk:k<p.size):∀ d,d≤k→∀ i,gN (bubble p k d) i=if i<k-d then gN p i else if i=k-d then gN p k else if i≤k then gN p (i-1) else gN p i
 | 0,_,i=>by
  have e:bubble p k 0=p:=rfl
  rw[e]
  by_cases h1:i<k-0
  ·rw[if_pos h1]
  ·rw[if_neg h1]
   by_cases h2:i=k-0
   ·rw[if_pos h2,h2];rfl
   ·rw[if_neg h2,if_neg (by omega)]
 | d+1,hd,i=>by
  rw[bubble_succ,nP (by rw[ZW];omega) (by rw[ZW];omega),K5 hk d (by omega),K5 hk d (by omega),K5 hk d (by omega)]
  by_cases h1:i=k-d
  ·subst h1
   rw[if_pos rfl,if_pos (by omega),if_neg (by omega),if_neg (by omega),if_pos (by omega)]
  ·rw[if_neg h1]
   by_cases h2:i=k-d-1
   ·subst h2
    rw[if_pos rfl,if_neg (by omega),if_pos rfl,if_neg (by omega),if_pos (by omega)]
   ·rw[if_neg h2]
    by_cases h3:i<k-(d+1)
    ·rw[if_pos (by omega),if_pos h3]
    ·rw[if_neg (by omega),if_neg h1,if_neg h3,if_neg (show ¬ i=k-(d+1) by omega)]
theorem TY {p:Array Nat}{m:Nat}(hm:m≤p.size):∀ d,d≤m / 2→∀ i,gN (mirror p 0 m d) i=if i<d∨(m-d≤i∧i<m) then gN p (m-1-i) else gN p i
 | 0,_,i=>by
  have e:mirror p 0 m 0=p:=rfl
  rw[e,if_neg (by omega)]
 | d+1,hd,i=>by
  have hs:(mirror p 0 m d).size=p.size:=mirror_size p 0 m d
  rw[mirror_succ,nP (by rw[hs];omega) (by rw[hs];omega),TY hm d (by omega),TY hm d (by omega),TY hm d (by omega)]
  by_cases h1:i=0+d
  ·rw[if_pos h1,if_neg (by omega),if_pos (by omega)]
   congr 1
   omega
  ·rw[if_neg h1]
   by_cases h2:i=m-1-d
   ·rw[if_pos h2,if_neg (by omega),if_pos (by omega)]
    congr 1
    omega
   ·rw[if_neg h2]
    by_cases h3:i<d∨(m-d≤i∧i<m)
    ·rw[if_pos h3,if_pos (by omega)]
    ·rw[if_neg h3,if_neg (by omega)]
structure Pm (p:Array Nat)(n:Nat):Prop where
 sz:p.size=n
 lt:∀ i,i<n→gN p i<n
 inj:∀ i j,i<n→j<n→gN p i=gN p j→i=j
theorem Pm.bub {p:Array Nat}{n k d:Nat}(h:Pm p n)(hk:k<n)(hd:d≤k):Pm (bubble p k d) n:=by
 have hk':k<p.size:=by rw[h.sz];exact hk
 refine⟨by rw[ZW,h.sz],fun i hi=>?_,fun i j hi hj e=>?_⟩
 ·rw[K5 hk' d hd]
  split
  ·exact h.lt _ hi
  ·split
   ·exact h.lt _ hk
   ·split
    ·exact h.lt _ (by omega)
    ·exact h.lt _ hi
 ·rw[K5 hk' d hd,K5 hk' d hd] at e
  have key:∀ x y,x<n→y<n→gN p x=gN p y→x=y:=h.inj
  by_cases i1:i<k-d
  ·rw[if_pos i1] at e
   by_cases j1:j<k-d
   ·rw[if_pos j1] at e;exact key _ _ hi hj e
   ·rw[if_neg j1] at e
    by_cases j2:j=k-d
    ·rw[if_pos j2] at e;have:=key _ _ hi hk e;omega
    ·rw[if_neg j2] at e
     by_cases j3:j≤k
     ·rw[if_pos j3] at e;have:=key _ _ hi (by omega) e;omega
     ·rw[if_neg j3] at e;have:=key _ _ hi hj e;omega
  ·rw[if_neg i1] at e
   by_cases i2:i=k-d
   ·rw[if_pos i2] at e
    by_cases j1:j<k-d
    ·rw[if_pos j1] at e;have:=key _ _ hk hj e;omega
    ·rw[if_neg j1] at e
     by_cases j2:j=k-d
     ·omega
     ·rw[if_neg j2] at e
      by_cases j3:j≤k
      ·rw[if_pos j3] at e;have:=key _ _ hk (by omega) e;omega
      ·rw[if_neg j3] at e;have:=key _ _ hk hj e;omega
   ·rw[if_neg i2] at e
    by_cases i3:i≤k
    ·rw[if_pos i3] at e
     by_cases j1:j<k-d
     ·rw[if_pos j1] at e;have:=key _ _ (by omega) hj e;omega
     ·rw[if_neg j1] at e
      by_cases j2:j=k-d
      ·rw[if_pos j2] at e;have:=key _ _ (by omega) hk e;omega
      ·rw[if_neg j2] at e
       by_cases j3:j≤k
       ·rw[if_pos j3] at e;have:=key _ _ (by omega) (by omega) e;omega
       ·rw[if_neg j3] at e;have:=key _ _ (by omega) hj e;omega
    ·rw[if_neg i3] at e
     by_cases j1:j<k-d
     ·rw[if_pos j1] at e;have:=key _ _ hi hj e;omega
     ·rw[if_neg j1] at e
      by_cases j2:j=k-d
      ·rw[if_pos j2] at e;have:=key _ _ hi hk e;omega
      ·rw[if_neg j2] at e
       by_cases j3:j≤k
       ·rw[if_pos j3] at e;have:=key _ _ hi (by omega) e;omega
       ·rw[if_neg j3] at e;exact key _ _ hi hj e
theorem Pm.rev {p:Array Nat}{n m:Nat}(h:Pm p n)(hm:m≤n):Pm (kas_rev p 0 m) n∧∀ i,gN (kas_rev p 0 m) i=if i<m then gN p (m-1-i) else gN p i:=by
 have hm':m≤p.size:=by rw[h.sz];exact hm
 have e:∀ i,gN (kas_rev p 0 m) i=if i<m then gN p (m-1-i) else gN p i:=fun i=>by
  unfold kas_rev
  rw[TY hm' ((m-0) / 2) (by omega)]
  by_cases h1:i<m
  ·rw[if_pos h1]
   by_cases h2:i<(m-0) / 2∨(m-(m-0) / 2≤i∧i<m)
   ·rw[if_pos h2]
   ·rw[if_neg h2]
    congr 1
    omega
  ·rw[if_neg h1,if_neg (by omega)]
 refine⟨⟨by unfold kas_rev;rw[mirror_size,h.sz],fun i hi=>?_,fun i j hi hj q=>?_⟩,e⟩
 ·rw[e]
  split
  ·exact h.lt _ (by omega)
  ·exact h.lt _ hi
 ·rw[e,e] at q
  split at q<;>split at q<;>(have:=h.inj _ _ (by omega) (by omega) q;omega)
section
variable {K0:Nat→Int}{n:Nat}
noncomputable def HS (K0:Nat→Int)(n:Nat):Nat→Nat→(Bool→Shared→Prop)→Shared→Prop:=fun i j C s=>i<n∧j<n∧i≠j∧C (decide (K0 i<K0 j)) s
theorem J2 {α:Type}{cmp QL:Nat→Nat→(Bool→Shared→Prop)→Shared→Prop}{Q Q':α→Shared→Prop}(hc:∀ i j C C' s,cmp i j C s→(∀ b s,C b s→C' b s)→QL i j C' s)(hq:∀ a s,Q a s→Q' a s):∀ (t:KasT α) (s:Shared),t.kasWp cmp Q s→t.kasWp QL Q' s
 | .ret a,s,h=>hq a s h
 | .ask i j k,s,h=>hc i j _ _ s h fun b s' h'=>J2 hc hq (k b) s' h'
theorem Lk:∀ i j (C C':Bool→Shared→Prop) s,HS K0 n i j C s→(∀ b s,C b s→C' b s)→HS K0 n i j C' s:=fun i j C C' s h f=>⟨h.1,h.2.1,h.2.2.1,f _ _ h.2.2.2⟩
noncomputable def Ff (K0:Nat→Int)(p:Array Nat)(m:Nat):Prop:=∀ i j,i<j→j<m→K0 (gN p i)<K0 (gN p j)
noncomputable def Nb (K0:Nat→Int)(p:Array Nat)(m:Nat):Prop:=∀ i j,i<j→j<m→K0 (gN p j)<K0 (gN p i)
theorem Ff.snoc {p:Array Nat}{m:Nat}(h:Ff K0 p m)(h1:1≤m)(hl:K0 (gN p (m-1))<K0 (gN p m)):Ff K0 p (m+1):=fun i j hij hj=>by
 by_cases e:j=m
 ·subst e
  by_cases e2:i=j-1
  ·subst e2;exact hl
  ·exact Int.lt_trans (h i (j-1) (by omega) (by omega)) hl
 ·exact h i j hij (by omega)
theorem Nb.snoc {p:Array Nat}{m:Nat}(h:Nb K0 p m)(h1:1≤m)(hl:K0 (gN p m)<K0 (gN p (m-1))):Nb K0 p (m+1):=fun i j hij hj=>by
 by_cases e:j=m
 ·subst e
  by_cases e2:i=j-1
  ·subst e2;exact hl
  ·exact Int.lt_trans hl (h i (j-1) (by omega) (by omega))
 ·exact h i j hij (by omega)
variable (hK:∀ i j,i<n→j<n→K0 i=K0 j→i=j)
include hK
theorem Yq {p:Array Nat}(hp:Pm p n):∀ (f m:Nat) (s:Shared),1≤m→m+f≤n→Ff K0 p m→(kas_asc p f m).kasWp (HS K0 n) (fun r _=>m≤r∧r≤m+f∧Ff K0 p r∧(r<m+f→K0 (gN p r)<K0 (gN p (r-1)))) s
 | 0,m,s,_,_,ha=>⟨Nat.le_refl _,Nat.le_refl _,ha,fun h=>by omega⟩
 | f+1,m,s,h1,hf,ha=>by
  have l1:=hp.lt m (by omega)
  have l2:=hp.lt (m-1) (by omega)
  have ne:gN p m≠gN p (m-1):=fun e=>by have:=hp.inj m (m-1) (by omega) (by omega) e;omega
  refine⟨l1,l2,ne,?_⟩
  show KasT.kasWp _ (if decide (K0 (gN p m)<K0 (gN p (m-1)))=true then _ else _) _ s
  by_cases c:K0 (gN p m)<K0 (gN p (m-1))
  ·rw[decide_eq_true c,if_pos rfl]
   exact⟨Nat.le_refl _,by omega,ha,fun _=>c⟩
  ·rw[decide_eq_false c,if_neg Bool.false_ne_true]
   have:K0 (gN p (m-1))<K0 (gN p m):=by
    have:K0 (gN p m)≠K0 (gN p (m-1)):=fun e=>ne (hK _ _ l1 l2 e)
    omega
   exact J2 Lk (fun r s q=>⟨by omega,by omega,q.2.2.1,fun h=>q.2.2.2 (by omega)⟩) _ s (Yq hp f (m+1) s (by omega) (by omega) (ha.snoc h1 this))
theorem o8 {p:Array Nat}(hp:Pm p n):∀ (f m:Nat) (s:Shared),1≤m→m+f≤n→Nb K0 p m→(kas_desc f p m 0).kasWp (HS K0 n) (fun r _=>r.1=p∧m≤r.2.1∧r.2.1≤m+f∧r.2.2=0∧Nb K0 p r.2.1) s
 | 0,m,s,_,_,ha=>⟨rfl,Nat.le_refl _,Nat.le_refl _,rfl,ha⟩
 | f+1,m,s,h1,hf,ha=>by
  have l1:=hp.lt m (by omega)
  have l2:=hp.lt (m-1) (by omega)
  have ne:gN p m≠gN p (m-1):=fun e=>by have:=hp.inj m (m-1) (by omega) (by omega) e;omega
  refine⟨l1,l2,ne,?_⟩
  show KasT.kasWp _ (if decide (K0 (gN p m)<K0 (gN p (m-1)))=true then _ else _) _ s
  by_cases c:K0 (gN p m)<K0 (gN p (m-1))
  ·rw[decide_eq_true c,if_pos rfl,if_neg (by omega)]
   exact J2 Lk (fun r s q=>⟨q.1,by omega,by omega,q.2.2.2⟩) _ s (o8 hp f (m+1) s (by omega) (by omega) (ha.snoc h1 c))
  ·rw[decide_eq_false c,if_neg Bool.false_ne_true]
   have lt:K0 (gN p (m-1))<K0 (gN p m):=by
    have:K0 (gN p m)≠K0 (gN p (m-1)):=fun e=>ne (hK _ _ l1 l2 e)
    omega
   refine⟨l2,l1,Ne.symm ne,?_⟩
   show KasT.kasWp _ (if decide (K0 (gN p (m-1))<K0 (gN p m))=true then _ else _) _ s
   rw[decide_eq_true lt,if_pos rfl]
   exact⟨rfl,Nat.le_refl _,Nat.le_add_right _ _,rfl,ha⟩
theorem AG4 {p:Array Nat}(hp:Pm p n)(s:Shared)(h2:2≤n)(hd:K0 (gN p 1)<K0 (gN p 0)):(kas_descPart 1 n p).kasWp (HS K0 n) (fun r _=>1≤r.1∧r.1≤n∧Pm r.2 n∧Ff K0 r.2 r.1) s:=by
 unfold kas_descPart
 rw[KasT.kasWp_bind]
 have hd2:Nb K0 p 2:=fun i j hij hj=>by
  obtain rfl:i=0:=by omega
  obtain rfl:j=1:=by omega
  exact hd
 refine J2 Lk (fun r s q=>?_) _ s (o8 hK hp (n-(1+1)) (1+1) s (by omega) (by omega) hd2)
 obtain⟨q1,q2,q3,q4,q5⟩:=q
 rw[if_neg (by omega),q1]
 unfold kas_tail3
 rw[KasT.kasWp_bind]
 obtain⟨pr,er⟩:=hp.rev (m:=r.2.1) (by omega)
 have ha:Ff K0 (kas_rev p 0 r.2.1) r.2.1:=fun i j hij hj=>by
  rw[er,er,if_pos (show i<r.2.1 by omega),if_pos hj]
  exact q5 _ _ (by omega) (by omega)
 exact J2 Lk (fun m s z=>⟨by omega,by omega,pr,z.2.2.1⟩) _ s (Yq hK pr (n-r.2.1) r.2.1 s (by omega) (by omega) ha)
theorem zU {p:Array Nat}(hp:Pm p n)(s:Shared)(h1:1≤n):(kas_count n p).kasWp (HS K0 n) (fun r _=>1≤r.1∧r.1≤n∧Pm r.2 n∧Ff K0 r.2 r.1) s:=by
 unfold kas_count
 rw[KasT.kasWp_bind]
 refine J2 Lk (fun m s q=>?_) _ s (Yq hK hp (n-1) 1 s (Nat.le_refl _) (by omega) fun i j hij hj=>by omega)
 obtain⟨q1,q2,q3,q4⟩:=q
 by_cases e:m=n
 ·rw[if_pos (by simpa using e)]
  exact⟨q1,by omega,hp,q3⟩
 ·rw[if_neg (by simpa using e)]
  by_cases e1:m > 1
  ·rw[if_pos e1]
   have ne:gN p 0≠gN p (m-1):=fun z=>by have:=hp.inj 0 (m-1) (by omega) (by omega) z;omega
   refine⟨hp.lt 0 (by omega),hp.lt (m-1) (by omega),ne,?_⟩
   show KasT.kasWp _ (if decide (K0 (gN p 0)<K0 (gN p (m-1)))=true then _ else _) _ s
   rw[decide_eq_true (q3 0 (m-1) (by omega) (by omega)),if_pos rfl]
   exact⟨q1,by omega,hp,q3⟩
  ·rw[if_neg e1]
   have e2:m=1:=by omega
   subst e2
   exact AG4 hK hp s (by omega) (q4 (by omega))
theorem WX {p:Array Nat}{k:Nat}(hp:Pm p n)(hk:k<n)(ha:Ff K0 p k):∀ (f l r:Nat) (s:Shared),l≤r→r≤k→r-l≤f→(∀ i,i<l→K0 (gN p i)<K0 (gN p k))→(∀ i,r≤i→i<k→K0 (gN p k)<K0 (gN p i))→(kas_place p k f l r).kasWp (HS K0 n) (fun x _=>x≤k∧(∀ i,i<x→K0 (gN p i)<K0 (gN p k))∧∀ i,x≤i→i<k→K0 (gN p k)<K0 (gN p i)) s
 | 0,l,r,s,h1,h2,h3,hl,hr=>⟨by omega,hl,fun i hi hik=>hr i (by omega) hik⟩
 | f+1,l,r,s,h1,h2,h3,hl,hr=>by
  unfold kas_place
  by_cases e:l ≥ r
  ·rw[if_pos e]
   exact⟨by omega,hl,fun i hi hik=>hr i (by omega) hik⟩
  ·rw[if_neg e]
   have l1:=hp.lt k hk
   have l2:=hp.lt ((l+r) / 2) (by omega)
   have ne:gN p k≠gN p ((l+r) / 2):=fun z=>by have:=hp.inj k ((l+r) / 2) hk (by omega) z;omega
   refine⟨l1,l2,ne,?_⟩
   show KasT.kasWp _ (if decide (K0 (gN p k)<K0 (gN p ((l+r) / 2)))=true then _ else _) _ s
   by_cases c:K0 (gN p k)<K0 (gN p ((l+r) / 2))
   ·rw[decide_eq_true c,if_pos rfl]
    refine WX hp hk ha f l ((l+r) / 2) s (by omega) (by omega) (by omega) hl fun i hi hik=>?_
    by_cases e2:i=(l+r) / 2
    ·rw[e2];exact c
    ·exact Int.lt_trans c (ha _ _ (by omega) hik)
   ·rw[decide_eq_false c,if_neg Bool.false_ne_true]
    have lt:K0 (gN p ((l+r) / 2))<K0 (gN p k):=by
     have:K0 (gN p k)≠K0 (gN p ((l+r) / 2)):=fun z=>ne (hK _ _ l1 l2 z)
     omega
    refine WX hp hk ha f ((l+r) / 2+1) r s (by omega) (by omega) (by omega) (fun i hi=>?_) hr
    by_cases e2:i=(l+r) / 2
    ·rw[e2];exact lt
    ·exact Int.lt_trans (ha _ _ (show i<(l+r) / 2 by omega) (by omega)) lt
theorem jQ:∀ (f k:Nat) (p:Array Nat) (s:Shared),Pm p n→k+f=n→Ff K0 p k→(kas_bin f p k).kasWp (HS K0 n) (fun q _=>Pm q n∧Ff K0 q n) s
 | 0,k,p,s,hp,e,ha=>⟨hp,by rw[← e];exact ha⟩
 | f+1,k,p,s,hp,e,ha=>by
  unfold kas_bin
  rw[KasT.kasWp_bind]
  refine J2 Lk (fun x s q=>?_) _ s (WX hK hp (by omega) ha k 0 k s (by omega) (Nat.le_refl _) (by omega) (fun i hi=>by omega) fun i h1 h2=>by omega)
  obtain⟨q1,q2,q3⟩:=q
  have hk:k<p.size:=by rw[hp.sz];omega
  refine jQ f (k+1) (bubble p k (k-x)) s (hp.bub (by omega) (by omega)) (by omega) fun i j hij hj=>?_
  rw[K5 hk (k-x) (by omega),K5 hk (k-x) (by omega),show k-(k-x)=x by omega]
  by_cases i1:i<x
  ·rw[if_pos i1]
   by_cases j1:j<x
   ·rw[if_pos j1]
    exact ha _ _ hij (by omega)
   ·rw[if_neg j1]
    by_cases j2:j=x
    ·rw[if_pos j2];exact q2 i i1
    ·rw[if_neg j2,if_pos (by omega)]
     exact ha _ _ (by omega) (by omega)
  ·rw[if_neg i1,if_neg (show ¬ j<x by omega),if_neg (show ¬ j=x by omega),if_pos (show j≤k by omega)]
   by_cases i2:i=x
   ·rw[if_pos i2]
    exact q3 _ (by omega) (by omega)
   ·rw[if_neg i2,if_pos (show i≤k by omega)]
    exact ha _ _ (by omega) (by omega)
theorem z9 (s:Shared)(h1:1≤n):(kas_sort n).kasWp (HS K0 n) (fun q _=>Pm q n∧Ff K0 q n) s:=by
 have hp:Pm (List.toArray (List.range n)) n:=by
  have g:∀ i,i<n→gN (List.toArray (List.range n)) i=i:=fun i hi=>by
   unfold gN
   simp [Array.getD,hi]
  exact⟨by simp,fun i hi=>by rw[g i hi];exact hi,fun i j hi hj e=>by rw[g i hi,g j hj] at e;exact e⟩
 unfold kas_sort
 rw[KasT.kasWp_bind]
 refine J2 Lk (fun r s q=>?_) _ s (zU hK hp s h1)
 obtain⟨q1,q2,q3,q4⟩:=q
 by_cases e:r.1<n
 ·rw[if_pos e,show max r.1 1=r.1 by omega]
  exact jQ hK _ _ _ s q3 (by omega) q4
 ·rw[if_neg e]
  exact⟨q3,by rw[show n=r.1 by omega];exact q4⟩
end
section
variable {κ:Type}[DecidableEq κ]
noncomputable def GC (kvs:List (κ×V))(k:κ):Option V:=(kvs.find? fun kv=>decide (kv.1=k)).map (·.2)
noncomputable def putK (kvs:List (κ×V))(k:κ)(v:V):List (κ×V) :=
 if (kvs.any fun kv=>decide (kv.1=k))=true then kvs.map (fun kv=>if kv.1=k then (kv.1,v) else kv) else kvs++[(k,v)]
noncomputable def Ld (kvs:List (κ×V))(k:κ):List (κ×V):=kvs.filter fun kv=>decide (kv.1≠k)
theorem Tf {p:κ×V}{r:List (κ×V)}{k:κ}(e:p.1=k):GC (p::r) k=some p.2:=by simp [GC,List.find?_cons,e]
theorem Uj {p:κ×V}{r:List (κ×V)}{k:κ}(e:¬ p.1=k):GC (p::r) k=GC r k:=by simp [GC,List.find?_cons,e]
theorem pA (k:κ):∀ kvs:List (κ×V),(kvs.any fun kv=>decide (kv.1=k))=(GC kvs k).isSome
 | []=>rfl
 | p::r=>by
  rw[List.any_cons]
  by_cases e:p.1=k
  ·simp only[Tf e,decide_eq_true e,Bool.true_or,Option.isSome_some]
  ·rw[Uj e,decide_eq_false e,Bool.false_or];exact pA k r
theorem Yb (kvs:List (κ×V))(k:κ)(v:V):(putK kvs k v).length≤kvs.length+1:=by
 unfold putK
 split
 ·rw[List.length_map];omega
 ·rw[List.length_append,List.length_cons,List.length_nil];omega
theorem Ha.V5 {o:Option V}{u:Option Value}(r:Ha o u):o.isSome=u.isSome:=by
 cases o with
 | none=>cases u with
  | none=>rfl
  | some _=>exact (show False from r).elim
 | some _=>cases u with
  | none=>exact (show False from r).elim
  | some _=>rfl
theorem KV.val {kvs:List (κ×V)}{vs:List (κ×Value)}(r:KV kvs vs)(k:κ):Ha (GC kvs k) (valueAt vs k):=by
 unfold KV at r
 induction r with
 | nil=>exact True.intro
 | @cons p q ps qs h t ih =>
  obtain⟨h1,h2⟩:=h
  by_cases e:p.1=k
  ·have e':q.1=k:=h1.symm.trans e
   have b:valueAt (q::qs) k=some q.2:=by simp [valueAt,List.find?_cons,e']
   rw[Tf e,b];exact h2
  ·have e':¬ q.1=k:=fun z=>e (h1.trans z)
   have b:valueAt (q::qs) k=valueAt qs k:=by simp [valueAt,List.find?_cons,e']
   rw[Uj e,b];exact ih
theorem KV.any {kvs:List (κ×V)}{vs:List (κ×Value)}(r:KV kvs vs)(k:κ):(kvs.any fun kv=>decide (kv.1=k))=vs.any fun kv=>decide (kv.1=k):=by
 unfold KV at r
 induction r with
 | nil=>rfl
 | cons h t ih=>rw[List.any_cons,List.any_cons,ih,h.1]
theorem KV.YZ {kvs:List (κ×V)}{vs:List (κ×Value)}(r:KV kvs vs)(k:κ){y:V}{u:Value}(ry:RelV y u) :
  KV (kvs.map fun kv=>if kv.1=k then (kv.1,y) else kv) (vs.map fun kv=>if kv.1=k then (kv.1,u) else kv):=by
 unfold KV at r ⊢
 induction r with
 | nil=>exact .nil
 | @cons p q ps qs h t ih =>
  rw[List.map_cons,List.map_cons]
  refine .cons ?_ ih
  obtain⟨h1,h2⟩:=h
  by_cases e:p.1=k
  ·rw[if_pos e,if_pos (h1.symm.trans e)];exact⟨h1,ry⟩
  ·rw[if_neg e,if_neg (fun z=>e (h1.trans z))];exact⟨h1,h2⟩
theorem KV.put {kvs:List (κ×V)}{vs:List (κ×Value)}(r:KV kvs vs)(k:κ){y:V}{u:Value}(ry:RelV y u):KV (putK kvs k y) (stored vs k u):=by
 unfold putK stored
 rw[r.any k]
 by_cases e:(vs.any fun kv=>decide (kv.1=k))=true
 ·rw[if_pos e,if_pos e];exact r.YZ k ry
 ·rw[if_neg e,if_neg e];exact Paired.snoc r ⟨rfl,ry⟩
theorem KV.drop {kvs:List (κ×V)}{vs:List (κ×Value)}(r:KV kvs vs)(k:κ):KV (Ld kvs k) (without vs k):=by
 unfold KV at r ⊢
 unfold Ld without
 induction r with
 | nil=>exact .nil
 | @cons p q ps qs h t ih =>
  obtain⟨h1,h2⟩:=h
  rw[List.filter_cons,List.filter_cons]
  by_cases e:p.1=k
  ·have a:¬ decide (p.1≠k)=true:=by simp [e]
   have b:¬ decide (q.1≠k)=true:=by simp [h1.symm.trans e]
   rw[if_neg a,if_neg b];exact ih
  ·have e':¬ q.1=k:=fun z=>e (h1.trans z)
   have a:decide (p.1≠k)=true:=by simp [e]
   have b:decide (q.1≠k)=true:=by simp [e']
   rw[if_pos a,if_pos b];exact .cons ⟨h1,h2⟩ ih
theorem KV.length {kvs:List (κ×V)}{vs:List (κ×Value)}(r:KV kvs vs):kvs.length=vs.length:=Paired.length r
theorem yG (kvs:List (κ×V))(k:κ):(Ld kvs k).length≤kvs.length:=List.length_filter_le _ _
end
theorem Oj {P:Program}{w:World}{k:Key}{u:Value}(r:RelV (kV k) u):(De P w).is k u=true:=by
 cases k with
 | inl i=>obtain⟨t,e⟩:=(show ∃ t,u=Value.int i t from r);subst e;exact AEe P w i t
 | inr x=>obtain⟨t,e⟩:=(show ∃ t,u=Value.str x t from r);subst e;exact ACs P w x t
theorem nY {P:Program}{w:World}:∀ {ks:List Key}{us:List Value},Vals (ks.map kV) us→ItemsAre (De P w) ks us
 | [],_,r=>by rw[List.map_nil] at r;cases r;exact .nil
 | k::ks,_,r=>by
  rw[List.map_cons] at r
  cases r with
  | cons h t=>exact .cons (Oj h) (nY t)
noncomputable abbrev KT (H:Hp):List (List Key×V)→List (List Key×Addr×Value)→Prop:=Paired fun p q=>p.1=q.1∧H q.2.1=some (.tup (p.1.map kV))∧RelV p.2 q.2.2
theorem KT.val {H:Hp}{kvs:List (List Key×V)}{xs:List (List Key×Addr×Value)}(r:KT H kvs xs)(k:List Key):Ha (GC kvs k) ((atKey xs k).map (·.2)):=by
 induction r with
 | nil=>exact True.intro
 | @cons p q ps qs h t ih =>
  obtain⟨h1,_,h2⟩:=h
  by_cases e:p.1=k
  ·have e':q.1=k:=h1.symm.trans e
   have b:atKey (q::qs) k=some q.2:=by simp [atKey,List.find?_cons,e']
   rw[Tf e,b];exact h2
  ·have e':¬ q.1=k:=fun z=>e (h1.trans z)
   have b:atKey (q::qs) k=atKey qs k:=by simp [atKey,List.find?_cons,e']
   rw[Uj e,b];exact ih
theorem KT.YZ {H:Hp}{kvs:List (List Key×V)}{xs:List (List Key×Addr×Value)}(r:KT H kvs xs)(k:List Key){y:V}{u:Value}(ry:RelV y u) :
  KT H (kvs.map fun kv=>if kv.1=k then (kv.1,y) else kv) (xs.map (putAt k u)):=by
 induction r with
 | nil=>exact .nil
 | @cons p q ps qs h t ih =>
  rw[List.map_cons,List.map_cons]
  refine .cons ?_ ih
  obtain⟨h1,h2,h3⟩:=h
  unfold putAt
  by_cases e:p.1=k
  ·rw[if_pos e,if_pos (h1.symm.trans e)];exact⟨h1,h2,ry⟩
  ·rw[if_neg e,if_neg (fun z=>e (h1.trans z))];exact⟨h1,h2,h3⟩
theorem KT.put {H:Hp}{kvs:List (List Key×V)}{xs:List (List Key×Addr×Value)}(r:KT H kvs xs)(k:List Key){b:Addr}{y:V}{u:Value}(hb:H b=some (.tup (k.map kV)))(ry:RelV y u) :
  KT H (putK kvs k y) (storedH xs k b u):=by
 have e:(kvs.any fun kv=>decide (kv.1=k))=(atKey xs k).isSome:=by
  rw[pA,(r.val k).V5,Option.isSome_map]
 unfold putK storedH
 rw[e]
 by_cases q:(atKey xs k).isSome=true
 ·rw[if_pos q,if_pos q];exact r.YZ k ry
 ·rw[if_neg q,if_neg q];exact Paired.snoc r ⟨rfl,hb,ry⟩
theorem KT.keeps {H H':Hp}{kvs:List (List Key×V)}{xs:List (List Key×Addr×Value)}(r:KT H kvs xs)(ht:∀ b ys,H b=some (.tup ys)→H' b=some (.tup ys)):KT H' kvs xs :=
 Paired.Zj r fun _ _ z=>⟨z.1,ht _ _ z.2.1,z.2.2⟩
section
variable {P:Program}{w:World}{H:Hp}{h:Heap}{a:Addr}
theorem tU {u:HO}(ok:Ck P w H h)(e:Rd H a u):Ej P w H h a u:=e.ok ok
theorem O8 {kvs:List (Key×V)}(ok:Ck P w H h)(e:Rd H a (.dK kvs)):kvs.length≤sizeLine∧(a == sysModules)=false∧∃ vs,KV kvs vs∧h.DictOf (De P w) a vs :=
 show Ej P w H h a (.dK kvs) from tU ok e
theorem U4 {kvs:List (Key×V)}(ok:Ck P w H h)(e:H a=some (.dK kvs)):kvs.length≤sizeLine∧(a == sysModules)=false∧∃ vs,KV kvs vs∧h.DictOf (De P w) a vs:=O8 ok (.inl e)
theorem Sv {ks:List Key}(ok:Ck P w H h)(e:H a=some (.tup (ks.map kV))):(tupleKind (De P w)).is h ks a:=by
 obtain⟨_,its,r,o,h1,h2,n,h3⟩:=(show Ej P w H h a (.tup (ks.map kV)) from ok a _ e)
 exact⟨o,its.toArray,n,h1,h2,h3,by simpa using nY r⟩
theorem QW {kvs:List (List Key×V)}(ok:Ck P w H h)(e:Rd H a (.dT kvs)):kvs.length≤sizeLine∧(a == sysModules)=false ∧
  ∃ xs,KT H kvs xs∧h.DictOfH (tupleKind (De P w)) a xs:=by
 obtain⟨z,y,xs,r,o,es,ep,h1,h2,h3,h4,h5⟩:=(show Ej P w H h a (.dT kvs) from tU ok e)
 refine⟨z,y,xs,r,o,es,ep,h1,h2,h3,h4,fun x hx=>?_,h5⟩
 have all:∀ {l:List (List Key×V)}{m:List (List Key×Addr×Value)},KT H l m→∀ x∈m,(tupleKind (De P w)).is h x.1 x.2.1:=by
  intro l m q
  induction q with
  | nil=>intro x hx;exact nomatch hx
  | @cons p q ps qs hq t ih =>
   intro x hx
   rcases List.mem_cons.mp hx with e | hx
   ·subst e
    exact Sv ok (by rw[← hq.1];exact hq.2.1)
   ·exact ih x hx
 exact all r x hx
theorem AH9 {kvs:List (List Key×V)}(ok:Ck P w H h)(e:H a=some (.dT kvs)):kvs.length≤sizeLine∧(a == sysModules)=false ∧
  ∃ xs,KT H kvs xs∧h.DictOfH (tupleKind (De P w)) a xs:=QW ok (.inl e)
end
noncomputable def Ji (H:Hp)(a:Addr)(y:V)(r:Option V):Prop :=
 (∃ kvs k,Rd H a (.dK kvs)∧y=kV k∧r=GC kvs k)∨∃ kvs k b,Rd H a (.dT kvs)∧y=.ref b∧H b=some (.tup (k.map kV))∧r=GC kvs k
noncomputable def Ph (H:Hp)(a:Addr)(y v:V)(H':Hp):Prop :=
 (∃ kvs k,H a=some (.dK kvs)∧y=kV k∧kvs.length<sizeLine∧H'=upd H a (.dK (putK kvs k v))) ∨
 ∃ kvs k b,H a=some (.dT kvs)∧y=.ref b∧H b=some (.tup (k.map kV))∧kvs.length<sizeLine∧H'=upd H a (.dT (putK kvs k v))
theorem Ji.k {H:Hp}{a:Addr}{kvs:List (Key×V)}{k:Key}(e:H a=some (.dK kvs)):Ji H a (kV k) (GC kvs k):=.inl ⟨kvs,k,.inl e,rfl,rfl⟩
theorem Ph.k {H:Hp}{a:Addr}{kvs:List (Key×V)}{k:Key}{v:V}(e:H a=some (.dK kvs))(hl:kvs.length<sizeLine):Ph H a (kV k) v (upd H a (.dK (putK kvs k v))):=.inl ⟨kvs,k,e,rfl,hl,rfl⟩
section
variable {X:Cx}{pins:List (Addr×Obj)}{σ:St}{H:Hp}{s:Shared}{a:Addr}{y v:V}{u r:Value}{o:Option V}{A:Around}{E:Value→Shared→Prop}
theorem Inv.big (I:Inv X pins σ H s):sysModules<s.heap.objs.size:=by
 have h:mainGlobals<s.heap.objs.size:=(I.mod.glob.keeps I.bk).lt
 exact Nat.lt_trans (by decide) h
theorem AFn {Q:Value→Shared→Prop}(hu:A.units+1<cLine)(I:Inv X pins σ H s)(g:Ji H a y (some v))(ry:RelV y u)(h:∀ w' s',Inv X pins σ H s'→RelV v w'→Q w' s') :
  wpAny (model X.prog X.w) A (getItem (.ref a) u) Q E s:=by
 rcases g with⟨kvs,k,e,ey,l⟩ | ⟨kvs,k,b,e,ey,eb,l⟩
 ·subst ey
  obtain⟨z,hd,vs,rel,dd⟩:=O8 I.hok e
  obtain⟨w',hw,rw'⟩:=Ha.some_of (v:=v) (o:=valueAt vs k) (by rw[l];exact rel.val k)
  exact wpAny_getItem_of (Oj ry) dd.mapOf hw (h w' _ (I.tok _) rw')
 ·subst ey
  cases (show u=Value.ref b from ry)
  obtain⟨z,hd,xs,rel,dd⟩:=QW I.hok e
  obtain⟨w',hw,rw'⟩:=Ha.some_of (v:=v) (o:=(atKey xs k).map (·.2)) (by rw[l];exact rel.val k)
  obtain⟨p,hp,hp2⟩:=Option.map_eq_some_iff.mp hw
  refine wpAny_getItem_heap (tupleKind_room_in1 hu) (Sv I.hok eb) dd hp ?_
  rw[hp2]
  exact h w' _ (I.tok _) rw'
theorem yI {Q:Value→Shared→Prop}(hu:A.units+1<cLine)(I:Inv X pins σ H s)(g:Ji H a y o)(ry:RelV y u)(h:∀ s',Inv X pins σ H s'→Q (.bool (!o.isSome)) s') :
  wpAny (model X.prog X.w) A (compareOp .NotIn u (.ref a)) Q E s:=by
 rcases g with⟨kvs,k,e,ey,l⟩ | ⟨kvs,k,b,e,ey,eb,l⟩
 ·subst ey
  obtain⟨z,hd,vs,rel,dd⟩:=O8 I.hok e
  refine wpAny_notIn_of (Oj ry) hd dd.mapOf ?_
  rw[← (rel.val k).V5,← l]
  exact h _ (I.tok _)
 ·subst ey
  cases (show u=Value.ref b from ry)
  obtain⟨z,hd,xs,rel,dd⟩:=QW I.hok e
  refine wpAny_notIn_heap (tupleKind_room_in1 hu) (Sv I.hok eb) hd dd ?_
  have q:=(rel.val k).V5
  rw[Option.isSome_map] at q
  rw[← q,← l]
  exact h _ (I.tok _)
theorem XM {h':Heap}{t':Nat}{ob:HO}(I:Inv X pins σ H s)(mu:QM (H a))(hs:Heap.SameBut a s.heap h')(he:∃ q,h'.get? a=some q)(new:Ej X.prog X.w (upd H a ob) h' a ob) :
  Inv X pins σ (upd H a ob) { s with heap:=h',toks:=t' } :=
 I.write (x:=a) (e:=a) mu (.inl rfl) (fun b q hb z=>(hs.2 b hb).trans z) he new
theorem Yk {P:Program}{w:World}{H':Hp}{h':Heap}{kvs:List (Key×V)}{vs:List (Key×Value)}(z:kvs.length≤sizeLine)(hd:(a == sysModules)=false)(rel:KV kvs vs)(dd:h'.DictOf (De P w) a vs) :
  Ej P w H' h' a (.dK kvs):=⟨z,hd,vs,rel,dd⟩
theorem AGl {H':Hp}{Q:Unit→Shared→Prop}(hu:A.units+1<cLine)(I:Inv X pins σ H s)(g:Ph H a y v H')(ry:RelV y u)(rv:RelV v r)(h:∀ s',Inv X pins σ H' s'→Q () s') :
  wpAny (model X.prog X.w) A (setItem (.ref a) u r) Q E s:=by
 rcases g with⟨kvs,k,e,ey,l,eH⟩ | ⟨kvs,k,b,e,ey,eb,l,eH⟩
 ·subst ey eH
  obtain⟨z,hd,vs,rel,dd⟩:=U4 I.hok e
  have hz:vs.length≤sizeLine:=by rw[← rel.length];exact z
  have hl:(putK kvs k v).length≤sizeLine:=by have:=Yb kvs k v;omega
  refine wpAny_setItem_pairs (hsz:=hz) (Oj ry) dd fun h' dd' hs=>h _ ?_
  have he:∃ q,h'.get? a=some q:=let ⟨q,_,_,hq,_⟩:=dd';⟨q,hq⟩
  exact XM I (by rw[e];exact True.intro) hs he (Yk hl hd (rel.put k rv) dd')
 ·subst ey eH
  cases (show u=Value.ref b from ry)
  obtain⟨z,hd,xs,rel,dd⟩:=AH9 I.hok e
  have hz:xs.length≤sizeLine:=by rw[← Paired.length rel];exact z
  have hl:(putK kvs k v).length≤sizeLine:=by have:=Yb kvs k v;omega
  refine wpAny_setItem_heap (hsz:=hz) (tupleKind_room_in1 hu) (Sv I.hok eb) dd fun h' dd' hs=>h _ ?_
  obtain⟨q,es,ep,hq,h2,h3,h4,_,h5⟩:=dd'
  refine XM I (by rw[e];exact True.intro) hs ⟨q,hq⟩ ⟨hl,hd,_,(rel.put k eb rv).keeps fun c ys ec=>?_,q,es,ep,hq,h2,h3,h4,h5⟩
  rw[Bb (AIy ec e (fun z=>nomatch z))]
  exact ec
end
section
variable {X:Cx}{pins:List (Addr×Obj)}{σ:St}{H:Hp}{s:Shared}{a:Addr}{kvs:List (Key×V)}{k:Key}{u:Value}{A:Around}{E:Value→Shared→Prop}
theorem wH {v:V}{more:List Value}{Q:Value→Shared→Prop}(I:Inv X pins σ H s)(e:H a=some (.dK kvs))(ry:RelV (kV k) u)(l:GC kvs k=some v)(hm:more=[]∨∃ x,more=[x])(h:∀ w' s',Inv X pins σ (upd H a (.dK (Ld kvs k))) s'→RelV v w'→Q w' s'):wpAny (model X.prog X.w) A (call (.builtin "dict.pop") (.ref a::u::more)) Q E s:=by
 obtain⟨z,hd,vs,rel,dd⟩:=U4 I.hok e
 obtain⟨w',hw,rw'⟩:=Ha.some_of (v:=v) (o:=valueAt vs k) (by rw[← l];exact rel.val k)
 have hp:(keyPart u).isSome=true:=by
  cases k with
  | inl i=>obtain⟨t,q⟩:=(show ∃ t,u=Value.int i t from ry);subst q;rfl
  | inr x=>obtain⟨t,q⟩:=(show ∃ t,u=Value.str x t from ry);subst q;rfl
 have ha:argsOk "dict.pop" ⟨.ref a::u::more,[]⟩:=by
  rcases hm with q | ⟨x,q⟩
  ·subst q;exact PySem.F.args_dict_pop_2 _ _
  ·subst q;exact PySem.F.args_dict_pop_3 _ _ _
 refine call_meetsIn PySem.F.slot_dict_pop dd.typeIs PySem.F.entry_dict_pop ha (meets_dict_pop_there (De X.prog X.w) a (Oj ry) more hm hp)
  ⟨vs,w',dd,by rw[← rel.length];exact z,hw,fun h' dd' hs=>h w' _ ?_ rw'⟩
 have he:∃ q,h'.get? a=some q:=let ⟨q,_,_,hq,_⟩:=dd';⟨q,hq⟩
 exact XM I (by rw[e];exact True.intro) hs he (Yk (Nat.le_trans (yG kvs k) z) hd (rel.drop k) dd')
end
noncomputable def Xu (i:Expr):Prop:=∀ ov iv,subscripted i false ov iv=operate [ov,iv] (getItem ov iv)
theorem AIr {prog:Program}{w:World}{A:Around}{E:Value→Shared→Prop}{s:Shared}{env:Env}{value slice:Expr}{pos:Pos}{T id:String}{Q:Value→Shared→Prop}(hl:typeLookup (.type T) "__getitem__"=pure (some (.builtin id)))(hs:Xu slice)(h:wpAny (model prog w) A (eval value env) (fun o s₁=>wpAny (model prog w) A (eval slice env) (fun i s₂=>s₂.TypeIs o T∧wpAny (model prog w) A (getItem o i) Q E s₂) E s₁) E s) :
  wpAny (model prog w) A (eval (.Subscript value slice pos) env) Q E s:=by
 refine Subscript_ (wpAny_mono h (fun o s₁ h₁=>wpAny_mono h₁ (fun i s₂ h₂=>?_) fun _ _ x=>x) fun _ _ x=>x)
 obtain⟨hT,h₂⟩:=h₂
 unfold subscriptTail
 refine wpAny_bind ?_
 rw[getitemInPython_of_ne hT.not_modules]
 refine wpAny_bind (wpAny_specialOf hT hl ?_)
 have fin:wpAny (model prog w) A (subscripted slice false o i) (fun r s₃=>wpAny (model prog w) A (letTemporaryGo value o r >>= fun _=>pure r) Q E s₃) E s₂:=by
  rw[hs o i]
  exact wpAny_operating (wpAny_mono h₂ (fun r s₃ h₃=>wpAny_bind (wpAny_letTemporaryGo (wpAny_pure h₃))) fun _ _ x=>x)
 first
  | exact wpAny_pure (wpAny_bind fin)
  | exact wpAny_bind (wpAny_pure (wpAny_bind fin))
  | exact wpAny_bind fin
theorem AHI {X:Cx}{pins:List (Addr×Obj)}{σ:St}{H:Hp}{s:Shared}{a:Addr}{y:V}{o:Option V}(I:Inv X pins σ H s)(g:Ji H a y o):s.TypeIs (.ref a) "dict":=by
 rcases g with⟨kvs,k,e,_,_⟩ | ⟨kvs,k,b,e,_,_,_⟩
 ·obtain⟨_,_,vs,_,dd⟩:=O8 I.hok e
  exact dd.typeIs
 ·obtain⟨_,_,xs,_,dd⟩:=QW I.hok e
  exact dd.typeIs
noncomputable def WM (td ty:TE):TE:=fun σ H Q=>td σ H fun x H1=>ty σ H1 fun y H2=>∃ a v,x=.ref a∧Ji H2 a y (some v)∧Q v H2
noncomputable def X5 (ty td:TE):TE:=fun σ H Q=>ty σ H fun y H1=>td σ H1 fun x H2=>∃ a o,x=.ref a∧Ji H2 a y o∧Q (.bl (!o.isSome)) H2
noncomputable def Ww (td ty tv:TE):TS:=fun D σ H=>tv σ H fun v H1=>td σ H1 fun x H2=>ty σ H2 fun y H3=>∃ a H4,x=.ref a∧Ph H3 a y v H4∧D.nx σ H4
section
variable {X:Cx}{o i e value:Expr}{pos pos' tpos:Pos}{td ty tv:TE}
theorem ACZ (hu:X.A.units+1<cLine)(ho:PE X o td)(hi:PE X i ty)(hs:Xu i):PE X (.Subscript o i pos) (WM td ty):=by
 intro pins s σ H Q I h
 refine AIr PySem.F.slot_dict_getitem.lookup hs (BL (ho pins s σ H _ I h) fun u s1 ⟨x,H1,I1,rx,q1⟩=>BL (hi pins s1 σ H1 _ I1 q1) fun iv s2 ⟨y,H2,I2,ry,a,v,ex,g,q2⟩=>?_)
 subst ex
 obtain rfl:u=Value.ref a:=rx
 exact⟨AHI I2 g,AFn hu I2 g ry fun w' s3 I3 rw'=>⟨v,H2,I3,rw',q2⟩⟩
theorem AEv (hu:X.A.units+1<cLine)(hi:PE X i ty)(ho:PE X o td):PC X .NotIn i o (X5 ty td):=by
 intro pins s σ H Q I h
 refine BL (hi pins s σ H _ I h) fun iv s1 ⟨y,H1,I1,ry,q1⟩=>BL (ho pins s1 σ H1 _ I1 q1) fun u s2 ⟨x,H2,I2,rx,a,ov,ex,g,q2⟩=>?_
 subst ex
 obtain rfl:u=Value.ref a:=rx
 exact yI hu I2 g ry fun s3 I3=>⟨.bl (!ov.isSome),H2,I3,rfl,q2⟩
theorem ACP (hu:X.A.units+1<cLine)(ho:PE X o td)(hi:PE X i ty)(hv:PE X value tv)(hs:swapsWith value (some (.Subscript o i pos')) pos.line X.env=pure false) :
  PS X (.Assign [.Subscript o i pos'] value pos) (Ww td ty tv):=by
 intro pins s σ H D I h
 refine wpAny_Assign_Subscript (BL (hv pins s σ H _ I h) fun r s1 ⟨v,H1,I1,rv,q1⟩=>BL (ho pins s1 σ H1 _ I1 q1) fun u s2 ⟨x,H2,I2,rx,q2⟩=>BL (hi pins s2 σ H2 _ I2 q2) fun iv s3 ⟨y,H3,I3,ry,a,H4,ex,g,q3⟩=>?_) hs
 subst ex
 obtain rfl:u=Value.ref a:=rx
 exact AGl hu I3 g ry rv fun s4 I4=>⟨σ,H4,I4,q3⟩
end
structure M1 (X:Cx)(o:Expr)(m:Str)(apos:Pos)(e:Expr)(cpos:Pos):Prop where
 base:attributeBase o m X.env (eval o X.env)=eval o X.env
 few:((backTo cpos (starEach [e] X.env)).all (fun x=>!x.1) && (backToKw cpos (keywordEach [] X.env)).all (fun x=>x.1.isSome)
  && decide (([e]:List Expr).length+([]:List Keyword).length+(if ([]:List Keyword).isEmpty then 0 else 1)<30))=true
 line:(apos.endLine == cpos.line)=true
 trees:backTo cpos (starEach [e] X.env)=[(false,eval e X.env)]
structure M2 (X:Cx)(o:Expr)(m:Str)(apos:Pos)(e f:Expr)(cpos:Pos):Prop where
 base:attributeBase o m X.env (eval o X.env)=eval o X.env
 few:((backTo cpos (starEach [e,f] X.env)).all (fun x=>!x.1) && (backToKw cpos (keywordEach [] X.env)).all (fun x=>x.1.isSome)
  && decide (([e,f]:List Expr).length+([]:List Keyword).length+(if ([]:List Keyword).isEmpty then 0 else 1)<30))=true
 line:(apos.endLine == cpos.line)=true
 trees:backTo cpos (starEach [e,f] X.env)=[(false,eval e X.env),(false,eval f X.env)]
noncomputable def tE (H:Hp)(a:Addr):Prop:=(∃ kvs,Rd H a (.dK kvs))∨∃ kvs,Rd H a (.dT kvs)
theorem AGe {X:Cx}{pins:List (Addr×Obj)}{σ:St}{H:Hp}{s:Shared}{a:Addr}(I:Inv X pins σ H s)(d:tE H a) :
  s.TypeIs (.ref a) "dict"∧(∀ b,Value.ref a=.ref b→∃ ob,s.heap.get? b=some ob∧ob.dict=none)∧(a == sysModules)=false:=by
 rcases d with⟨kvs,e⟩ | ⟨kvs,e⟩
 ·obtain⟨_,hd,vs,_,dd⟩:=O8 I.hok e
  refine⟨dd.typeIs,fun b q=>?_,hd⟩
  cases q
  obtain⟨ob,_,_,h1,h2,_⟩:=dd
  exact⟨ob,h1,h2.2.1⟩
 ·obtain⟨_,hd,xs,_,dd⟩:=QW I.hok e
  refine⟨dd.typeIs,fun b q=>?_,hd⟩
  cases q
  obtain⟨ob,_,_,h1,h2,_⟩:=dd
  exact⟨ob,h1,h2.2.1⟩
noncomputable def nW (td ty:TE):TE:=fun σ H Q=>td σ H fun x H1=>∃ a,x=.ref a∧tE H1 a∧ty σ H1 fun y H2=>∃ kvs k v,H2 a=some (.dK kvs)∧y=kV k∧GC kvs k=some v∧Q v (upd H2 a (.dK (Ld kvs k)))
section
variable {X:Cx}{o e f:Expr}{apos cpos:Pos}{td ty tx:TE}
theorem AHn (ho:PE X o td)(he:PE X e ty)(m:M1 X o "pop" apos e cpos):PE X (.Call (.Attribute o "pop" apos) [e] [] cpos) (nW td ty):=by
 intro pins s σ H Q I h
 refine wpAny_Call_method m.base m.few m.line PySem.F.plainAttrs_dict PySem.F.slot_dict_pop PySem.F.type_dict_pop (BL (ho pins s σ H _ I h) fun u s1 ⟨x,H1,I1,rx,a,ex,d,q1⟩=>?_)
 subst ex
 obtain rfl:u=Value.ref a:=rx
 obtain⟨t1,t2,_⟩:=AGe I1 d
 refine⟨t1,t2,?_⟩
 rw[m.trees]
 refine Calls.callWith_builtin rfl (Calls.evalArgs_plain (Calls.spliced_cons (BL (he pins s1 σ H1 _ I1 q1) fun iv s2 ⟨y,H2,I2,ry,kvs,k,v,ea,ey,l,q2⟩=>Calls.spliced_nil ?_)))
 subst ey
 exact wH I2 ea ry l (.inl rfl) fun w' s3 I3 rw'=>⟨v,_,I3,rw',q2⟩
end
structure AKJ (K:Frag)(C:Addr):Prop where
 ga:findIn K (.ref C) "__getattribute__"=some (some (.builtin "BaseException.__getattribute__"))
 gt:findIn K (.ref C) "__getattr__"=some none
 cl:findIn K (.ref C) "__class__"=some (some (.builtin "object.__class__"))
 mB:mroIn K C (.type "BaseException")=some true
 mO:mroIn K C (.type "object")=some true
theorem sS {α:Type}{K0:Nat→Int}{n:Nat}{QL:Nat→Nat→(Bool→Shared→Prop)→Shared→Prop}{Q:α→Shared→Prop}{s:Shared}(hc:∀ i j C,i<n→j<n→i≠j→C (decide (K0 i<K0 j)) s→QL i j C s):∀ (t:KasT α),t.kasWp (HS K0 n) Q s→t.kasWp QL Q s
 | .ret a,h=>h
 | .ask i j k,h=>hc i j _ h.1 h.2.1 h.2.2.1 (sS hc (k _) h.2.2.2)
noncomputable def Fz {α:Type}(vs:List α)(d:α)(p:Array Nat):List α:=p.toList.map fun i=>vs.getD i d
theorem AHD (n:Nat):Pm (List.toArray (List.range n)) n∧∀ i,i<n→gN (List.toArray (List.range n)) i=i:=by
 have g:∀ i,i<n→gN (List.toArray (List.range n)) i=i:=fun i hi=>by
  unfold gN
  simp [Array.getD,hi]
 exact⟨⟨by simp,fun i hi=>by rw[g i hi];exact hi,fun i j hi hj e=>by rw[g i hi,g j hj] at e;exact e⟩,g⟩
theorem AGL {α:Type}(vs:List α)(d:α):Fz vs d (List.toArray (List.range vs.length))=vs:=by
 unfold Fz
 apply List.ext_getElem?
 intro i
 rw[List.getElem?_map]
 by_cases hi:i<vs.length
 ·simp [hi]
 ·simp [hi,Nat.le_of_not_lt hi]
section
variable {prog:Program}{w:World}{A:Around}{E:Value→Shared→Prop}{s:Shared}{K0:Nat→Int}{n:Nat}
theorem ACl {a:Addr}{vs:List Value}{e:Nat}{P:Fin→Shared→Prop}(ho:s.heap.get? a=some (seqObj "list" vs.toArray e))(hl:vs.length=n)(hN:n<64)(hK:∀ i j,i<n→j<n→K0 i=K0 j→i=j)(hv:∀ i,i<n→∃ v,vs[i]?=some v∧Lh s.heap v (K0 i))(h:∀ p,Pm p n→Ff K0 p n→P (.done (.ret .none)) { s with heap:=sortedHeap s.heap a vs (Fz vs .none p).toArray }) :
  wpAny (model prog w) A (Builtin.«list.sort» ⟨[.ref a],[]⟩) P E s:=by
 rw[list_sort_plain]
 have hbig:vs.length≤sizeLine:=by rw[sizeLine_eq];omega
 have ha:a<s.heap.objs.size:=Heap.lt_size ho
 refine wpAny_bind (listItems_at ho rfl ?_)
 refine wpAny_bind (listUpdate_at ho rfl ?_ (by simpa using hbig) (by show 0≤_;omega))
 obtain⟨e1,ho1⟩:∃ e1,(s.heap.update a (Obj.mapSeq fun _=>#[])).get? a=some (seqObj "list" #[] e1):=⟨_,get?_update_seq ho (fun _=>#[])⟩
 refine wpAny_bind (seqEpoch_at ho1 rfl ?_)
 refine wpAny_bind (wpAny_newTuple (hsz:=by simpa using hbig) ?_)
 refine wpAny_bind (wpAny_newList ?_)
 refine wpAny_holding ?_
 have ho6:(((s.heap.update a (Obj.mapSeq fun _=>#[])).push (seqObj "tuple" vs.toArray 0)).push (seqObj "list" #[] 0)).get? a=some (seqObj "list" #[] e1):=by
  rw[Heap.get?_push_ne _ _ _ (by rw[size_push',Heap.size_update];exact Nat.ne_of_lt (Nat.lt_succ_of_lt ha)),Heap.get?_push_ne _ _ _ (by rw[Heap.size_update];exact Nat.ne_of_lt ha)]
  exact ho1
 show wpAny (model prog w) A _ P E { s with heap:=((s.heap.update a (Obj.mapSeq fun _=>#[])).push (seqObj "tuple" vs.toArray 0)).push (seqObj "list" #[] 0) }
 dsimp only
 have hsz:vs.toArray.size=vs.length:=by simp
 have hv':∀ i,i<n→∃ v,vs[i]?=some v∧Lh (((s.heap.update a (Obj.mapSeq fun _=>#[])).push (seqObj "tuple" vs.toArray 0)).push (seqObj "list" #[] 0)) v (K0 i):=fun i hi=>by
  obtain⟨v,ev,b,o,x,t,u,m,rfl,hb,hc,hd⟩:=hv i hi
  refine⟨_,ev,b,o,x,t,u,m,rfl,?_,hc,hd⟩
  have hne:b≠a:=by
   rintro rfl
   rw[ho] at hb
   have:=Option.some.inj hb
   subst this
   exact absurd hc (by simp)
  exact Heap.get?_push_of_some _ (Heap.get?_push_of_some _ (by rw[Heap.get?_update_ne _ _ _ _ hne];exact hb))
 have hol:∀ p:Array Nat,p.size=n→(Fz vs .none p).length≤sizeLine:=fun p hp=>by
  unfold Fz
  rw[List.length_map,Array.length_toList,hp,sizeLine_eq]
  omega
 by_cases h2:vs.toArray.size<2
 ·rw[if_pos h2,if_pos h2]
  refine wpAny_bind (wpAny_pure ?_)
  rw[StateT.run_pure]
  refine wpAny_bind (wpAny_pure ?_)
  dsimp only
  obtain⟨pm,pg⟩:=AHD n
  have eo:(arrOf (SortSt.mk' general' (vs.toArray.zip vs.toArray) #[] 7 none)).map (·.2)=(Fz vs .none (List.toArray (List.range n))).toArray:=by
   show (vs.toArray.zip vs.toArray).map (·.2)=_
   rw[← hl,AGL]
   apply Array.toList_inj.mp
   have zz:∀ l:List Value,(l.zip l).map (·.2)=l:=fun l=>by
    induction l with
    | nil=>rfl
    | cons a l ih=>rw[List.zip_cons_cons,List.map_cons,ih]
   rw[Array.toList_map,Array.toList_zip]
   exact zz vs
  rw[eo]
  refine wpAny_bind (seqEpoch_at ho6 rfl ?_)
  refine wpAny_bind (listUpdate_at ho6 rfl ?_ (by show 0≤_;omega) (by rw[List.size_toArray];have:=hol (List.toArray (List.range n)) pm.sz;exact Nat.le_succ_of_le this))
  simp only[bne_self_eq_false,Bool.false_eq_true,if_false]
  exact wpAny_pure (h _ pm fun i j hij hj=>by omega)
 ·rw[if_neg h2,if_neg h2]
  have hfs:∃ fs:List Value,fs.length=vs.length∧PySem.W.KatTups (((s.heap.update a (Obj.mapSeq fun _=>#[])).push (seqObj "tuple" vs.toArray 0)).push (seqObj "list" #[] 0)) vs fs∧∀ v∈fs,∃ (k:Int) (t:Tok),v=Value.int k t:=by
   have hall:∀ v∈vs,∃ k,Lh (((s.heap.update a (Obj.mapSeq fun _=>#[])).push (seqObj "tuple" vs.toArray 0)).push (seqObj "list" #[] 0)) v k:=fun v hm=>by
    obtain⟨i,hi,e⟩:=List.getElem_of_mem hm
    obtain⟨v',ev',p⟩:=hv' i (by omega)
    rw[List.getElem?_eq_getElem hi,e] at ev'
    cases ev'
    exact⟨_,p⟩
   exact jZ vs hall
  obtain⟨fs,hfl,hkt,hfi⟩:=hfs
  refine wpAny_bind (PySem.W.kat_kind (T:=.type "int") hkt (by omega) (fun v hm=>?_) rfl ?_)
  ·obtain⟨k,t,rfl⟩:=hfi v hm
   exact .now
  have gd:∀ i,i<n→Lh (((s.heap.update a (Obj.mapSeq fun _=>#[])).push (seqObj "tuple" vs.toArray 0)).push (seqObj "list" #[] 0)) (vs.getD i Value.none) (K0 i):=fun i hi=>by
   obtain⟨v,ev,p⟩:=hv' i hi
   rw[List.getD_eq_getElem?_getD,ev]
   exact p
  refine wpAny_bind (wpAny_mono (kat_run (ks:=vs) (vs:=vs) (κ:=WY true) (G:=fun p s'=>s'={ s with heap:=((s.heap.update a (Obj.mapSeq fun _=>#[])).push (seqObj "tuple" vs.toArray 0)).push (seqObj "list" #[] 0) }∧Pm p n∧Ff K0 p n)
   (Q:=fun st' s'=>s'={ s with heap:=((s.heap.update a (Obj.mapSeq fun _=>#[])).push (seqObj "tuple" vs.toArray 0)).push (seqObj "list" #[] 0) }∧∃ p:Array Nat,Pm p n∧Ff K0 p n∧arrOf st'=p.map (kas_item (vs.toArray.zip vs.toArray))∧failedOf st'=none) rfl (by omega) (by omega)
   (fun p st' s' a1 a2 a3 a4=>⟨a4.1,p,a4.2.1,a4.2.2,a2,a3⟩) ?_) ?_ fun _ _ e=>e)
  ·rw[hl]
   have so:=z9 hK { s with heap:=((s.heap.update a (Obj.mapSeq fun _=>#[])).push (seqObj "tuple" vs.toArray 0)).push (seqObj "list" #[] 0) } (by omega)
   have so2:(kas_sort n).kasWp (HS K0 n) (fun p s'=>s'={ s with heap:=((s.heap.update a (Obj.mapSeq fun _=>#[])).push (seqObj "tuple" vs.toArray 0)).push (seqObj "list" #[] 0) }∧Pm p n∧Ff K0 p n) { s with heap:=((s.heap.update a (Obj.mapSeq fun _=>#[])).push (seqObj "tuple" vs.toArray 0)).push (seqObj "list" #[] 0) }:=by
    have fix:∀ (t:KasT (Array Nat)) {Q:Array Nat→Shared→Prop}{s0:Shared},t.kasWp (HS K0 n) Q s0→t.kasWp (HS K0 n) (fun p s'=>s'=s0∧Q p s') s0:=by
     intro t
     induction t with
     | ret a=>intro Q s0 h;exact⟨rfl,h⟩
     | ask i j k ih=>intro Q s0 h;exact⟨h.1,h.2.1,h.2.2.1,ih _ h.2.2.2⟩
    exact fix _ so
   exact sS (fun i j C hi hj hij hC=>ABT (gd i hi) (gd j hj) (fun z=>hij (hK i j hi hj z)) hC) _ so2
  rintro ⟨⟨⟩,st'⟩ s' ⟨rfl,p,pm,pa,har,hf⟩
  dsimp only
  rw[kat_snds rfl har]
  refine wpAny_bind (seqEpoch_at ho6 rfl ?_)
  refine wpAny_bind (listUpdate_at ho6 rfl ?_ (by show 0≤_;omega) (by rw[List.size_toArray];exact Nat.le_succ_of_le (hol p pm.sz)))
  rw[hf]
  simp only[bne_self_eq_false,Bool.false_eq_true,if_false]
  exact wpAny_pure (h p pm pa)
theorem ACR {r d:Addr}{kvs:List (L2.Key×Value)}{ep:Nat}{Q:Value→Shared→Prop}(hh:A.handled=none)(hv:s.heap.IsItemsView r d)(hm:s.heap.DictAt (De prog w) d kvs ep)(hl:kvs.length=n)(hN:n<64)(hK:∀ i j,i<n→j<n→K0 i=K0 j→i=j)(hk:∀ (i:Nat) (kv:L2.Key×Value),kvs[i]?=some kv→(kv.1=Sum.inl (K0 i))∧∃ (x:Int) (t:Tok),kv.2=Value.int x t) (h:∀ (h':Heap) (tk:Nat) (as:List Addr) (B:Addr) (e:Nat) (p:Array Nat),Pm p n→Ff K0 p n→(∀ b o,s.heap.get? b=some o→h'.get? b=some o)→as.length=n→as.Nodup→(∀ a∈as,s.heap.objs.size≤a)→(∀ P0 w0 H0,Ck P0 w0 H0 s.heap→H0 B=none)→(∀ b o,s.heap.get? b=some o→b≠B)→B ∉ as →
   (∀ (i:Nat) (a:Addr),as[i]?=some a→∃ (kv:Key×Value) (t:Tok),kvs[i]?=some kv∧h'.get? a=some { cls:=.type "tuple",data:=.seq #[.int (K0 i) t,kv.2] })→h'.get? B=some (seqObj "list" (Fz (as.map Value.ref) .none p).toArray e)→Q (.ref B) { s with heap:=h',toks:=tk }) :
  wpAny (model prog w) A (call (.builtin "sorted") [.ref r]) Q E s:=by
 have hbig:kvs.length≤sizeLine:=by rw[sizeLine_eq];omega
 refine Calls.call_function_entry kind_sorted plain_sorted entry_sorted (args_sorted1 _) ?_
 unfold Builtin.«sorted»
 refine wpAny_bind (m:=checkCount "sorted" 1 1 _) (wpAny_pure ?_)
 refine wpAny_bind (kdx_collect (A:=A.in1) (knd:=De prog w) (kvs:=kvs) (ep:=ep) hh hv hm hbig fun h1 tk as hk1 hal hG=>?_)
 refine wpAny_bind (wpAny_newList (hsz:=by rw[List.length_map,hal];exact hbig) ?_)
 have pairs:∀ (i:Nat) (a:Addr),as[i]?=some a→∃ (kv:Key×Value) (t:Tok),kvs[i]?=some kv∧h1.get? a=some { cls:=.type "tuple",data:=.seq #[.int (K0 i) t,kv.2] }:=fun i a ha=>by
  obtain⟨key,k,x,e1,e2,e3⟩:=hG.pairs i a ha
  obtain⟨q1,q2⟩:=hk i (k,x) e1
  have q1:k=.inl (K0 i):=q1
  subst q1
  obtain⟨t,rfl⟩:∃ t,key=.int (K0 i) t:=by
   cases key<;>first | (exact⟨_,by have:=eq_of_beq e2;rw[this]⟩) | (exact absurd e2 (by simp [De,Jq,Value.isInt])) | skip
   all_goals first | (simp [De,Jq,Value.isInt] at e2;subst e2;exact⟨_,rfl⟩) | (simp [De,Jq,Value.isInt] at e2)
  exact⟨(.inl (K0 i),x),t,e1,e3⟩
 have hold:∀ b o,h1.get? b=some o→(h1.push (seqObj "list" (as.map Value.ref).toArray 0)).get? b=some o:=fun b o e=>Heap.get?_push_of_some _ e
 have hoB:(h1.push (seqObj "list" (as.map Value.ref).toArray 0)).get? h1.objs.size=some (seqObj "list" (as.map Value.ref).toArray 0):=Heap.get?_push_size _ rfl
 have alt:∀ a∈as,a<h1.objs.size:=fun a ha=>hG.there ha
 have hno:∀ (P0:Program) (w0:World) (H0:Hp),Ck P0 w0 H0 s.heap→H0 h1.objs.size=none:=fun P0 w0 H0 ok=>(ok.kept hk1).fresh (Nat.le_refl _)
 have hle:∀ b o,s.heap.get? b=some o→b≠h1.objs.size:=fun b o e z=>by
  have:=Heap.lt_size (hk1 b o e)
  rw[z] at this
  exact Nat.lt_irrefl _ this
 show wpAny _ _ _ _ _ { s with heap:=h1.push (seqObj "list" (as.map Value.ref).toArray 0),toks:=tk }
 refine wpAny_bind (wpAny_holding (wpAny_call_entry slot_list_sort ⟨_,hoB,rfl⟩ entry_list_sort (ACl (K0:=K0) (n:=n) hoB (by rw[List.length_map,hal,hl]) hN hK (fun i hi=>?_) fun p pm pa=>⟨_,rfl,?_⟩) (args_list_sort _)))
 ·obtain⟨a,ea⟩:∃ a,as[i]?=some a:=⟨_,List.getElem?_eq_getElem (by omega)⟩
  obtain⟨kv,t,e1,e2⟩:=pairs i a ea
  obtain⟨_,x,u,e3⟩:=hk i kv e1
  rw[e3] at e2
  exact⟨.ref a,by rw[List.getElem?_map,ea];rfl,a,_,x,t,u,0,rfl,hold _ _ e2,rfl,rfl⟩
 ·obtain⟨e,he⟩:=sortedHeap_at (out:=(Fz (as.map Value.ref) .none p).toArray) hoB
  have old:∀ b o,h1.get? b=some o→(sortedHeap (h1.push (seqObj "list" (as.map Value.ref).toArray 0)) h1.objs.size (as.map Value.ref) (Fz (as.map Value.ref) .none p).toArray).get? b=some o:=fun b o q=>by
   have hlt:b<h1.objs.size:=Heap.lt_size q
   rw[sortedHeap_old (Nat.ne_of_lt hlt) (by rw[size_push'];exact Nat.lt_succ_of_lt hlt)]
   exact hold b o q
  refine wpAny_pure ⟨_,rfl,h _ tk as h1.objs.size e p pm pa (fun b o q=>old b o (hk1 b o q)) (by omega) (hG.rise.imp fun hlt=>Nat.ne_of_lt hlt) (fun a ha=>Nat.le_of_lt (hG.above a ha)) hno hle (fun z=>absurd (alt _ z) (Nat.lt_irrefl _)) (fun i a ha=>?_) he⟩
  obtain⟨kv,t,e1,e2⟩:=pairs i a ha
  exact⟨kv,t,e1,old _ _ e2⟩
end
section
variable {prog:Program}{w:World}{A:Around}{E:Value→Shared→Prop}{s:Shared}{d:Addr}{n:Nat}{P:Nat→Value→Prop}{OK:Heap→Prop}
theorem ABf {Q:List Value→Shared→Prop}(K:PySem.W.KdlSrc prog w "dict" d d n P OK)(hh:A.handled=none)(hok:OK s.heap)(hn:n≤sizeLine)(hQ:∀ h' tk vs,(∀ b o,s.heap.get? b=some o→h'.get? b=some o)→s.heap.objs.size<h'.objs.size→ItemsOf P vs.toArray n→Q vs { s with heap:=h',toks:=tk }):wpAny (model prog w) A (collect (.ref d)) Q E s:=by
 unfold collect
 refine wpAny_bind (wpAny_runValue (codeAny_builtin PySem.F.entry_proto_collect ?_))
 rw[Around.under_plainId PySem.F.plain_proto_collect _]
 show wpAny _ _ (newList [] >>= fun l=>again (.builtin "list.__iadd__" ⟨[l,.ref d],[]⟩)) _ _ s
 refine wpAny_bind (wpAny_newObj_type (wpAny_pure ⟨plainId_quiet PySem.F.plain_list_iadd _,codeAny_builtin PySem.F.entry_list_iadd ?_⟩))
 rw[Around.under_plainId PySem.F.plain_list_iadd _]
 have hlt:=K.there _ hok
 have hS:(s.heap.push { cls:=.type "list",data:=.seq ([]:List Value).toArray }).get? s.heap.objs.size=some { cls:=.type "list",data:=.seq ([]:List Value).toArray }:=Heap.get?_push_size _ rfl
 show wpAny _ _ (Builtin.List.listExtendWith (.ref s.heap.objs.size) (.ref d) (.ref s.heap.objs.size)) _ _ _
 refine PySem.W.kdl_extend (A:=A) (R:=fun r s'=>match r with
   | Except.ok (Flow.ret v)=>wpAny (model prog w) A (match v with
     | Value.ref a=>do
      let o ← load a
      match o.data with
      | Data.seq xs _=>pure xs.toList
      | _=>unsupported "internal:collect"
     | _=>unsupported "internal:collect") Q E s'
   | Except.ok _=>False
   | Except.error e=>E e s') (s:={ s with heap:=s.heap.push { cls:=.type "list",data:=.seq ([]:List Value).toArray } }) K hh (K.keep _ _ hok fun b _ o e=>Heap.get?_push_of_some _ e) s.heap.objs.size (Nat.ne_of_gt hlt.1) (Nat.ne_of_gt hlt.1) _ 0 hS (fun h' tk acc' c' hk hS' hacc=>?_) hn
 show wpAny _ A (load s.heap.objs.size >>= _) _ _ _
 refine wpAny_bind (wpAny_load hS' ?_)
 refine wpAny_pure (hQ h' tk acc'.toList (fun b o e=>hk b o (Nat.ne_of_lt (Heap.lt_size e)) (Heap.get?_push_of_some _ e)) (Heap.lt_size hS') (by simpa using hacc))
theorem sY:∀ (vs:List Value) (ns:List Int) (j:Nat),vs.length=ns.length→(∀ (i:Nat) (v:Value),vs[i]?=some v→∃ (k:Int) (t:Tok),ns[i]?=some k∧v=Value.int k t)→IntsAre vs ns
 | [],[],_,_,_=>.nil
 | [],_::_,_,h,_=>by simp at h
 | _::_,[],_,h,_=>by simp at h
 | v::vs,m::ns,j,h,hv=>by
  obtain⟨k,t,e,rfl⟩:=hv 0 v rfl
  cases e
  exact .cons _ t (sY vs ns (j+1) (by simpa using h) fun i u hu=>by simpa using hv (i+1) u (by simpa using hu))
theorem AEa {Q:Value→Shared→Prop}{ns:List Int}(K:PySem.W.KdlSrc prog w "dict" d d n P OK)(hh:A.handled=none)(hok:OK s.heap)(hP:∀ (i:Nat) (v:Value),P i v→∃ (k:Int) (t:Tok),ns[i]?=some k∧v=Value.int k t)(hl:ns.length=n)(h64:n<64)(hQ:∀ (a:Addr) (h':Heap) (tk:Nat) (vs:List Value) (ns':List Int) (e:Nat),(∀ b o,s.heap.get? b=some o→h'.get? b=some o)→s.heap.objs.size≤a→h'.get? a=some (seqObj "list" vs.toArray e)→IntsAre vs ns'→ns'.Perm ns→ns'.Pairwise (·≤·)→Q (.ref a) { s with heap:=h',toks:=tk }) :
  wpAny (model prog w) A (call (.builtin "sorted") [.ref d]) Q E s:=by
 refine Calls.call_function_entry kind_sorted plain_sorted entry_sorted (args_sorted1 _) ?_
 unfold Builtin.«sorted»
 refine wpAny_bind (m:=checkCount "sorted" 1 1 _) (wpAny_pure ?_)
 refine wpAny_bind (ABf (A:=A.in1) K hh hok (by rw[sizeLine_eq];omega) fun h' tk vs hk hs hit=>?_)
 refine wpAny_bind (wpAny_newList (hsz:=by have:=hit.1;rw[List.size_toArray] at this;rw[sizeLine_eq];omega) ?_)
 have hI:IntsAre vs ns:=sY vs ns 0 (by have:=hit.1;rw[List.size_toArray] at this;omega) fun i v hv=>by
  have:=hP i v (hit.2 i v (by simpa using hv))
  simpa using this
 have hoL:(h'.push (seqObj "list" vs.toArray 0)).get? h'.objs.size=some (seqObj "list" vs.toArray 0):=Heap.get?_push_size _ rfl
 have hlen:vs.length<64:=by have:=hit.1;rw[List.size_toArray] at this;omega
 refine wpAny_bind (wpAny_holding (wpAny_call_entry slot_list_sort ⟨_,hoL,rfl⟩ entry_list_sort (list_sort_tree hoL hI hlen fun out ns' a1 a2 a3=>⟨_,rfl,?_⟩) (args_list_sort _)))
 obtain⟨e,he⟩:=sortedHeap_at (out:=out) hoL
 refine wpAny_pure ⟨_,rfl,hQ h'.objs.size _ tk out.toList ns' e (fun b o q=>?_) (Nat.le_of_lt hs) (by simpa using he) a1 a2 a3⟩
 have hlt:b<h'.objs.size:=Heap.lt_size (hk b o q)
 rw[sortedHeap_old (Nat.ne_of_lt hlt) (by rw[size_push'];exact Nat.lt_succ_of_lt hlt)]
 exact Heap.get?_push_of_some _ (hk b o q)
end
section
variable {X:Cx}
theorem gO {kvs:List (Key×V)}{vs:List (Key×Value)}(h:KV kvs vs):vs.map (·.1)=kvs.map (·.1):=by
 induction h with
 | nil=>rfl
 | cons r _ ih=>simp only[List.map_cons,ih,r.1]
theorem zT (hh:X.A.handled=none):Gw X (.builtin "sorted") (fun xs H Q=>∃ (d:Addr) (kvs:List (Key×V)) (ns:List Int),xs=[.ref d]∧H d=some (.dK kvs)∧kvs.map (·.1)=ns.map Sum.inl∧ns.length<64 ∧
  ∀ (l:Addr) (ns':List Int),(kvs.map (·.1)).Nodup→H l=none→ns'.Perm ns→ns'.Pairwise (·≤·)→Q (.ref l) (upd H l (.lst (ns'.map V.int)))):=by
 intro pins s σ H xs us Q I r h
 obtain⟨d,kvs,ns,rfl,hH,hk,h64,q⟩:=h
 obtain⟨u,rfl,rx⟩:=vals1 r
 cases rx
 obtain⟨z,lo,vs,kv,ob,es,ep,e,c⟩:=(show Ej X.prog X.w H s.heap d (.dK kvs) from I.hok d _ hH)
 have hm:=gO kv
 have hnd:(kvs.map (·.1)).Nodup:=by rw[← hm];exact c.2.2.2.2
 have hvl:vs.length=ns.length:=by
  have:=congrArg List.length (hm.trans hk)
  simpa using this
 refine AEa (ns:=ns) (PySem.W.kdl_dict (knd:=De X.prog X.w) (kvs:=vs) (ep:=ep) lo) hh ⟨ob,es,e,c⟩ (fun i v hv=>?_) hvl.symm (by omega) fun a h' tk us' ns' ec hkk ha he hI hp hs=>?_
 ·obtain⟨k,x,hi,hv⟩:=hv
  have h1:(vs.map (·.1))[i]?=some k:=by rw[List.getElem?_map,hi];rfl
  rw[hm,hk,List.getElem?_map] at h1
  cases hn:ns[i]? with
  | none=>rw[hn] at h1;cases h1
  | some m =>
   rw[hn] at h1
   have h2:Sum.inl m=k:=Option.some.inj h1
   subst h2
   refine⟨m,?_⟩
   have h3:Value.isInt m v=true:=hv
   cases v with
   | int j t =>
    have:j=m:=by simpa [Value.isInt] using h3
    subst this
    exact⟨t,rfl,rfl⟩
   | _=>simp [Value.isInt] at h3
 ·have hvals:Vals (ns'.map V.int) us':=by
   clear he hp hs
   induction hI with
   | nil=>exact .nil
   | cons m t _ ih=>exact .cons ⟨t,rfl⟩ ih
  have hlen:(ns'.map V.int).length≤sizeLine:=by
   rw[List.length_map,hp.length_eq,sizeLine_eq]
   omega
  exact⟨.ref a,_,I.laid (t':=tk) (o:=.lst (ns'.map V.int)) hkk ha ⟨hlen,us',ec,hvals,he⟩,rfl,q a ns' hnd (I.hok.fresh ha) hp hs⟩
end
noncomputable def Dw {α:Type}(kvs:List (Int×α))(k:Int):Option α:=(kvs.find? fun kv=>decide (kv.1=k)).map (·.2)
noncomputable def Dh {α:Type}(kvs:List (Int×α))(k:Int)(v:α):List (Int×α):=if (kvs.any fun kv=>decide (kv.1=k))=true then kvs.map fun kv=>if kv.1=k then (kv.1,v) else kv else kvs++[(k,v)]
noncomputable def GZ {α:Type}(kvs:List (Int×α))(k:Int):List (Int×α):=kvs.filter fun kv=>decide (kv.1≠k)
noncomputable def sortI {α:Type}(kvs:List (Int×α)):List (Int×α):=kvs.mergeSort fun a b=>decide (a.1≤b.1)
noncomputable def JV {α:Type}(xs:List (Int×α)):Prop:=xs.Pairwise fun a b=>a.1<b.1
theorem Pa {α:Type}:∀ {ys xs:List (Int×α)},JV xs→JV ys→(∀ x∈xs,x∈ys)→xs.Sublist ys
 | _,[],_,_,_=>List.nil_sublist _
 | [],x::xs,_,_,h=>absurd (h x Bf) (by simp)
 | y::ys,x::xs,hx,hy,h=>by
  have hx':=List.pairwise_cons.mp hx
  have hy':=List.pairwise_cons.mp hy
  rcases List.mem_cons.mp (h x Bf) with e | e
  ·subst e
   refine .cons₂ _ (Pa hx'.2 hy'.2 fun z hz=>?_)
   rcases List.mem_cons.mp (h z (Bt hz)) with e | e
   ·exact absurd (hx'.1 z hz) (by rw[e];exact Int.lt_irrefl _)
   ·exact e
  ·have hlt:=hy'.1 x e
   refine .cons _ (Pa hx hy'.2 fun z hz=>?_)
   rcases List.mem_cons.mp (h z hz) with e' | e'
   ·rcases List.mem_cons.mp hz with e2 | e2
    ·rw[e2];exact e
    ·have:=hx'.1 z e2
     rw[e'] at this
     omega
   ·exact e'
theorem nF {α:Type}{xs ys:List (Int×α)}(hx:JV xs)(hy:JV ys)(h:∀ x∈xs,x∈ys)(hl:ys.length≤xs.length):xs=ys :=
 (Pa hx hy h).eq_of_length_le hl
theorem sortI_perm {α:Type}(kvs:List (Int×α)):(sortI kvs).Perm kvs:=List.mergeSort_perm _ _
theorem Rw {α:Type}(kvs:List (Int×α)):(sortI kvs).length=kvs.length:=(sortI_perm kvs).length_eq
theorem Wj {α:Type}:∀ {xs:List (Int×α)},xs.Pairwise (fun a b=>a.1≤b.1)→(xs.map (·.1)).Nodup→JV xs
 | [],_,_=>.nil
 | x::xs,h,n=>by
  have h':=List.pairwise_cons.mp h
  have n':=List.nodup_cons.mp n
  refine List.pairwise_cons.mpr ⟨fun y hy=>?_,Wj h'.2 n'.2⟩
  have h1:=h'.1 y hy
  have:x.1≠y.1:=fun z=>n'.1 (List.mem_map.mpr ⟨y,hy,z.symm⟩)
  omega
theorem bF {α:Type}{kvs:List (Int×α)}(n:(kvs.map (·.1)).Nodup):JV (sortI kvs):=by
 refine Wj ?_ (((sortI_perm kvs).map _).nodup_iff.mpr n)
 have:=List.pairwise_mergeSort (le:=fun (a b:Int×α)=>decide (a.1≤b.1)) (fun a b c h1 h2=>by
  have h1:=of_decide_eq_true h1
  have h2:=of_decide_eq_true h2
  exact decide_eq_true (Int.le_trans h1 h2)) (fun a b=>by
  by_cases h:a.1≤b.1
  ·simp [h]
  ·simp [show b.1≤a.1 by omega]) kvs
 exact this.imp fun h=>of_decide_eq_true h
theorem wU {α:Type}{kvs xs:List (Int×α)}(n:(kvs.map (·.1)).Nodup)(hx:JV xs)(h:∀ p,p∈xs ↔ p∈kvs):sortI kvs=xs:=by
 have s1:=bF n
 have a:=Pa s1 hx fun p hp=>(h p).mpr ((sortI_perm kvs).mem_iff.mp hp)
 have b:=Pa hx s1 fun p hp=>(sortI_perm kvs).mem_iff.mpr ((h p).mp hp)
 exact a.eq_of_length_le b.length_le
theorem v8 {α:Type}{kvs:List (Int×α)}{ns:List Int}(n:(kvs.map (·.1)).Nodup)(hp:ns.Perm (kvs.map (·.1)))(hs:ns.Pairwise (·≤·)):ns=(sortI kvs).map (·.1):=by
 have e:∀ l:List Int,(l.map fun i=>(i,())).map (·.1)=l:=fun l=>by rw[List.map_map];exact List.map_id _
 have r1:JV (ns.map fun i=>(i,())):=Wj (List.pairwise_map.mpr hs) (by rw[e];exact hp.nodup_iff.mpr n)
 have r2:JV (((sortI kvs).map (·.1)).map fun i=>(i,())):=by
  refine List.pairwise_map.mpr (List.pairwise_map.mpr ?_)
  exact bF n
 have:=nF r1 r2 (fun x hx=>by
  obtain⟨i,hi,rfl⟩:=List.mem_map.mp hx
  have:=hp.mem_iff.mp hi
  have:=((sortI_perm kvs).map (·.1)).mem_iff.mpr this
  exact List.mem_map_of_mem this) (by simp [Rw,hp.length_eq])
 have:=congrArg (List.map (·.1)) this
 rw[e,e] at this
 exact this
theorem QJ {α:Type}{vs:List α}{d:α}{p:Array Nat}{i:Nat}(hi:i<p.size):(Fz vs d p)[i]?=some (vs.getD (gN p i) d):=by
 unfold Fz
 rw[List.getElem?_map,Array.getElem?_toList,ACg hi]
 rfl
theorem J3 {α:Type}(vs:List α)(d:α)(p:Array Nat):(Fz vs d p).length=p.size:=by simp [Fz]
theorem AIb {kvs:List (Int×Int)}{n:Nat}{K0:Nat→Int}{p:Array Nat}(hl:kvs.length=n)(n0:(kvs.map (·.1)).Nodup)(hk:∀ (i:Nat) (kv:Int×Int),kvs[i]?=some kv→kv.1=K0 i)(pm:Pm p n)(pa:Ff K0 p n):Fz kvs (0,0) p=sortI kvs:=by
 have hg:∀ i,i<n→∃ kv,kvs[gN p i]?=some kv∧(Fz kvs (0,0) p)[i]?=some kv∧kv.1=K0 (gN p i):=fun i hi=>by
  have h1:=pm.lt i hi
  have h2:kvs[gN p i]?=some kvs[gN p i]:=List.getElem?_eq_getElem (by omega)
  refine⟨_,h2,?_,hk _ _ h2⟩
  rw[QJ (by rw[pm.sz];exact hi),List.getD_eq_getElem?_getD,h2]
  rfl
 refine nF ?_ (bF n0) (fun x hx=>?_) (by rw[Rw,J3,pm.sz,hl];exact Nat.le_refl _)
 ·refine List.pairwise_iff_getElem.mpr fun i j hi hj hij=>?_
  rw[J3,pm.sz] at hi hj
  obtain⟨x,_,e1,k1⟩:=hg i hi
  obtain⟨y,_,e2,k2⟩:=hg j hj
  rw[List.getElem?_eq_some_iff] at e1 e2
  obtain⟨_,e1⟩:=e1
  obtain⟨_,e2⟩:=e2
  rw[e1,e2,k1,k2]
  exact pa i j hij hj
 ·obtain⟨i,hi,e⟩:=List.getElem_of_mem hx
  rw[J3,pm.sz] at hi
  obtain⟨y,h1,h2,_⟩:=hg i hi
  rw[List.getElem?_eq_some_iff] at h2
  obtain⟨_,h2⟩:=h2
  rw[e] at h2
  subst h2
  exact (sortI_perm kvs).mem_iff.mpr (List.mem_of_getElem? h1)
theorem wJ {kvs:List (L2.Key×V)}{vs:List (L2.Key×Value)}(h:KV kvs vs):∀ {i:Nat}{x:L2.Key×V},kvs[i]?=some x→∃ y,vs[i]?=some y∧x.1=y.1∧RelV x.2 y.2:=by
 induction h with
 | nil=>intro i x h;simp at h
 | cons r _ ih =>
  intro i x h
  cases i with
  | zero=>simp at h;subst h;exact⟨_,rfl,r.1,r.2⟩
  | succ i=>exact ih (by simpa using h)
noncomputable def Nk (v d:Addr):Heap→Prop:=fun h=>h.IsItemsView v d
section
variable {X:Cx}{pins:List (Addr×Obj)}{σ:St}{H H':Hp}{s:Shared}{h':Heap}
theorem Inv.wW {t':Nat}(I:Inv X pins σ H s)(k:∀ b u,s.heap.get? b=some u→h'.get? b=some u)(hs:Aj H H')(hn:∀ b o,s.heap.get? b=some o→H b=none→H' b=none)(hok:Ck X.prog X.w H' h'):Inv X pins σ H' { s with heap:=h',toks:=t' } :=
 I.un ⟨fun b u q _ _ _=>k b u q,fun b u q _ _ _=>⟨u.slots,k b u q⟩,fun b u q n _=>hn b u q n,fun b u q _=>⟨u,k b u q⟩,fun b xs q=>hs _ _ q,fun b u xs q=>hs _ _ q,fun b ps q=>⟨#[],by rw[hs _ _ q];simp⟩⟩ hok
noncomputable def Wv:V→List V→Hp→VK→Prop:=fun x vs H Q=>∃ a kvs,x=.ref a∧vs=[]∧H a=some (.dK kvs)∧∀ v,H v=none→Q (.ref v) (upd H v (.ext (Nk v a)))
theorem yW:Om X "dict.items" Wv:=by
 intro pins s σ H x xs v us Q I rx rv h
 obtain⟨a,kvs,rfl,rfl,hH,q⟩:=h
 cases rx
 cases rv
 obtain⟨_,lo,vs,_,hD⟩:=U4 I.hok hH
 refine call_meetsIn PySem.F.slot_dict_items hD.typeIs PySem.F.entry_dict_items (PySem.F.args_dict_items_1 _) (meets_dict_items (De X.prog X.w) a lo) ⟨⟨vs,hD⟩,?_⟩
 refine⟨.ref _,_,I.laid (t':=s.toks) (o:=.ext (Nk s.heap.objs.size a)) (fun b o e=>Heap.get?_push_of_some _ e) (Nat.le_refl _) ?_,rfl,q _ (I.hok.fresh (Nat.le_refl _))⟩
 exact⟨⟨_,Heap.get?_push_size _ rfl,rfl,rfl⟩,⟨_,Heap.get?_push_size _ rfl⟩,fun h1 h2 ⟨o,e,z⟩ k=>⟨o,k _ e,z⟩⟩
theorem AJC (hh:X.A.handled=none):Gw X (.builtin "sorted") (fun xs H Q=>∃ (v a:Addr) (ps:List (Int×Int)),xs=[.ref v]∧H v=some (.ext (Nk v a))∧H a=some (.dK (ps.map fun p=>(Sum.inl p.1,V.int p.2)))∧ps.length<64∧((ps.map (·.1)).Nodup →
  ∀ (l:Addr) (H':Hp) (qs:List Addr),Aj H H'→H l=none→(∀ q∈qs,H q=none)→H' l=some (.lst (qs.map V.ref))→qs.length=ps.length→(∀ (i:Nat) (q:Addr) (kv:Int×Int),qs[i]?=some q→(sortI ps)[i]?=some kv→H' q=some (.tup [.int kv.1,.int kv.2]))→Q (.ref l) H')):=by
 intro pins s σ H xs us Q I r h
 obtain⟨v,d,ps,rfl,hv,hH,h64,q⟩:=h
 obtain⟨u,rfl,rx⟩:=vals1 r
 cases rx
 obtain⟨z,lo,vs,kv,dof⟩:=U4 I.hok hH
 obtain⟨ob,es,ep,e0,x1,x2,x3,x4,hnd⟩:=dof
 have AI6:s.heap.IsItemsView v d:=(I.hok v _ hv).1
 have hm:=gO kv
 have hkeys:vs.map (·.1)=ps.map fun p=>(Sum.inl p.1:L2.Key):=by
  rw[hm,List.map_map]
  rfl
 have hvl:vs.length=ps.length:=by
  have:=congrArg List.length hkeys
  simpa using this
 have nd:(ps.map (·.1)).Nodup:=by
  have h2:(ps.map fun p=>(Sum.inl p.1:L2.Key)).Nodup:=by rw[← hkeys];exact hnd
  have h3:((ps.map (·.1)).map (Sum.inl:Int→L2.Key)).Nodup:=by rw[List.map_map];exact h2
  exact (List.pairwise_map.mp h3).imp fun hne e=>hne (by rw[e])
 have tX:∀ (i:Nat) (kx:L2.Key×Value),vs[i]?=some kx→∃ pr,ps[i]?=some pr∧kx.1=Sum.inl pr.1∧∃ t,kx.2=Value.int pr.2 t:=fun i kx hx=>by
  have hi:i<ps.length:=by rw[← hvl];exact (List.getElem?_eq_some_iff.mp hx).1
  refine⟨ps[i],List.getElem?_eq_getElem hi,?_⟩
  obtain⟨kx',e,r1,r2⟩:=wJ kv (i:=i) (x:=(Sum.inl ps[i].1,V.int ps[i].2)) (by rw[List.getElem?_map,List.getElem?_eq_getElem hi];rfl)
  rw[hx] at e
  cases e
  obtain⟨t,ht⟩:=r2
  exact⟨r1.symm,t,ht⟩
 let K0:Nat→Int:=fun i=>(ps.getD i (0,0)).1
 have hK0:∀ (i:Nat) (pr:Int×Int),ps[i]?=some pr→pr.1=K0 i:=fun i pr e=>by
  show _=(ps.getD i (0,0)).1
  rw[List.getD_eq_getElem?_getD,e]
  rfl
 refine ACR (K0:=K0) (n:=ps.length) (r:=v) (d:=d) (kvs:=vs) (ep:=ep) hh AI6 ⟨ob,es,e0,x1,x2,x3,x4,hnd⟩ hvl h64 (fun i j hi hj e=>?_) (fun i kx hx=>?_) fun h' tk as B ec p pm pa hk hal asn asf hBn hBf hBa tups hB=>?_
 ·have h1:=List.pairwise_iff_getElem.mp nd
  rcases Nat.lt_trichotomy i j with hl | hl | hl
  ·have:=h1 i j (by simpa using hi) (by simpa using hj) hl
   rw[List.getElem_map,List.getElem_map,hK0 i _ (List.getElem?_eq_getElem hi),hK0 j _ (List.getElem?_eq_getElem hj)] at this
   exact absurd e this
  ·exact hl
  ·have:=h1 j i (by simpa using hj) (by simpa using hi) hl
   rw[List.getElem_map,List.getElem_map,hK0 i _ (List.getElem?_eq_getElem hi),hK0 j _ (List.getElem?_eq_getElem hj)] at this
   exact absurd e.symm this
 ·obtain⟨pr,e1,e2,t,e3⟩:=tX i kx hx
  exact⟨by rw[e2,hK0 i pr e1],_,_,e3⟩
 ·have AJZ:=AIb (kvs:=ps) (n:=ps.length) rfl nd hK0 pm pa
  let qs:List Addr:=Fz as 0 p
  let D0:Hp:=fun b=>if b=B then some (.lst (qs.map V.ref)) else if b∈as then some (.tup [.int (ps.getD (as.idxOf b) (0,0)).1,.int (ps.getD (as.idxOf b) (0,0)).2]) else H b
  have fr:∀ a∈as,H a=none:=fun a ha=>I.hok.fresh (asf a ha)
  have hBH:H B=none:=hBn _ _ _ I.hok
  have same:Aj H D0:=fun b o e=>by
   have n1:b≠B:=fun z=>by rw[z,hBH] at e;cases e
   have n2:b ∉ as:=fun z=>by rw[fr b z] at e;cases e
   show (if b=B then _ else if b∈as then _ else H b)=_
   rw[if_neg n1,if_neg n2]
   exact e
  have dB:D0 B=some (.lst (qs.map V.ref)):=if_pos rfl
  have das:∀ (i:Nat) (a:Addr),as[i]?=some a→∃ pr,ps[i]?=some pr∧D0 a=some (.tup [.int pr.1,.int pr.2])∧∃ t t',h'.get? a=some { cls:=.type "tuple",data:=.seq #[.int pr.1 t,.int pr.2 t'] }:=fun i a ha=>by
   obtain⟨kx,t,e1,e2⟩:=tups i a ha
   obtain⟨pr,f1,f2,t',f3⟩:=tX i kx e1
   have hm':a∈as:=List.mem_of_getElem? ha
   have hi:i<as.length:=(List.getElem?_eq_some_iff.mp ha).1
   have hix:as.idxOf a=i:=by
    have:=(List.getElem?_eq_some_iff.mp ha).2
    rw[← this]
    exact asn.idxOf_getElem i hi
   refine⟨pr,f1,?_,t,t',by rw[e2,f3,← hK0 i pr f1]⟩
   show (if a=B then _ else if a∈as then _ else H a)=_
   rw[if_neg (fun z=>hBa (by rw[← z];exact hm')),if_pos hm',hix,List.getD_eq_getElem?_getD,f1]
   rfl
  have hqs:∀ (i:Nat) (q:Addr),qs[i]?=some q→∃ j,j<as.length∧as[j]?=some q∧j=gN p i∧i<ps.length:=fun i q hq=>by
   have hi:i<ps.length:=by
    have:=(List.getElem?_eq_some_iff.mp hq).1
    rw[J3,pm.sz] at this
    exact this
   have h1:=pm.lt i hi
   rw[QJ (by rw[pm.sz];exact hi),List.getD_eq_getElem?_getD,List.getElem?_eq_getElem (show gN p i<as.length by omega)] at hq
   exact⟨gN p i,by omega,by rw[List.getElem?_eq_getElem (show gN p i<as.length by omega)];exact hq,rfl,hi⟩
  have eo:Fz (as.map Value.ref) .none p=qs.map Value.ref:=by
   apply List.ext_getElem?
   intro i
   rw[List.getElem?_map]
   by_cases hi:i<p.size
   ·have h1:=pm.lt i (by rw[← pm.sz];exact hi)
    rw[QJ hi,QJ hi,List.getD_eq_getElem?_getD,List.getD_eq_getElem?_getD,List.getElem?_map,List.getElem?_eq_getElem (show gN p i<as.length by omega)]
    rfl
   ·rw[List.getElem?_eq_none (by rw[J3];omega),List.getElem?_eq_none (by rw[J3];omega)]
    rfl
  rw[eo] at hB
  have hok:Ck X.prog X.w D0 h':=fun b o e=>by
   by_cases n1:b=B
   ·subst n1
    rw[dB] at e
    cases e
    refine⟨?_,qs.map Value.ref,ec,?_,hB⟩
    ·rw[List.length_map,J3,pm.sz,sizeLine_eq];omega
    ·clear hB eo dB
     generalize qs=l
     induction l with
     | nil=>exact .nil
     | cons a l ih=>exact .cons rfl ih
   ·by_cases n2:b∈as
    ·obtain⟨i,hi,e1⟩:=List.getElem_of_mem n2
     have ha:as[i]?=some b:=by rw[List.getElem?_eq_getElem hi,e1]
     obtain⟨pr,f1,f2,t,t',f3⟩:=das i b ha
     rw[f2] at e
     cases e
     exact⟨by rw[sizeLine_eq];simp,[.int pr.1 t,.int pr.2 t'],.cons ⟨t,rfl⟩ (.cons ⟨t',rfl⟩ .nil),⟨_,f3,rfl,_,rfl⟩⟩
    ·have e':H b=some o:=by
      have:(if b=B then _ else if b∈as then _ else H b)=some o:=e
      rw[if_neg n1,if_neg n2] at this
      exact this
     exact (I.hok b o e').Kg (fun c w' _ y=>hk c w' y) (fun c y=>same _ _ y) fun c xs y=>same _ _ y
  refine⟨.ref B,D0,I.wW hk same (fun b o e n=>?_) hok,rfl,?_⟩
  ·show (if b=B then _ else if b∈as then _ else H b)=none
   rw[if_neg (hBf b o e),if_neg (fun z=>absurd (Heap.lt_size e) (Nat.not_lt.mpr (asf b z)))]
   exact n
  ·refine q nd B D0 qs same hBH (fun x hx=>?_) dB (by rw[J3,pm.sz]) fun i x kx hx hkx=>?_
   ·obtain⟨i,hi,e1⟩:=List.getElem_of_mem hx
    obtain⟨j,hj,e2,_⟩:=hqs i x (by rw[List.getElem?_eq_getElem hi,e1])
    exact fr x (List.mem_of_getElem? e2)
   ·obtain⟨j,hj,e2,ej,hi⟩:=hqs i x hx
    obtain⟨pr,f1,f2,_⟩:=das j x e2
    rw[← AJZ,QJ (by rw[pm.sz];exact hi),List.getD_eq_getElem?_getD,← ej,f1] at hkx
    cases hkx
    exact f2
end
noncomputable def MN:Sl→Option (Addr×Cn)
 | .tr a c=>some (a,c)
 | _=>none
theorem Vc {s:Sl}{q:Addr×Cn}(h:MN s=some q):s=.tr q.1 q.2:=by
 cases s<;>cases h
 rfl
noncomputable def lE:Cn→Option (List (Int×D))
 | .dct kvs=>some kvs
 | _=>none
noncomputable def cC:Cn→Option (List D)
 | .lst ds=>some ds
 | _=>none
theorem Head.ref {K:Frag}{G H:Hp}{v:Option V}{a:Addr}{c:Cn}{B:List Addr}(h:Head K G H v (.tr a c) B):v=some (.ref a):=by cases h<;>rfl
theorem ABW {c:Cn}{q:List (Int×D)}(h:lE c=some q):c=.dct q:=by
 cases c<;>cases h
 rfl
section
variable {K:Frag}{H0:Hp}{O0:List Addr}{G:Hp}{σ:St}{H H':Hp}{ρ:Af}
theorem Gi.cons {v:V}{d:D}{vs:List V}{ds:List D}(a:Ey K H0 O0 G σ H ρ v (.sh d))(b:Gi K H0 O0 G σ H ρ vs ds):Gi K H0 O0 G σ H ρ (v::vs) (d::ds):=by
 obtain⟨O,P,s0,n,nd,g,sl,hp,r⟩:=a.ex
 subst hp
 obtain⟨O',s0',n',nd',g',sl',r'⟩:=b.ex
 obtain rfl:=sl.uniq sl'
 exact⟨O,s0,n,nd,g,sl,.cons r r'⟩
end
noncomputable def cN (K:Frag)(ta:TA)(r:Af→Option (List D)):Prop:=∀ (H0:Hp) (O0:List Addr) (G:Hp) (σ:St) (H:Hp) (ρ:Af) (ds:List D) (Q:List V→Hp→Prop),Bu O0 H0→Bk K H0 O0 G σ H ρ→r ρ=some ds →
 (∀ vs H',Aj H H'→Gi K H0 O0 G σ H' ρ vs ds→Q vs H')→ta σ H Q
structure GQ (X:Cx)(K:Frag)(es:List Expr)(ta:TA)(r:Af→Option (List D)):Prop where
 pe:PA X es ta
 pu:cN K ta r
noncomputable def Jo:Af→Option (List D):=fun _=>some []
noncomputable def DP (vf:Af→Option Sl)(r:Af→Option (List D)):Af→Option (List D):=fun ρ=>(vf ρ).bind fun s=>(Gy s).bind fun d=>(r ρ).bind fun ds=>some (d::ds)
noncomputable def oM (K:Frag)(ta:TA)(i:Nat)(r:Af→Option (List D×List D)):Prop:=∀ (H0:Hp) (O0:List Addr) (G:Hp) (σ:St) (H:Hp) (ρ:Af) (v:V) (x:List D×List D) (Q:List V→Hp→Prop),Bu O0 H0→Bk K H0 O0 G σ H ρ→σ[i]?=some (some v)→r ρ=some x →
 (∀ us ws H',Aj H H'→us.length=x.1.length→Gi K H0 O0 G σ H' ρ (us++ws) (x.1++x.2)→Q (us++v::ws) H')→ta σ H Q
structure HD (X:Cx)(K:Frag)(es:List Expr)(ta:TA)(i:Nat)(r:Af→Option (List D×List D)):Prop where
 pe:PA X es ta
 pu:oM K ta i r
noncomputable def Py (r:Af→Option (List D)):Af→Option (List D×List D):=fun ρ=>(r ρ).bind fun ds=>some ([],ds)
noncomputable def Il (vf:Af→Option Sl)(r:Af→Option (List D×List D)):Af→Option (List D×List D):=fun ρ=>(vf ρ).bind fun s=>(Gy s).bind fun d=>(r ρ).bind fun x=>some (d::x.1,x.2)
section
variable {X:Cx}{K:Frag}{e:Expr}{es:List Expr}{te:TE}{ta:TA}{vf:Af→Option Sl}{r:Af→Option (List D)}{rr:Af→Option (List D×List D)}{i:Nat}
theorem AI8:GQ X K [] Fw Jo:=⟨Ho,by
 intro H0 O0 G σ H ρ ds Q ok t hf q
 cases hf
 obtain⟨O,s0,n,nd,g,sl⟩:=t.ex
 exact q [] H (Aj.refl _) ⟨O,s0,n,nd,g,sl,.nil⟩⟩
theorem Uh (he:PE X e te)(pv:Dg K te vf)(hr:GQ X K es ta r)(hs:starEach (e::es) X.env=(false,eval e X.env)::starEach es X.env:=by rfl):GQ X K (e::es) (Dz te ta) (DP vf r):=⟨GK he hr.pe hs,by
 intro H0 O0 G σ H ρ ds Q ok t hf q
 obtain⟨s,e1,hf⟩:=Ag hf
 obtain⟨d,e2,hf⟩:=Ag hf
 obtain⟨dd,e3,hf⟩:=Ag hf
 cases hf
 rw[Jf e2] at e1
 refine pv H0 O0 G σ H ρ _ _ ok t e1 fun v H1 s1 sv=>?_
 exact hr.pu H0 O0 G σ H1 ρ dd _ ok sv.str e3 fun vs H2 s2 sw=>q _ _ (s1.trans s2) (Gi.cons (sv.grow s2) sw)⟩
theorem AHJ (he:PE X e (CJ i))(hr:GQ X K es ta r)(hs:starEach (e::es) X.env=(false,eval e X.env)::starEach es X.env:=by rfl):HD X K (e::es) (Dz (CJ i) ta) i (Py r):=⟨GK he hr.pe hs,by
 intro H0 O0 G σ H ρ v x Q ok t hv hf q
 obtain⟨dd,e3,hf⟩:=Ag hf
 cases hf
 exact⟨v,hv,hr.pu H0 O0 G σ H ρ dd _ ok t e3 fun vs H2 s2 sw=>q [] vs _ s2 rfl sw⟩⟩
theorem gR (he:PE X e te)(pv:Dg K te vf)(hr:HD X K es ta i rr)(hs:starEach (e::es) X.env=(false,eval e X.env)::starEach es X.env:=by rfl):HD X K (e::es) (Dz te ta) i (Il vf rr):=⟨GK he hr.pe hs,by
 intro H0 O0 G σ H ρ v0 x Q ok t hv hf q
 obtain⟨s,e1,hf⟩:=Ag hf
 obtain⟨d,e2,hf⟩:=Ag hf
 obtain⟨dd,e3,hf⟩:=Ag hf
 cases hf
 rw[Jf e2] at e1
 refine pv H0 O0 G σ H ρ _ _ ok t e1 fun v H1 s1 sv=>?_
 exact hr.pu H0 O0 G σ H1 ρ v0 dd _ ok sv.str hv e3 fun us ws H2 s2 hl sw=>q (v::us) ws _ (s1.trans s2) (by simp [hl]) (Gi.cons (sv.grow s2) sw)⟩
theorem ACN {f:PF}(he:JE X K e te f)(hr:GQ X K es ta r)(hs:starEach (e::es) X.env=(false,eval e X.env)::starEach es X.env:=by rfl):GQ X K (e::es) (Dz te ta) (DP (vS f) r):=Uh he.pe (Hr he.pu) hr hs
theorem yJ {f:PF}(he:JE X K e te f)(hr:HD X K es ta i rr)(hs:starEach (e::es) X.env=(false,eval e X.env)::starEach es X.env:=by rfl):HD X K (e::es) (Dz te ta) i (Il (vS f) rr):=gR he.pe (Hr he.pu) hr hs
noncomputable def Ks (f:List D→Option (List D))(r:Af→Option (List D)):Af→Option Sl:=fun ρ=>(r ρ).bind fun as=>(f as).bind fun ds=>some (.sh (.list ds))
theorem AIC {n:Nat}{f:List D→Option (List D)}(hf:KJ n f)(ha:cN K ta r):Dg K (JH (Ef K n f) [] E0 ta) (Ks f r):=by
 intro H0 O0 G σ H ρ s Q ok t h q
 obtain⟨as,e1,h⟩:=Ag h
 obtain⟨ds,e2,h⟩:=Ag h
 cases h
 refine ha H0 O0 G σ H ρ as _ ok t e1 fun vs H1 s1 sv=>?_
 rw[List.append_nil]
 obtain⟨O,s0,n0,nd,g,sl,rv⟩:=sv.ex
 have okA:=G5 ok s0 sl
 refine⟨by rw[rv.length];exact hf _ _ e2,O0++O,as,ds,okA,rv,e2,fun a xs H' s' hn ha r'=>q _ H' (s1.trans s') ?_⟩
 have na:a ∉ O0++O:=okA.fresh hn
 refine⟨O,[],s0.trans s',n0,nd,g.trans (DQ s'),sl.mono (DQ s') fun b _ o e=>s' b o e,rfl,?_⟩
 exact .lst (BP.of (by rw[List.nil_append,Bw na];exact ha)) (r'.mono (DN fun b hb=>Bt hb))
end
noncomputable abbrev TF:=Addr→Cn→List D→List D→Option (D×Cn)
noncomputable def spT (K:Frag)(n:Nat)(f:TF):Sp:=fun vs H Q _=>∃ (a:Addr) (us ws:List V) (O B:List Addr) (c:Cn) (xs ys:List D) (r:D×Cn),vs=us ++ .ref a::ws∧vs.length=n∧us.length=xs.length∧Bu O H∧(∀ b∈O,b ∉ B)∧B.Nodup∧Head K (Ah (B++O) H) H (some (.ref a)) (.tr a c) B∧Ar K (Ah (B++O) H) (us++ws) (xs++ys)∧f a c xs ys=some r ∧
 ∀ v H' B',(∀ (b:Addr) (o:HO),b ∉ B→H b=some o→H' b=some o)→(∀ b∈B',b∈B∨H b=none)→B'.Nodup→Head K (Ah (B'++O) H') H' (some (.ref a)) (.tr a r.2) B'→Rep K (Ah (B'++O) H') v r.1→Q v H'
noncomputable def pU (p:Nat)(a:Addr):Out→Option (D×Cn)
 | .ro d ρ=>(ρ[p]?).bind fun s=>(MN s).bind fun q=>if q.1=a then some (d,q.2) else none
 | .nx ρ=>(ρ[p]?).bind fun s=>(MN s).bind fun q=>if q.1=a then some (.none,q.2) else none
 | _=>none
noncomputable def startT (m:Nat)(a:Addr)(c:Cn)(xs ys:List D):Af:=xs.map .sh++(.tr a c::(ys.map .sh++List.replicate (m-(xs.length+(ys.length+1))) .no))
noncomputable def KY (n m p:Nat)(F:Ai):TF:=fun a c xs ys=>if xs.length=p∧xs.length+(ys.length+1)=n then (F (startT m a c xs ys)).bind (pU p a) else none
noncomputable def ZL (n:Nat)(f:TF):Prop:=∀ a c xs ys r,f a c xs ys=some r→xs.length+(ys.length+1)=n
theorem AEI (n m p:Nat)(F:Ai):ZL n (KY n m p F):=fun a c xs ys r h=>by
 unfold KY at h
 by_cases hc:xs.length=p∧xs.length+(ys.length+1)=n
 ·exact hc.2
 ·rw[if_neg hc] at h;cases h
theorem uX {K:Frag}{G:Hp}:∀ {us ws:List V}{xs ys:List D},us.length=xs.length→Ar K G (us++ws) (xs++ys)→Ar K G us xs∧Ar K G ws ys
 | [],_,[],_,_,r=>⟨.nil,r⟩
 | [],_,_::_,_,h,_=>by simp at h
 | _::_,_,[],_,h,_=>by simp at h
 | _::_,_,_::_,_,h,.cons q r=>by
  obtain⟨a,b⟩:=uX (by simpa using h) r
  exact⟨.cons q a,b⟩
theorem nR {K:Frag}{G H:Hp}{σ:St}{ρ:Af}{O:List Addr}(s:Slots K G H σ ρ O):∀ {us:List V}{xs:List D},Ar K G us xs→Slots K G H (us.map some++σ) (xs.map .sh++ρ) O
 | _,_,.nil=>s
 | _,_,.cons r t=>.sh r (nR s t)
theorem AJK {p:Nat}{a:Addr}{o:Out}{r:D×Cn}(h:pU p a o=some r):(∃ ρ,o=.ro r.1 ρ∧ρ[p]?=some (.tr a r.2))∨(∃ ρ,o=.nx ρ∧r.1=.none∧ρ[p]?=some (.tr a r.2)):=by
 cases o with
 | ro d ρ =>
  left
  obtain⟨s,e1,h⟩:=Ag h
  obtain⟨q,e2,h⟩:=Ag h
  have h:(if q.1=a then some (d,q.2) else none)=some r:=h
  by_cases hc:q.1=a
  ·rw[if_pos hc] at h
   cases h
   rw[Vc e2,hc] at e1
   exact⟨ρ,rfl,e1⟩
  ·rw[if_neg hc] at h
   cases h
 | nx ρ =>
  right
  obtain⟨s,e1,h⟩:=Ag h
  obtain⟨q,e2,h⟩:=Ag h
  have h:(if q.1=a then some (PyData.none,q.2) else none)=some r:=h
  by_cases hc:q.1=a
  ·rw[if_pos hc] at h
   cases h
   rw[Vc e2,hc] at e1
   exact⟨ρ,rfl,rfl,e1⟩
  ·rw[if_neg hc] at h
   cases h
 | _=>cases h
section
variable {P:Program}{w:World}{K:Frag}{mg:Str→Option Value}{base:Heap}
theorem AAP {O B:List Addr}{b:Addr}:b∈B++O ↔ b∈O++B:=by
 rw[List.mem_append,List.mem_append,or_comm]
theorem AIT {H:Hp}{O B:List Addr}{a:Addr}{c:Cn}{us ws:List V}{xs ys:List D}(nB:B.Nodup)(h:Head K (Ah (B++O) H) H (some (.ref a)) (.tr a c) B)(hl:us.length=xs.length)(r:Ar K (Ah (B++O) H) (us++ws) (xs++ys))(N:List Str) :
  Bk K (Ah B H) O (Ah (O++B) H) (start N (us ++ .ref a::ws)) H (startT N.length a c xs ys):=by
 have sb:Aj (Ah (B++O) H) (Ah (O++B) H):=DN fun b hb=>AAP.mpr hb
 refine⟨B,Cq,(fun b hb=>Mq hb),nB,Aj.refl _,?_⟩
 obtain⟨r1,r2⟩:=uX hl r
 unfold start startT
 have hl2:=r2.length
 have e:(us++V.ref a::ws).map some++List.replicate (N.length-(us++V.ref a::ws).length) none=us.map some++(some (.ref a)::(ws.map some++List.replicate (N.length-(xs.length+(ys.length+1))) none)):=by
  rw[List.map_append,List.length_append,List.length_cons,hl,hl2,List.map_cons,List.append_assoc,List.cons_append]
 rw[e]
 have:=Slots.cons (h.mono sb fun _ _ _ z=>z) (fK (r2.mono sb) (N.length-(xs.length+(ys.length+1))))
 rw[List.append_nil] at this
 exact nR this (r1.mono sb)
theorem Def.iQ {x:Str}{st:Stmt}{N ps:List Str}{k n m p:Nat}{F:Ai}{fn:TF}(hfn:fn=KY n m p F)(D:Def K mg x st ps)(S:K1 N ps (Dj st))(hn:ps.length=n)(hm:N.length=m) (hb:∀ (f:Addr) (cdv:Value) (A:Around) (outer:List Env) (s:Shared) (H:Hp) (E:XK),Cy k (A.deeper (envOfC x (Dj st) s.heap.objs.size f cdv)) →
   ∃ t,Dd (IW Hd P w K mg base N x (Dj st) f cdv A outer s H E).Jr K (Gq st) t F):Callee P w K mg base (k+1) x ps (spT K n fn):=by
 subst hfn hm
 refine D.ok S (fun vs H Q E h=>by obtain⟨_,_,_,_,_,_,_,_,_,_,hl,_⟩:=h;rw[hl,hn]) fun f cdv A outer s H vs Q E hr h=>?_
 obtain⟨t,j⟩:=hb f cdv A outer s H E hr
 refine⟨t,j.pe,?_⟩
 obtain⟨a,us,ws,O,B,c,xs,ys,r,rfl,hl,hu,ok,na,nB,held,rep,hf,q⟩:=h
 unfold KY at hf
 by_cases hc:xs.length=p∧xs.length+(ys.length+1)=n
 case neg=>rw[if_neg hc] at hf;cases hf
 rw[if_pos hc] at hf
 obtain⟨out,e1,hf⟩:=Ag hf
 have ok0:Bu O (Ah B H):=fun b hb=>by
  obtain⟨ob,e⟩:=ok b hb
  exact⟨ob,by rw[Bw (na b hb)];exact e⟩
 refine j.pu (Ah B H) O (Ah (O++B) H) _ H _ out _ ok0 (AIT nB held hu rep N) e1 ?_
 have fin:∀ {σ:St}{ρ:Af}{H':Hp}{O2:List Addr}{v:V},ρ[p]?=some (.tr a r.2)→Aj (Ah B H) H'→(∀ b∈O2,Ah B H b=none)→O2.Nodup→Slots K (Ah (O++O2) H') H' σ ρ O2→Rep K (Ah (O++O2) H') v r.1→Q v H':=fun {σ ρ H' O2 v} h0 s0 n2 nd sl rv=>by
  obtain⟨u,B',_,hd,h4,h5⟩:=sl.get h0
  cases hd.ref
  have sb:Aj (Ah (O++O2) H') (Ah (B'++O) H'):=DN fun b hb=>(List.mem_append.mp hb).elim (fun z=>Bc (h4 b z)) fun z=>Cw z
  refine q v H' B' (fun b o nb e=>s0 b o (by rw[Bw nb];exact e)) (fun b hb=>?_) (h5 nd).1 (hd.mono sb fun _ _ _ z=>z) (rv.mono sb)
  by_cases z:b∈B
  ·exact .inl z
  ·have:=n2 b (h4 b hb)
   rw[Bw z] at this
   exact .inr this
 rcases AJK hf with⟨ρ,rfl,h0⟩ | ⟨ρ,rfl,hr1,h0⟩
 ·intro v σ H' sv
  obtain⟨O2,P2,s0,n2,nd,g,sl,hp,rv⟩:=sv.ex
  subst hp
  exact fin h0 s0 n2 nd sl rv
 ·intro σ H' sv
  obtain⟨O2,s0,n2,nd,g,sl⟩:=sv.ex
  exact fin h0 s0 n2 nd sl (by rw[hr1];exact .non)
end
noncomputable def JZ (i:Nat)(f:TF)(r:Af→Option (List D×List D)):Af→Option (D×Af):=fun ρ=>(ρ[i]?).bind fun s=>(MN s).bind fun q=>(r ρ).bind fun x=>(f q.1 q.2 x.1 x.2).bind fun y=>some (y.1,ρ.set i (.tr q.1 y.2))
section
variable {X:Cx}{K:Frag}
theorem AEs {i n:Nat}{f:TF}{r:Af→Option (List D×List D)}{ta:TA}(hf:ZL n f)(ha:oM K ta i r):fJ K (JH (spT K n f) [] E0 ta) (JZ i f r):=by
 intro H0 O0 G σ H ρ ρ' d Q ok t h q
 obtain⟨s,e1,h⟩:=Ag h
 obtain⟨⟨a,c⟩,e2,h⟩:=Ag h
 obtain⟨⟨xs,ys⟩,e3,h⟩:=Ag h
 obtain⟨y,e4,h⟩:=Ag h
 cases h
 have es:=Vc e2
 subst es
 obtain⟨O9,s9,n9,nd9,g9,sl9⟩:=t.ex
 obtain⟨v9,B9,hv,hd9,_⟩:=sl9.get e1
 cases hd9.ref
 refine ha H0 O0 G σ H ρ _ _ _ ok t hv e3 fun us ws H1 s1 hl sv=>?_
 rw[List.append_nil]
 obtain⟨O,s0,n0,nd,g,sl,rv⟩:=sv.ex
 obtain⟨v,B,h1,hd,h2,h3⟩:=sl.get e1
 obtain⟨nB,h3⟩:=h3 nd
 cases hd.ref
 have okA:=G5 ok s0 sl
 have set:∀ b,b∈B++(O0++O).filter (fun b=>decide (b ∉ B)) ↔ b∈O0++O:=fun b=>by
  rw[List.mem_append,List.mem_filter]
  constructor
  ·exact fun z=>z.elim (fun z=>Bc (h2 b z)) fun z=>z.1
  ·intro z
   by_cases w:b∈B
   ·exact .inl w
   ·exact .inr ⟨z,decide_eq_true w⟩
 have to:Aj (Ah (O0++O) H1) (Ah (B++(O0++O).filter (fun b=>decide (b ∉ B))) H1):=DN fun b hb=>(set b).mp hb
 have hlen:=rv.length
 refine⟨a,us,ws,(O0++O).filter (fun b=>decide (b ∉ B)),B,c,xs,ys,y,rfl,by have:=hf _ _ _ _ _ e4;rw[List.length_append,List.length_cons];rw[List.length_append,List.length_append] at hlen;omega,hl,fun b hb=>okA b (List.mem_filter.mp hb).1,(fun b hb=>of_decide_eq_true (List.mem_filter.mp hb).2),nB,hd.mono to fun _ _ _ z=>z,rv.mono to,e4,?_⟩
 intro v' H' B' keep fr nB' hd' rv'
 have big:Aj (Ah (O0++O) H1) (Ah (B'++(O0++O).filter (fun b=>decide (b ∉ B))) H'):=fun b o e=>by
  obtain⟨m1,e⟩:=GD e
  have mB:b ∉ B:=fun z=>m1 (Bc (h2 b z))
  rw[Bw fun z=>(List.mem_append.mp z).elim (fun z=>(fr b z).elim mB fun z=>by rw[z] at e;cases e) fun z=>m1 (List.mem_filter.mp z).1]
  exact keep b o mB e
 obtain⟨O',_,m1,m2,m3⟩:=h3 big (fun b _ nb o e=>keep b o nb e) hd' nB' fun b hb z=>(fr b hb).elim id fun w=>by
  obtain⟨o,e,_⟩:=sl.mem b z
  rw[w] at e
  cases e
 rw[U0 h1] at m3
 have bk:Aj (Ah (B'++(O0++O).filter (fun b=>decide (b ∉ B))) H') (Ah (O0++O') H'):=DN fun b hb=>by
  rw[List.mem_append,List.mem_filter]
  rcases List.mem_append.mp hb with z | z
  ·exact .inr ⟨Cw z,decide_eq_true fun w=>by
    obtain⟨o,e⟩:=ok b z
    rw[n0 b (h2 b w)] at e
    cases e⟩
  ·exact ((m2 b).mp z).imp id fun z=>⟨Bc z.1,decide_eq_true z.2⟩
 have h0n:∀ b∈O',H0 b=none:=fun b hb=>((m2 b).mp hb).elim (fun z=>(fr b z).elim (fun w=>n0 b (h2 b w)) fun w=>s0.free w) fun z=>n0 b z.1
 refine q v' H' ⟨O',[],fun b o e=>keep b o (fun z=>by rw[n0 b (h2 b z)] at e;cases e) (s0 b o e),h0n,m1,(g.trans big).trans bk,m3.mono bk fun _ _ _ e=>e,rfl,rv'.mono bk⟩
theorem AJP {i n k:Nat}{f:TF}{r:Af→Option (List D×List D)}{ta:TA}{x:Str}{ps:List Str}{e:Expr}{es:List Expr}{p pos:Pos}(hK:X.K=K)(c:Callee X.prog X.w X.K X.mg X.base k x ps (spT K n f))(hf:ZL n f)(hr:Cy k X.A)(hg:Gl X x)(ha:HD X K (e::es) ta i r)(hdb:(x == ("__debug__":Str))=false:=by decide)(hst:starEach (e::es) X.env=(false,eval e X.env)::starEach es X.env:=by rfl)(hpl:(backTo pos (starEach es X.env)).any (·.1)=false:=by rfl) :
  JM X K (.Call (.Name x p) (e::es) [] pos) (JH (spT K n f) [] E0 ta) (JZ i f r):=⟨Qp c hr hg ha.pe hdb hst hpl,AEs hf ha.pu⟩
theorem AFh {e:Expr}{te:TE}{wf:Af→Option (D×Af)}{x:Str}{j:Nat}{pos pos':Pos}(h:JM X K e te wf)(hN:X.N.Nodup)(hi:X.N[j]?=some x)(hx:Loc X.env.scope x)(hs:swapsWith e (some (.Name x pos')) pos.line X.env=pure false:=by rfl)(hf:X.fn x=true∨X.env.scope.names.lookup x=some .local:=by first | exact .inl rfl | exact .inr rfl | assumption) :
  JS X K (.Assign [.Name x pos'] e pos) (Dq te (Df j)) (O7 j wf):=⟨Jl hN hi hx h.pe hs hf,by
 intro H0 O0 G σ H ρ o E ok t hf q
 obtain⟨⟨d,ρ'⟩,e1,hf⟩:=Ag hf
 cases hf
 exact h.pu H0 O0 G σ H ρ ρ' d _ ok t e1 fun v H' sv=>q _ H' (sv.set j)⟩
noncomputable def O3 (wf:Af→Option (D×Af))(F F':Ai):Ai:=fun ρ=>(wf ρ).bind fun x=>(Js x.1).bind fun b=>if b=true then F' x.2 else F x.2
theorem AHN {e:Expr}{te:TE}{wf:Af→Option (D×Af)}{a b:List Stmt}{ta tb:TS}{F F':Ai}{p pos:Pos}(h:JM X K e te wf)(ha:Dd X K a ta F)(hb:Dd X K b tb F')(he:∀ whole,isTrue e X.env whole=(do let v ← whole;standAt e.pos;holding [v] (truthy v)):=by intro _;rfl) :
  JS X K (.If (.UnaryOp .Not e p) a b pos) (PJ (Xi (tB te)) ta tb) (O3 wf F F'):=⟨Yw (fG (rN h.pe he)) ha.pe hb.pe,by
 intro H0 O0 G σ H ρ o E ok t hf q
 obtain⟨⟨d,ρ'⟩,e1,hf⟩:=Ag hf
 obtain⟨c,e2,hf⟩:=Ag hf
 refine h.pu H0 O0 G σ H ρ ρ' d _ ok t e1 fun v H' sv=>?_
 obtain⟨O,P,s0,n,nd,g,sl,hp,r⟩:=sv.ex
 have e2:Js d=some c:=e2
 cases r with
 | bl c' =>
  cases e2
  refine⟨c,rfl,?_⟩
  have hf:(if c=true then F' ρ' else F ρ')=some o:=hf
  cases c with
  | true =>
   rw[if_pos rfl] at hf
   exact hb.pu H0 O0 G σ H' ρ' o E ok sv.str hf q
  | false =>
   rw[if_neg Bool.false_ne_true] at hf
   exact ha.pu H0 O0 G σ H' ρ' o E ok sv.str hf q
 | _=>cases e2⟩
end
inductive DR (K:Frag)(G:Hp):List (Int×V)→List (Int×D)→Prop
 | nil:DR K G [] []
 | cons {k:Int}{v:V}{d:D}{ps:List (Int×V)}{kvs:List (Int×D)}:Rep K G v d→DR K G ps kvs→DR K G ((k,v)::ps) ((k,d)::kvs)
noncomputable def Eg {α:Type}(ps:List (Int×α)):List (Key×α):=ps.map fun p=>(Sum.inl p.1,p.2)
section
variable {K:Frag}{G:Hp}
theorem DR.of:∀ {ps:List (Int×V)}{kvs:List (Int×D)},ps.map (·.1)=kvs.map (·.1)→Ar K G (ps.map (·.2)) (kvs.map (·.2))→DR K G ps kvs
 | [],[],_,_=>.nil
 | [],_::_,h,_=>by simp at h
 | _::_,[],h,_=>by simp at h
 | (k,v)::ps,(j,d)::kvs,h,.cons q r=>by
  have h1:k=j:=by injection h
  have h2:ps.map (·.1)=kvs.map (·.1):=by injection h
  subst h1
  exact .cons q (DR.of h2 r)
theorem DR.keys {ps:List (Int×V)}{kvs:List (Int×D)}(h:DR K G ps kvs):ps.map (·.1)=kvs.map (·.1):=by
 induction h with
 | nil=>rfl
 | cons _ _ ih=>simp [ih]
theorem DR.vals {ps:List (Int×V)}{kvs:List (Int×D)}(h:DR K G ps kvs):Ar K G (ps.map (·.2)) (kvs.map (·.2)):=by
 induction h with
 | nil=>exact .nil
 | cons r _ ih=>exact .cons r ih
theorem Lz {α:Type}(p:Int×α)(l:List (Int×α))(k:Int):Dw (p::l) k=if p.1=k then some p.2 else Dw l k:=by
 unfold Dw
 rw[List.find?_cons]
 by_cases h:p.1=k
 ·simp [h]
 ·simp [h]
theorem RV (k:Int):∀ ps:List (Int×V),GC (Eg ps) (Sum.inl k:Key)=Dw ps k
 | []=>rfl
 | p::ps=>by
  rw[Lz]
  show GC ((Sum.inl p.1,p.2)::Eg ps) (Sum.inl k:Key)=_
  by_cases h:p.1=k
  ·rw[if_pos h,Tf (by rw[h])]
  ·rw[if_neg h,Uj (fun z=>h (by injection z)),RV k ps]
theorem any_map {α:Type}(k:Int)(ps:List (Int×α)):((Eg ps).any fun kv=>decide (kv.1=(Sum.inl k:Key)))=ps.any fun kv=>decide (kv.1=k):=by
 unfold Eg
 rw[List.any_map]
 congr 1
 funext p
 exact decide_eq_decide.mpr ⟨fun z=>by injection z,fun z=>by show Sum.inl p.1=_;rw[z]⟩
theorem lV (k:Int)(v:V)(ps:List (Int×V)):putK (Eg ps) (Sum.inl k:Key) v=Eg (Dh ps k v):=by
 unfold putK Dh
 rw[any_map]
 by_cases h:(ps.any fun kv=>decide (kv.1=k))=true
 ·rw[if_pos h,if_pos h]
  unfold Eg
  rw[List.map_map,List.map_map]
  congr 1
  funext p
  show (if (Sum.inl p.1:Key)=Sum.inl k then _ else _)=_
  by_cases hk:p.1=k
  ·simp [hk]
  ·simp [hk]
 ·rw[if_neg h,if_neg h]
  unfold Eg
  rw[List.map_append]
  rfl
theorem ABl (k:Int)(ps:List (Int×V)):Ld (Eg ps) (Sum.inl k:Key)=Eg (GZ ps k):=by
 unfold Ld GZ Eg
 rw[List.filter_map]
 congr 1
 congr 1
 funext p
 show decide ((Sum.inl p.1:Key)≠Sum.inl k)=_
 exact decide_eq_decide.mpr ⟨fun z w=>z (by rw[w]),fun z w=>z (by injection w)⟩
theorem DR.get {ps:List (Int×V)}{kvs:List (Int×D)}(h:DR K G ps kvs)(k:Int):(∀ d,Dw kvs k=some d→∃ v,Dw ps k=some v∧Rep K G v d)∧(Dw ps k).isSome=(Dw kvs k).isSome:=by
 induction h with
 | nil=>exact⟨(fun d e=>by cases e),rfl⟩
 | @cons j v d ps kvs r t ih =>
  rw[Lz,Lz]
  by_cases e:j=k
  ·rw[if_pos e,if_pos e]
   exact⟨fun d' z=>by cases z;exact⟨v,rfl,r⟩,rfl⟩
  ·rw[if_neg e,if_neg e]
   exact ih
theorem DR.AHT {ps:List (Int×V)}{kvs:List (Int×D)}(h:DR K G ps kvs){v:V}{d:D}(r:Rep K G v d)(k:Int):DR K G (ps.map fun kv=>if kv.1=k then (kv.1,v) else kv) (kvs.map fun kv=>if kv.1=k then (kv.1,d) else kv):=by
 induction h with
 | nil=>exact .nil
 | @cons j v' d' ps kvs r' t ih =>
  rw[List.map_cons,List.map_cons]
  by_cases e:j=k
  ·simp only[e,if_true]
   exact .cons r ih
  ·simp only[e,if_false]
   exact .cons r' ih
theorem DR.snoc {ps:List (Int×V)}{kvs:List (Int×D)}(h:DR K G ps kvs){v:V}{d:D}(r:Rep K G v d)(k:Int):DR K G (ps++[(k,v)]) (kvs++[(k,d)]):=by
 induction h with
 | nil=>exact .cons r .nil
 | cons r' _ ih=>exact .cons r' ih
theorem DR.any {ps:List (Int×V)}{kvs:List (Int×D)}(h:DR K G ps kvs)(k:Int):(ps.any fun kv=>decide (kv.1=k))=kvs.any fun kv=>decide (kv.1=k):=by
 induction h with
 | nil=>rfl
 | cons _ _ ih=>simp [ih]
theorem DR.put {ps:List (Int×V)}{kvs:List (Int×D)}(h:DR K G ps kvs){v:V}{d:D}(r:Rep K G v d)(k:Int):DR K G (Dh ps k v) (Dh kvs k d):=by
 unfold Dh
 rw[h.any]
 by_cases e:(kvs.any fun kv=>decide (kv.1=k))=true
 ·rw[if_pos e,if_pos e];exact h.AHT r k
 ·rw[if_neg e,if_neg e];exact h.snoc r k
theorem DR.drop {ps:List (Int×V)}{kvs:List (Int×D)}(h:DR K G ps kvs)(k:Int):DR K G (GZ ps k) (GZ kvs k):=by
 unfold GZ
 induction h with
 | nil=>exact .nil
 | @cons j v d ps kvs r t ih =>
  rw[List.filter_cons,List.filter_cons]
  by_cases e:j=k
  ·simp only[e,ne_eq,not_true_eq_false,decide_false,Bool.false_eq_true,if_false]
   exact ih
  ·simp only[e,ne_eq,not_false_eq_true,decide_true,if_true]
   exact .cons r ih
theorem DR.len {ps:List (Int×V)}{kvs:List (Int×D)}(h:DR K G ps kvs):ps.length=kvs.length:=by
 have:=congrArg List.length h.keys
 simpa using this
theorem Gm.dr {H:Hp}{a:Addr}{kvs:List (Int×D)}(h:Gm K G H a (.dct kvs)):∃ ps:List (Int×V),H a=some (.dK (Eg ps))∧DR K G ps kvs:=by
 obtain⟨ps,e,k,r⟩:=h
 exact⟨ps,e,.of k r⟩
theorem DR.held {H:Hp}{a:Addr}{ps:List (Int×V)}{kvs:List (Int×D)}(h:DR K G ps kvs)(e:H a=some (.dK (Eg ps))):Gm K G H a (.dct kvs):=⟨ps,e,h.keys,h.vals⟩
end
noncomputable def Jm (i:Nat)(ρ:Af):Option (Addr×List (Int×D)):=(ρ[i]?).bind fun s=>(MN s).bind fun q=>(lE q.2).bind fun kvs=>some (q.1,kvs)
theorem M5 {i:Nat}{ρ:Af}{q:Addr×List (Int×D)}(h:Jm i ρ=some q):ρ[i]?=some (.tr q.1 (.dct q.2)):=by
 obtain⟨s,e1,h⟩:=Ag h
 obtain⟨x,e2,h⟩:=Ag h
 obtain⟨kvs,e3,h⟩:=Ag h
 cases h
 rw[e1,Vc e2,ABW e3]
noncomputable def Io (i:Nat)(fk:PF):Af→Option Sl:=fun ρ=>(Jm i ρ).bind fun q=>(fk (full ρ)).bind fun kd=>(Ez kd).bind fun k=>(Dw q.2 k).bind fun d=>some (.sh d)
noncomputable def Og (i:Nat)(fk:PF):Af→Option Bool:=fun ρ=>(fk (full ρ)).bind fun kd=>(Ez kd).bind fun k=>(Jm i ρ).bind fun q=>some (!(Dw q.2 k).isSome)
noncomputable def Lg (i:Nat):Af→Option Sl:=fun ρ=>(Jm i ρ).bind fun q=>if q.2.length<64 then some (.sh (.list ((sortI q.2).map fun p=>.int p.1))) else none
noncomputable def N6:List (Int×D)→Option (List (Int×Int))
 | []=>some []
 | (k,.int x)::r=>(N6 r).bind fun l=>some ((k,x)::l)
 | _=>none
noncomputable def Jt (i:Nat):Af→Option Sl:=fun ρ=>(Jm i ρ).bind fun q=>(N6 q.2).bind fun ps=>if ps.length<64 then some (.sh (.list ((sortI ps).map fun p=>.tuple [.int p.1,.int p.2]))) else none
noncomputable def Kh (i:Nat)(fk:PF)(vf:Af→Option Sl):Ai:=fun ρ=>(vf ρ).bind fun s=>(Gy s).bind fun d=>(fk (full ρ)).bind fun kd=>(Ez kd).bind fun k=>(Jm i ρ).bind fun q=>if q.2.length<1000 then some (.nx (ρ.set i (.tr q.1 (.dct (Dh q.2 k d))))) else none
noncomputable def O1 (i:Nat)(fk:PF):Ai:=fun ρ=>(Jm i ρ).bind fun q=>(fk (full ρ)).bind fun kd=>(Ez kd).bind fun k=>if (Dw q.2 k).isSome=true then some (.nx (ρ.set i (.tr q.1 (.dct (GZ q.2 k))))) else none
theorem ACr {K:Frag}{G:Hp}{ps:List (Int×V)}{kvs:List (Int×D)}(h:DR K G ps kvs):∀ {l:List (Int×Int)},N6 kvs=some l→Eg ps=l.map fun p=>(Sum.inl p.1,V.int p.2):=by
 induction h with
 | nil=>intro l e;cases e;rfl
 | @cons k v d ps kvs r t ih =>
  intro l e
  cases r with
  | int x =>
   obtain⟨l',e1,e⟩:=Ag e
   cases e
   rw[List.map_cons,← ih e1]
   rfl
  | _=>cases e
noncomputable def N8 (K:Frag)(tt:TT)(f:Af→Option Bool):Prop:=∀ (H0:Hp) (O0:List Addr) (G:Hp) (σ:St) (H:Hp) (ρ:Af) (b:Bool) (Q:Bool→Hp→Prop),Bu O0 H0→Bk K H0 O0 G σ H ρ→f ρ=some b →
 (∀ H',Aj H H'→Bk K H0 O0 G σ H' ρ→Q b H')→tt σ H Q
noncomputable def bT (p:PB):Af→Option Bool:=fun ρ=>p (full ρ)
noncomputable def Ov (f g:Af→Option Bool):Af→Option Bool:=fun ρ=>(f ρ).bind fun b=>if b=true then g ρ else some false
noncomputable def Kd (c:Af→Option Bool)(F F':Ai):Ai:=fun ρ=>(c ρ).bind fun b=>if b=true then F ρ else F' ρ
section
variable {X:Cx}{K:Frag}
theorem AJ3 {tt:TT}{p:PB}(h:Kf K tt p):N8 K tt (bT p):=by
 intro H0 O0 G σ H ρ b Q ok t hf q
 have ⟨o1,e2⟩:=t.HR ok
 exact h O0 σ H (full ρ) b _ o1 e2 hf fun H' s'=>q H' s' (t.grow s')
theorem AJl {ta tb:TT}{f g:Af→Option Bool}(ha:N8 K ta f)(hb:N8 K tb g):N8 K (Us ta tb) (Ov f g):=by
 intro H0 O0 G σ H ρ b Q ok t hf q
 obtain⟨c,e1,hf⟩:=Ag hf
 refine ha H0 O0 G σ H ρ c _ ok t e1 fun H1 s1 t1=>?_
 cases c with
 | true =>
  rw[if_pos rfl] at hf ⊢
  exact hb H0 O0 G σ H1 ρ b Q ok t1 hf fun H2 s2 t2=>q H2 (s1.trans s2) t2
 | false =>
  rw[if_neg Bool.false_ne_true] at hf ⊢
  cases hf
  exact q H1 s1 t1
theorem ADK {i:Nat}{ty:TE}{fk:PF}(hk:Fg K ty fk):N8 K (tB (X5 ty (CJ i))) (Og i fk):=by
 intro H0 O0 G σ H ρ b Q ok t hf q
 obtain⟨kd,e1,hf⟩:=Ag hf
 obtain⟨k,e2,hf⟩:=Ag hf
 obtain⟨⟨a,kvs⟩,e3,hf⟩:=Ag hf
 cases hf
 have e3:=M5 e3
 refine t.Hy hk ok e1 fun v H1 s1 t1 r=>?_
 obtain⟨O,s0,n,nd,g,sl⟩:=t1.ex
 obtain⟨h1,h2,held⟩:=sl.JK e3 rfl
 obtain⟨ps,hH,dr⟩:=held.dr
 cases r with
 | int k' =>
  cases e2
  refine⟨_,h1,a,GC (Eg ps) (Sum.inl k:Key),rfl,Ji.k (k:=Sum.inl k) hH,_,rfl,?_⟩
  rw[RV,(dr.get k).2]
  exact q H1 s1 t1
 | _=>cases e2
theorem ABG {c:Expr}{a b:List Stmt}{tc:TT}{f:Af→Option Bool}{t u:TS}{F F':Ai}{pos:Pos}(hc:PT X c tc)(pc:N8 K tc f)(ha:Dd X K a t F)(hb:Dd X K b u F'):JS X K (.If c a b pos) (PJ tc t u) (Kd f F F'):=⟨Yw hc ha.pe hb.pe,by
 intro H0 O0 G σ H ρ o E ok s hf q
 obtain⟨k,e1,hf⟩:=Ag hf
 refine pc H0 O0 G σ H ρ k _ ok s e1 fun H' s' t'=>?_
 cases k with
 | true =>
  rw[if_pos rfl] at hf ⊢
  exact ha.pu H0 O0 G σ H' ρ o E ok t' hf q
 | false =>
  rw[if_neg Bool.false_ne_true] at hf ⊢
  exact hb.pu H0 O0 G σ H' ρ o E ok t' hf q⟩
theorem AI9 {i:Nat}{ty:TE}{fk:PF}(hk:Fg K ty fk):Dg K (WM (CJ i) ty) (Io i fk):=by
 intro H0 O0 G σ H ρ s Q ok t hf q
 obtain⟨⟨a,kvs⟩,e3,hf⟩:=Ag hf
 obtain⟨kd,e1,hf⟩:=Ag hf
 obtain⟨k,e2,hf⟩:=Ag hf
 obtain⟨d,e4,hf⟩:=Ag hf
 cases hf
 have e3:=M5 e3
 obtain⟨O9,s9,n9,nd9,g9,sl9⟩:=t.ex
 refine⟨_,(sl9.JK e3 rfl).1,t.Hy hk ok e1 fun v H1 s1 t1 r=>?_⟩
 obtain⟨O,s0,n,nd,g,sl⟩:=t1.ex
 obtain⟨h1,h2,held⟩:=sl.JK e3 rfl
 obtain⟨ps,hH,dr⟩:=held.dr
 obtain⟨x,ex,rx⟩:=(dr.get k).1 d e4
 cases r with
 | int k' =>
  cases e2
  refine⟨a,x,rfl,?_,q x H1 s1 ⟨O,[],s0,n,nd,g,sl,rfl,rx⟩⟩
  rw[← ex,← RV]
  exact Ji.k (k:=Sum.inl k) hH
 | _=>cases e2
theorem rE {i:Nat}:Dg K (Ht (fun xs H Q=>∃ (d:Addr) (kvs:List (Key×V)) (ns:List Int),xs=[.ref d]∧H d=some (.dK kvs)∧kvs.map (·.1)=ns.map Sum.inl∧ns.length<64 ∧
  ∀ (l:Addr) (ns':List Int),(kvs.map (·.1)).Nodup→H l=none→ns'.Perm ns→ns'.Pairwise (·≤·)→Q (.ref l) (upd H l (.lst (ns'.map V.int)))) (Dz (CJ i) Fw)) (Lg i):=by
 intro H0 O0 G σ H ρ s Q ok t hf q
 obtain⟨⟨a,kvs⟩,e3,hf⟩:=Ag hf
 have e3:=M5 e3
 have hf:(if kvs.length<64 then some (Sl.sh (.list ((sortI kvs).map fun p=>.int p.1))) else none)=some s:=hf
 by_cases h64:kvs.length<64
 case neg=>rw[if_neg h64] at hf;cases hf
 rw[if_pos h64] at hf
 cases hf
 obtain⟨O,s0,n,nd,g,sl⟩:=t.ex
 obtain⟨h1,h2,held⟩:=sl.JK e3 rfl
 obtain⟨ps,hH,dr⟩:=held.dr
 have hkk:(Eg ps).map (·.1)=(kvs.map (·.1)).map (Sum.inl:Int→Key):=by
  rw[← dr.keys]
  unfold Eg
  rw[List.map_map,List.map_map]
  rfl
 refine⟨_,h1,a,Eg ps,kvs.map (·.1),rfl,hH,hkk,by simpa using h64,fun l ns' nn hl hp hs=>?_⟩
 have nk:(kvs.map (·.1)).Nodup:=by
  rw[hkk] at nn
  exact (List.pairwise_map.mp nn).imp fun hne e=>hne (by rw[e])
 rw[v8 nk hp hs]
 have okA:=G5 ok s0 sl
 have s1:Aj H (upd H l (.lst (((sortI kvs).map (·.1)).map V.int))):=Aj.new hl
 refine q _ _ s1 ⟨O,[],s0.trans s1,n,nd,g.trans (DQ s1),sl.mono (DQ s1) fun b _ o e=>s1 b o e,rfl,?_⟩
 refine .lst (BP.of (by rw[List.nil_append,Bw (okA.fresh hl)];exact Cm)) ?_
 have key:∀ (G':Hp) (L:List (Int×D)),Ar K G' ((L.map (·.1)).map V.int) (L.map fun p=>.int p.1):=fun G' L=>by
  induction L with
  | nil=>exact .nil
  | cons x L ih=>exact .cons (.int _) ih
 exact key _ _
theorem iJ {i:Nat}:Dg K (Ht (fun xs H Q=>∃ (v a:Addr) (ps:List (Int×Int)),xs=[.ref v]∧H v=some (.ext (Nk v a))∧H a=some (.dK (ps.map fun p=>(Sum.inl p.1,V.int p.2)))∧ps.length<64∧((ps.map (·.1)).Nodup →
  ∀ (l:Addr) (H':Hp) (qs:List Addr),Aj H H'→H l=none→(∀ q∈qs,H q=none)→H' l=some (.lst (qs.map V.ref))→qs.length=ps.length→(∀ (i:Nat) (q:Addr) (kv:Int×Int),qs[i]?=some q→(sortI ps)[i]?=some kv→H' q=some (.tup [.int kv.1,.int kv.2]))→Q (.ref l) H')) (Dz (Vw K "dict" Wv (CJ i)) Fw)) (Jt i):=by
 intro H0 O0 G σ H ρ s Q ok t hf q
 obtain⟨⟨a,kvs⟩,e3,hf⟩:=Ag hf
 obtain⟨ps,e4,hf⟩:=Ag hf
 have e3:=M5 e3
 by_cases h64:ps.length<64
 case neg=>rw[if_neg h64] at hf;cases hf
 rw[if_pos h64] at hf
 cases hf
 obtain⟨O,s0,n,nd,g,sl⟩:=t.ex
 obtain⟨h1,h2,held⟩:=sl.JK e3 rfl
 obtain⟨qs0,hH,dr⟩:=held.dr
 rw[ACr dr e4] at hH
 have okA:=G5 ok s0 sl
 refine⟨_,h1,.inr (.inr (.inl ⟨rfl,.inl ⟨_,hH⟩⟩)),a,_,rfl,rfl,hH,fun v hv=>?_⟩
 have sv:Aj H (upd H v (.ext (Nk v a))):=Aj.new hv
 refine⟨v,a,ps,rfl,Cm,sv _ _ hH,h64,fun nn l H' qs s' hl hqn AHA hlen hq=>?_⟩
 have s1:=sv.trans s'
 refine q _ _ s1 ⟨O,[],s0.trans s1,n,nd,g.trans (DQ s1),sl.mono (DQ s1) fun b _ o e=>s1 b o e,rfl,?_⟩
 refine .lst (BP.of (by rw[List.nil_append,Bw ((okA.mono sv).fresh hl)];exact AHA)) ?_
 rw[List.nil_append]
 have key:∀ (qs:List Addr) (L:List (Int×Int)),qs.length=L.length→(∀ q∈qs,q ∉ O0++O)→(∀ (i:Nat) (q:Addr) (kv:Int×Int),qs[i]?=some q→L[i]?=some kv→H' q=some (.tup [.int kv.1,.int kv.2]))→Ar K (Ah (O0++O) H') (qs.map V.ref) (L.map fun p=>.tuple [.int p.1,.int p.2]):=by
  intro qs
  induction qs with
  | nil=>intro L h _ _;cases L with | nil=>exact .nil | cons _ _=>simp at h
  | cons x qs ih =>
   intro L h nx hx
   cases L with
   | nil=>simp at h
   | cons y L =>
    refine .cons (.tup (Ds.of (by rw[Bw (nx x Bf)];exact hx 0 x y rfl rfl)) (.cons (.int _) (.cons (.int _) .nil))) (ih L (by simpa using h) (fun q hq=>nx q (Bt hq)) fun i q kv e1 e2=>hx (i+1) q kv (by simpa using e1) (by simpa using e2))
 exact key qs (sortI ps) (by rw[hlen,Rw]) (fun q hq=>(okA.mono sv).fresh (hqn q hq)) hq
theorem AAV {i:Nat}{x:Str}{e ix:Expr}{te ti:TE}{fi:PF}{vf:Af→Option Sl}{p spos pos:Pos}(hu:X.A.units+1<cLine)(he:PE X e te)(pv:Dg K te vf)(hi:JE X K ix ti fi)(ho:PE X (.Name x p) (CJ i))(hs:swapsWith e (some (.Subscript (.Name x p) ix spos)) pos.line X.env=pure false:=by rfl) :
  JS X K (.Assign [.Subscript (.Name x p) ix spos] e pos) (Ww (CJ i) ti te) (Kh i fi vf):=⟨ACP hu ho hi.pe he hs,by
 intro H0 O0 G σ H ρ o E ok t hf q
 obtain⟨s,e1,hf⟩:=Ag hf
 obtain⟨d,e2,hf⟩:=Ag hf
 obtain⟨kd,e5,hf⟩:=Ag hf
 obtain⟨k,e6,hf⟩:=Ag hf
 obtain⟨⟨a,kvs⟩,e3,hf⟩:=Ag hf
 have e3:=M5 e3
 rw[Jf e2] at e1
 by_cases hc:kvs.length<1000
 case neg=>rw[if_neg hc] at hf;cases hf
 rw[if_pos hc] at hf
 cases hf
 refine pv H0 O0 G σ H ρ _ _ ok t e1 fun v H1 s1 sv=>?_
 obtain⟨O9,s9,n9,nd9,g9,sl9⟩:=sv.str.ex
 refine⟨_,(sl9.JK e3 rfl).1,?_⟩
 refine sv.str.Hy hi.pu ok e5 fun vi H2 s2 t2 ri=>?_
 obtain⟨O,P,s0,n,nd,g,sl,hp,rv⟩:=(sv.grow s2).ex
 subst hp
 obtain⟨h1,h2,held⟩:=sl.JK e3 rfl
 obtain⟨ps,hH,dr⟩:=held.dr
 cases ri with
 | int k' =>
  cases e6
  refine⟨a,_,rfl,Ph.k (k:=Sum.inl k) hH (by have hl:ps.length=kvs.length:=dr.len;unfold Eg;rw[List.length_map,hl,sizeLine_eq];omega),q σ _ ?_⟩
  have hh:∀ o,Ah (O0++([]++O)) (upd H2 a o)=Ah (O0++([]++O)) H2:=fun o=>Gz (Bc h2)
  refine⟨O,fun b o e=>by rw[Bb (Cg e (n a h2))];exact s0 b o e,n,nd,?_,?_⟩
  ·have:=hh (.dK (putK (Eg ps) (Sum.inl k:Key) v));rw[List.nil_append] at this;rw[this];exact g
  ·have:=hh (.dK (putK (Eg ps) (Sum.inl k:Key) v));rw[List.nil_append] at this;rw[this]
   refine Slots.qL ?_ nd sl e3 rfl
   exact (dr.put rv k).held (by rw[lV];exact Cm)
 | _=>cases e6⟩
theorem AEc {i:Nat}{x:Str}{ix:Expr}{ti:TE}{fi:PF}{p apos cpos pos:Pos}(hi:JE X K ix ti fi)(ho:PE X (.Name x p) (CJ i))(m:M1 X (.Name x p) "pop" apos ix cpos)(hs:swapsWith (.Call (.Attribute (.Name x p) "pop" apos) [ix] [] cpos) none pos.line X.env=pure false:=by rfl) :
  JS X K (.Expr (.Call (.Attribute (.Name x p) "pop" apos) [ix] [] cpos) pos) (LC (nW (CJ i) ti)) (O1 i fi):=⟨S6 (AHn ho hi.pe m) hs,by
 intro H0 O0 G σ H ρ o E ok t hf q
 obtain⟨⟨a,kvs⟩,e3,hf⟩:=Ag hf
 obtain⟨kd,e5,hf⟩:=Ag hf
 obtain⟨k,e6,hf⟩:=Ag hf
 have e3:=M5 e3
 by_cases hc:(Dw kvs k).isSome=true
 case neg=>rw[if_neg hc] at hf;cases hf
 rw[if_pos hc] at hf
 cases hf
 obtain⟨O9,s9,n9,nd9,g9,sl9⟩:=t.ex
 obtain⟨hv9,_,wN⟩:=sl9.JK e3 rfl
 obtain⟨ps9,hH9,_⟩:=wN.dr
 refine⟨_,hv9,a,rfl,.inl ⟨_,.inl hH9⟩,?_⟩
 refine t.Hy hi.pu ok e5 fun vi H2 s2 t2 ri=>?_
 obtain⟨O,s0,n,nd,g,sl⟩:=t2.ex
 obtain⟨h1,h2,held⟩:=sl.JK e3 rfl
 obtain⟨ps,hH,dr⟩:=held.dr
 cases ri with
 | int k' =>
  cases e6
  have hsome:(Dw ps k).isSome=true:=by rw[(dr.get k).2];exact hc
  obtain⟨v,hv⟩:=Option.isSome_iff_exists.mp hsome
  refine⟨Eg ps,Sum.inl k,v,hH,rfl,by rw[RV];exact hv,q σ _ ?_⟩
  have hh:∀ o,Ah (O0++O) (upd H2 a o)=Ah (O0++O) H2:=fun o=>Gz (Bc h2)
  refine⟨O,fun b o e=>by rw[Bb (Cg e (n a h2))];exact s0 b o e,n,nd,by rw[hh];exact g,?_⟩
  rw[hh]
  refine Slots.qL ?_ nd sl e3 rfl
  exact (dr.drop k).held (by rw[ABl];exact Cm)
 | _=>cases e6⟩
noncomputable def AAZ (i:Nat)(fi:PF)(vf:Af→Option Sl):Ai:=fun ρ=>(vf ρ).bind fun s=>(Gy s).bind fun d=>(fi (full ρ)).bind fun k=>(Ez k).bind fun k=>(ρ[i]?).bind fun s'=>(MN s').bind fun q=>(cC q.2).bind fun ds=>(Ei ds.length k).bind fun j=>some (.nx (ρ.set i (.tr q.1 (.lst (ds.set j d)))))
open Classical in
noncomputable def Kw (f:Addr→Option Out):Option Out:=if h:∃ d,∀ a,f a=some (.rt d) then some (.rt h.choose) else none
theorem wB {f:Addr→Option Out}{d:D}(h:∀ a,f a=some (.rt d)):Kw f=some (.rt d):=by
 have hx:∃ d,∀ a,f a=some (.rt d):=⟨d,h⟩
 unfold Kw
 rw[dif_pos hx]
 have:=hx.choose_spec 0
 rw[h 0] at this
 have e:d=hx.choose:=by injection this with this;injection this
 rw[← e]
theorem jC {f:Addr→Option Out}{o:Out}(h:Kw f=some o):∀ a,f a=some o:=by
 unfold Kw at h
 by_cases hx:∃ d,∀ a,f a=some (.rt d)
 ·rw[dif_pos hx] at h
  cases h
  exact hx.choose_spec
 ·rw[dif_neg hx] at h
  cases h
noncomputable def oY:Sl→Option Cn
 | .ow ds=>some (.lst ds)
 | .on dss=>some (.nst dss)
 | _=>none
noncomputable def Xv (i:Nat)(F:Ai):Ai:=fun ρ=>(ρ[i]?).bind fun s=>(oY s).bind fun c=>Kw fun a=>F (ρ.set i (.tr a c))
noncomputable def AJT (i:Nat)(F:Ai):Ai:=fun ρ=>Kw fun a=>F (ρ.set i (.tr a (.dct [])))
theorem Slots.AIw {G H:Hp}{σ:St}{ρ:Af}{O:List Addr}{i:Nat}{s:Sl}{c:Cn}(nd:O.Nodup)(t:Slots K G H σ ρ O)(h:ρ[i]?=some s)(hc:oY s=some c):∃ a,Slots K G H σ (ρ.set i (.tr a c)) O:=by
 obtain⟨v,B,h1,h2,_,_,h5⟩:=t.Ud nd h
 cases h2 with
 | ow e r=>cases hc;exact⟨_,h5 (fun _ _ _ _ e=>e) (.tr ⟨_,e,r⟩)⟩
 | on e r=>cases hc;exact⟨_,h5 (fun _ _ _ _ e=>e) (.tn e r)⟩
 | _=>cases hc
theorem wQ (i:Nat){rest:List Stmt}{u:TS}{F:Ai}(h:Dd X K rest u F):Dd X K rest u (Xv i F):=⟨h.pe,by
 intro H0 O0 G σ H ρ o E ok t hf q
 obtain⟨s,e1,hf⟩:=Ag hf
 obtain⟨c,e2,hf⟩:=Ag hf
 obtain⟨O,s0,n,nd,g,sl⟩:=t.ex
 obtain⟨a,sl2⟩:=sl.AIw nd e1 e2
 exact h.pu H0 O0 G σ H _ o E ok ⟨O,s0,n,nd,g,sl2⟩ (jC hf a) q⟩
end
section
variable {X:Cx}{K:Frag}{e ix:Expr}{te ti:TE}{f fi:PF}{fl:BJ}{pos:Pos}{x:Str}{i k n:Nat}{es:List Expr}{ta:TA}{r:Af→Option (List D)}{ps:List Str}
theorem z8 {A:Around}{k:Nat}(hr:Cy k A):A.units+1<cLine:=by have:=hr.units;omega
theorem xO (he:JE X K e te f):JS X K (.Return (some e) pos) (Ib te) (FZ (vS f)):=Q9 he.pe (Hr he.pu)
theorem AI7 (he:JE X K e te f):JS X K (.Return (some e) pos) (Ib te) (FZ (vF f)):=Q9 he.pe (AFY he.pu)
theorem AJv (he:JL X K e te fl):JS X K (.Return (some e) pos) (Ib te) (FZ (Fx fl)):=Q9 he.pe (sZ he.pu)
theorem AJI {m:List D→Option (List D)}{p cpos:Pos}(C:Callee X.prog X.w X.K X.mg X.base k x ps (Ef K n m))(hf:KJ n m)(hr:Cy k X.A)(hg:Gl X x)(ha:GQ X K (e::es) ta r)(hdb:(x == ("__debug__":Str))=false:=by decide)
  (hst:starEach (e::es) X.env=(false,eval e X.env)::starEach es X.env:=by rfl) (hpl:(backTo cpos (starEach es X.env)).any (·.1)=false:=by rfl):JS X K (.Return (some (.Call (.Name x p) (e::es) [] cpos)) pos) (Ib (JH (Ef K n m) [] E0 ta)) (FZ (Ks m r)):=Q9 (Qp C hr hg ha.pe hdb hst hpl) (AIC hf ha.pu)
end
section
variable {X:Cx}{K:Frag}{i:Nat}{p apos cpos pos pos':Pos}{x y:Str}
theorem sU (hh:X.A.handled=none)(hg:Gl X "sorted")(hm:X.mg "sorted"=none)(ho:PE X (.Name x p) (CJ i))(he:starEach [Expr.Name x p] X.env=(false,eval (.Name x p) X.env)::starEach [] X.env:=by rfl):PE X (.Call (.Name "sorted" apos) [.Name x p] [] cpos) (Ht (fun xs H Q=>∃ (d:Addr) (kvs:List (Key×V)) (ns:List Int),xs=[.ref d]∧H d=some (.dK kvs)∧kvs.map (·.1)=ns.map Sum.inl∧ns.length<64 ∧
  ∀ (l:Addr) (ns':List Int),(kvs.map (·.1)).Nodup→H l=none→ns'.Perm ns→ns'.Pairwise (·≤·)→Q (.ref l) (upd H l (.lst (ns'.map V.int)))) (Dz (CJ i) Fw)):=bQ (zT hh) hg hm (by rfl) (GK ho Ho he) (by decide) (by decide) he rfl
theorem nO {q:Pos}(hK:X.K=K)(hh:X.A.handled=none)(hg:Gl X "sorted")(hm:X.mg "sorted"=none)(ho:PE X (.Name x p) (CJ i))(hbase:attributeBase (.Name x p) "items" X.env (eval (.Name x p) X.env)=eval (.Name x p) X.env:=by rfl)(hline:(apos.endLine == cpos.line)=true:=by rfl)(he:starEach [Expr.Call (.Attribute (.Name x p) "items" apos) [] [] cpos] X.env=(false,eval (.Call (.Attribute (.Name x p) "items" apos) [] [] cpos) X.env)::starEach [] X.env:=by rfl) :
  PE X (.Call (.Name "sorted" q) [.Call (.Attribute (.Name x p) "items" apos) [] [] cpos] [] pos) (Ht (fun xs H Q=>∃ (v a:Addr) (ps:List (Int×Int)),xs=[.ref v]∧H v=some (.ext (Nk v a))∧H a=some (.dK (ps.map fun p=>(Sum.inl p.1,V.int p.2)))∧ps.length<64∧((ps.map (·.1)).Nodup →
  ∀ (l:Addr) (H':Hp) (qs:List Addr),Aj H H'→H l=none→(∀ q∈qs,H q=none)→H' l=some (.lst (qs.map V.ref))→qs.length=ps.length→(∀ (i:Nat) (q:Addr) (kv:Int×Int),qs[i]?=some q→(sortI ps)[i]?=some kv→H' q=some (.tup [.int kv.1,.int kv.2]))→Q (.ref l) H')) (Dz (Vw K "dict" Wv (CJ i)) Fw)):=by
 subst hK
 exact bQ (AJC hh) hg hm (by rfl) (GK (AAr PySem.F.plainAttrs_dict PySem.F.slot_dict_items PySem.F.type_dict_items yW ho hbase hline) Ho he) (by decide) (by decide) he rfl
theorem AEO {e ix:Expr}{te ti:TE}{f fi:PF}{spos:Pos}(hu:X.A.units+1<cLine)(he:JE X K e te f)(hi:JE X K ix ti fi)(ho:PE X (.Name x p) (CJ i))(hs:swapsWith e (some (.Subscript (.Name x p) ix spos)) pos.line X.env=pure false:=by rfl) :
  JS X K (.Assign [.Subscript (.Name x p) ix spos] e pos) (Ww (CJ i) ti te) (Kh i fi (vS f)):=AAV hu he.pe (Hr he.pu) hi ho hs
theorem AJn {ix:Expr}{ti:TE}{fi:PF}{es:List Expr}{ta:TA}{r:Af→Option (List D)}(hu:X.A.units+1<cLine)(ho:PE X (.Name x p) (CJ i))(hi:JE X K ix ti fi)(hn:Xu ix)(hr:GQ X K es ta r)(hs:starEach (.Subscript (.Name x p) ix pos::es) X.env=(false,eval (.Subscript (.Name x p) ix pos) X.env)::starEach es X.env:=by rfl) :
  GQ X K (.Subscript (.Name x p) ix pos::es) (Dz (WM (CJ i) ti) ta) (DP (Io i fi) r):=Uh (ACZ hu ho hi.pe hn) (AI9 hi.pu) hr hs
theorem ABy {ix c:Expr}{ti:TE}{fi:PF}{tc:TT}{pc:PB}{a b:List Stmt}{t u:TS}{F F':Ai}{q q2:Pos}(hu:X.A.units+1<cLine)(hi:JE X K ix ti fi)(ho:PE X (.Name x p) (CJ i))(hc:JT X K c tc pc)(ha:Dd X K a t F)(hb:Dd X K b u F') :
  JS X K (.If (.BoolOp .And [.Compare ix [.NotIn] [.Name x p] q,c] q2) a b pos) (PJ (Us (tB (X5 ti (CJ i))) tc) t u) (Kd (Ov (Og i fi) (bT pc)) F F'):=ABG (mC (ABg (AEv hu hi.pe ho)) (qG hc.pe)).pt (AJl (ADK hi.pu) (AJ3 hc.pu)) ha hb
end
theorem ABd (a:Addr)(ds:List D):Sl.view (.tr a (.lst ds))=some (.list ds):=rfl
theorem AFw (a:Addr)(kvs:List (Int×D)):Sl.view (.tr a (.dct kvs))=none:=rfl
theorem AGz (a:Addr)(c:Cn):Sl.mask (.tr a c)=none:=rfl
theorem yD (a:Addr)(c:Cn):MN (.tr a c)=some (a,c):=rfl
theorem zO (ds:List D):cC (.lst ds)=some ds:=rfl
theorem MP {i:Nat}{vf:Af→Option Sl}{ρ:Af}{s:Sl}(h:vf ρ=some s):Aq i vf ρ=some (.nx (ρ.set i s)):=by
 unfold Aq
 rw[h]
 rfl
theorem M9 {i:Nat}{ρ:Af}{a:Addr}{kvs:List (Int×D)}(h:ρ[i]?=some (.tr a (.dct kvs))):Jm i ρ=some (a,kvs):=by
 unfold Jm
 rw[h]
 rfl
theorem AFx {i:Nat}{fk:PF}{vf:Af→Option Sl}{ρ:Af}{a:Addr}{kvs:List (Int×D)}{d:D}{k:Int}(h:vf ρ=some (.sh d))(hk:fk (full ρ)=some (.int k))(hi:ρ[i]?=some (.tr a (.dct kvs)))(hl:kvs.length<1000):Kh i fk vf ρ=some (.nx (ρ.set i (.tr a (.dct (Dh kvs k d))))):=by
 unfold Kh
 rw[h,M9 hi,hk]
 show (if kvs.length<1000 then _ else _)=_
 rw[if_pos hl]
theorem AGT {i:Nat}{fk:PF}{ρ:Af}{a:Addr}{kvs:List (Int×D)}{k:Int}(hk:fk (full ρ)=some (.int k))(hi:ρ[i]?=some (.tr a (.dct kvs)))(hl:(Dw kvs k).isSome=true):O1 i fk ρ=some (.nx (ρ.set i (.tr a (.dct (GZ kvs k))))):=by
 unfold O1
 rw[M9 hi,hk]
 show (if (Dw kvs k).isSome=true then _ else _)=_
 rw[if_pos hl]
theorem AGD {i:Nat}{fk:PF}{ρ:Af}{a:Addr}{kvs:List (Int×D)}{d:D}{k:Int}(hk:fk (full ρ)=some (.int k))(hi:ρ[i]?=some (.tr a (.dct kvs)))(hl:Dw kvs k=some d):Io i fk ρ=some (.sh d):=by
 unfold Io
 rw[M9 hi,hk]
 show (Dw kvs k).bind _=_
 rw[hl]
 rfl
theorem ACS {i:Nat}{fk:PF}{ρ:Af}{a:Addr}{kvs:List (Int×D)}{k:Int}(hk:fk (full ρ)=some (.int k))(hi:ρ[i]?=some (.tr a (.dct kvs))):Og i fk ρ=some (!(Dw kvs k).isSome):=by
 unfold Og
 rw[M9 hi,hk]
 rfl
theorem Ui {vf:Af→Option Sl}{ρ:Af}{d:D}(h:vf ρ=some (.sh d)):FZ vf ρ=some (.ro d ρ):=by
 unfold FZ
 rw[h]
 rfl
theorem ABc {f:List D→Option (List D)}{r:Af→Option (List D)}{ρ:Af}{as ds:List D}(h:r ρ=some as)(hf:f as=some ds):Ks f r ρ=some (.sh (.list ds)):=by
 unfold Ks
 rw[h]
 show (f as).bind _=_
 rw[hf]
 rfl
theorem Xx {F F':Ai}{ρ ρ':Af}{d:D}(h:F ρ=some (.ro d ρ')):Ak F F' ρ=some (.ro d ρ'):=by
 unfold Ak
 rw[h]
 rfl
theorem eN {n m p:Nat}{F:Ai}{a:Addr}{c c':Cn}{xs ys:List D}{d:D}{ρ:Af}(h1:xs.length=p)(h2:xs.length+(ys.length+1)=n)(e:F (startT m a c xs ys)=some (.ro d ρ))(hρ:ρ[p]?=some (.tr a c')):KY n m p F a c xs ys=some (d,c'):=by
 unfold KY
 rw[if_pos ⟨h1,h2⟩,e]
 show (ρ[p]?).bind _=_
 rw[hρ]
 show (if a=a then some (d,c') else none)=_
 rw[if_pos rfl]
theorem ADJ {i j:Nat}{f:TF}{r:Af→Option (List D×List D)}{ρ:Af}{a:Addr}{c c':Cn}{xs ys:List D}{d:D}(hi:ρ[i]?=some (.tr a c))(hr:r ρ=some (xs,ys))(hf:f a c xs ys=some (d,c')):O7 j (JZ i f r) ρ=some (.nx ((ρ.set i (.tr a c')).set j (.sh d))):=by
 unfold O7 JZ
 rw[hi,hr]
 show ((f a c xs ys).bind _).bind _=_
 rw[hf]
 rfl
theorem AJX {i:Nat}{f:TF}{r:Af→Option (List D×List D)}{F F':Ai}{ρ:Af}{a:Addr}{c c':Cn}{xs ys:List D}(hi:ρ[i]?=some (.tr a c))(hr:r ρ=some (xs,ys))(hf:f a c xs ys=some (.bool true,c')):O3 (JZ i f r) F F' ρ=F' (ρ.set i (.tr a c')):=by
 unfold O3 JZ
 rw[hi,hr]
 show ((f a c xs ys).bind _).bind _=_
 rw[hf]
 rfl
theorem ACd {c:Af→Option Bool}{F F':Ai}{ρ:Af}{o:Option Out}(h:c ρ=some true)(h':F ρ=o):Kd c F F' ρ=o:=by
 unfold Kd
 rw[h]
 exact h'
theorem ADm {c:Af→Option Bool}{F F':Ai}{ρ:Af}{o:Option Out}(h:c ρ=some false)(h':F' ρ=o):Kd c F F' ρ=o:=by
 unfold Kd
 rw[h]
 exact h'
theorem vQ {α:Type}{bs:D→Af→Option Af}{F:Ai}(enc:α→D)(R:Nat→Af→Prop):∀ (xs:List α) (n:Nat) (ρ:Af),(∀ m ρ x,x∈xs→m<n+xs.length→R m ρ→∃ ρ1 ρ2,bs (enc x) ρ=some ρ1∧F ρ1=some (.nx ρ2)∧R (m+1) ρ2)→R n ρ→∃ ρ',Bx bs F (xs.map enc) ρ=some (.nx ρ')∧R (n+xs.length) ρ'
 | [],n,ρ,_,r=>⟨ρ,rfl,r⟩
 | x::xs,n,ρ,H,r=>by
  obtain⟨ρ1,ρ2,h1,h2,r2⟩:=H n ρ x Bf (by simp) r
  obtain⟨ρ',h3,r3⟩:=vQ enc R xs (n+1) ρ2 (fun m ρ y hy hm=>H m ρ y (Bt hy) (by rw[List.length_cons];omega)) r2
  exact⟨ρ',by rw[List.map_cons,HY h1 h2];exact h3,by rw[List.length_cons,show n+(xs.length+1)=n+1+xs.length by omega];exact r3⟩
noncomputable def encM (P:List (Int×Int)):List (Int×D):=P.map fun p=>(p.1,.int p.2)
theorem jU (P:List (Int×Int)):(encM P).map (·.1)=P.map (·.1):=by
 unfold encM
 rw[List.map_map]
 rfl
theorem lX (P:List (Int×Int)):(encM P).length=P.length:=by unfold encM;rw[List.length_map]
theorem qD:∀ P:List (Int×Int),N6 (encM P)=some P
 | []=>rfl
 | p::P=>by
  show (N6 (encM P)).bind _=_
  rw[qD P]
  rfl
theorem Vm (k:Int):∀ P:List (Int×Int),Dw (encM P) k=(Dw P k).map .int
 | []=>rfl
 | p::P=>by
  show Dw ((p.1,PyData.int p.2)::encM P) k=_
  rw[Lz,Lz]
  by_cases h:p.1=k
  ·rw[if_pos h,if_pos h];rfl
  ·rw[if_neg h,if_neg h,Vm k P]
theorem AIJ (k:Int)(P:List (Int×Int)):((encM P).any fun kv=>decide (kv.1=k))=P.any fun kv=>decide (kv.1=k):=by
 unfold encM
 rw[List.any_map]
 rfl
theorem tR (k b:Int)(P:List (Int×Int)):Dh (encM P) k (.int b)=encM (Dh P k b):=by
 unfold Dh
 rw[AIJ]
 by_cases h:(P.any fun kv=>decide (kv.1=k))=true
 ·rw[if_pos h,if_pos h]
  unfold encM
  rw[List.map_map,List.map_map]
  congr 1
  funext p
  show (if p.1=k then (p.1,PyData.int b) else (p.1,PyData.int p.2))=_
  by_cases hk:p.1=k<;>simp [hk]
 ·rw[if_neg h,if_neg h]
  unfold encM
  rw[List.map_append]
  rfl
theorem zK (k:Int)(P:List (Int×Int)):GZ (encM P) k=encM (GZ P k):=by
 unfold GZ encM
 rw[List.filter_map]
 rfl
theorem TV {α:Type}(k:Int)(P:List (Int×α)):(P.any fun kv=>decide (kv.1=k))=true ↔ k∈P.map (·.1):=by
 rw[List.any_eq_true,List.mem_map]
 constructor
 ·rintro ⟨p,hp,e⟩
  exact⟨p,hp,of_decide_eq_true e⟩
 ·rintro ⟨p,hp,e⟩
  exact⟨p,hp,decide_eq_true e⟩
theorem eO {P:List (Int×Int)}{k b:Int}{q:Int×Int}:q∈Dh P k b ↔ q=(k,b)∨(q∈P∧q.1≠k):=by
 unfold Dh
 by_cases h:(P.any fun kv=>decide (kv.1=k))=true
 ·rw[if_pos h,List.mem_map]
  constructor
  ·rintro ⟨p,hp,e⟩
   by_cases hk:p.1=k
   ·rw[if_pos hk,hk] at e
    exact .inl e.symm
   ·rw[if_neg hk] at e
    subst e
    exact .inr ⟨hp,hk⟩
  ·rintro (rfl | ⟨hq,hk⟩)
   ·obtain⟨p,hp,e⟩:=List.mem_map.mp ((TV k P).mp h)
    exact⟨p,hp,by rw[if_pos e,e]⟩
   ·exact⟨q,hq,by rw[if_neg hk]⟩
 ·rw[if_neg h,List.mem_append,List.mem_singleton]
  have hn:k ∉ P.map (·.1):=fun z=>h ((TV k P).mpr z)
  constructor
  ·rintro (hq | hq)
   ·exact .inr ⟨hq,fun z=>hn (List.mem_map.mpr ⟨q,hq,z⟩)⟩
   ·exact .inl hq
  ·rintro (hq | hq)
   ·exact .inr hq
   ·exact .inl hq.1
theorem nT {P:List (Int×Int)}{k b:Int}(n:(P.map (·.1)).Nodup):((Dh P k b).map (·.1)).Nodup:=by
 unfold Dh
 by_cases h:(P.any fun kv=>decide (kv.1=k))=true
 ·rw[if_pos h,List.map_map]
  have e:(fun x=>x.1) ∘ (fun kv:Int×Int=>if kv.1=k then (kv.1,b) else kv)=fun kv=>kv.1:=by
   funext p
   show (if p.1=k then (p.1,b) else p).1=p.1
   by_cases hk:p.1=k<;>simp [hk]
  rw[e]
  exact n
 ·rw[if_neg h,List.map_append]
  have hn:k ∉ P.map (·.1):=fun z=>h ((TV k P).mpr z)
  refine List.nodup_append.mpr ⟨n,by simp,fun x hx y hy z=>?_⟩
  have:y=k:=by simpa using hy
  rw[this] at z
  exact hn (by rw[← z];exact hx)
theorem AHw {P:List (Int×Int)}{k:Int}{q:Int×Int}:q∈GZ P k ↔ q∈P∧q.1≠k:=by
 unfold GZ
 rw[List.mem_filter]
 simp
theorem AJx {P:List (Int×Int)}{k:Int}(n:(P.map (·.1)).Nodup):((GZ P k).map (·.1)).Nodup:=List.Nodup.sublist (List.filter_sublist.map _) n
theorem zR {P:List (Int×Int)}{k:Int}:(Dw P k).isSome=decide (k∈P.map (·.1)):=by
 induction P with
 | nil=>rfl
 | cons p P ih =>
  rw[Lz]
  by_cases h:p.1=k
  ·rw[if_pos h,decide_eq_true (by rw[← h];exact Bf)];rfl
  ·rw[if_neg h,ih]
   exact decide_eq_decide.mpr ⟨fun z=>Bt z,fun z=>(List.mem_cons.mp z).resolve_left fun w=>h w.symm⟩
theorem ABU {P:List (Int×Int)}{k b:Int}(n:(P.map (·.1)).Nodup)(h:(k,b)∈P):Dw P k=some b:=by
 induction P with
 | nil=>cases h
 | cons p P ih =>
  rw[Lz]
  have n':=List.nodup_cons.mp n
  rcases List.mem_cons.mp h with rfl | h
  ·rw[if_pos rfl]
  ·rw[if_neg (fun z=>n'.1 (List.mem_map.mpr ⟨(k,b),h,z.symm⟩))]
   exact ih n'.2 h
end L2
namespace LL
open PySem L2
theorem Xa (v:Pr):∀ s:List Thing,s.countP (fun e=>decide (e=some v))=(things s).countP (fun e=>decide (e=v))
 | []=>rfl
 | none::r=>by
  rw[List.countP_cons_of_neg (by simp)]
  exact Xa v r
 | some x::r=>by
  show _=(x::things r).countP _
  rw[List.countP_cons,List.countP_cons,Xa v r]
  congr 1
  by_cases h:x=v<;>simp [h]
theorem AG7 {s:List Thing}{t:Tr}(m:Gn s t)(h:DX (things s)):(s.set t.2.1 (some t.2.2)).countP (fun e=>decide (e=some t.2.2))=2:=by
 obtain⟨L,R,m⟩:=m
 have hs:=HJ s 0
 rw[m.eq,List.map_append,List.map_cons] at hs
 have h1:things (s.set t.2.1 (some t.2.2))=L.map (·.2)++t.2.2::t.2.2::R.map (·.2):=by
  rw[← HJ _ 0,m.first]
  split<;>simp
 have hr:DX (L.map (·.2)++t.2.2::R.map (·.2)):=by rw[hs];exact h
 unfold DX at hr
 rw[List.map_append,List.map_cons,List.pairwise_append,List.pairwise_cons] at hr
 obtain⟨_,⟨hb,_⟩,hc⟩:=hr
 rw[Xa,h1,List.countP_append,List.countP_cons,List.countP_cons]
 have z1:(L.map (·.2)).countP (fun e=>decide (e=t.2.2))=0:=by
  rw[List.countP_eq_zero]
  intro e he
  have:=hc e.1 (List.mem_map_of_mem he) t.2.2.1 (.head _)
  simp
  rintro rfl
  omega
 have z2:(R.map (·.2)).countP (fun e=>decide (e=t.2.2))=0:=by
  rw[List.countP_eq_zero]
  intro e he
  have:=hb e.1 (List.mem_map_of_mem he)
  simp
  rintro rfl
  omega
 rw[z1,z2]
 simp
theorem AGd (s:List Thing)(x:Thing):N5 (.list (s.map encD)) (encD x)=some (.int ((s.countP (fun e=>decide (e=x)):Nat):Int)):=by
 unfold N5
 have h1:LR (s.map encD)=true:=by
  unfold LR
  rw[List.all_eq_true]
  intro d hd
  obtain⟨e,_,rfl⟩:=List.mem_map.mp hd
  exact UT.shaped (by decide) e
 show (if LR (s.map encD)=true∧SeqAt.shaped (encD x)=true then _ else none)=_
 rw[if_pos ⟨h1,UT.shaped (by decide) x⟩,List.countP_map]
 congr 4
 funext e
 exact UT.eqv e x
theorem kW (lo:Int)(n:Nat):Ci lo (n+1)=.int lo::Ci (lo+1) n:=by
 unfold Ci
 rw[List.range_succ_eq_map,List.map_cons,List.map_map]
 congr 1
 ·congr 1;simp
 ·refine List.map_congr_left fun i _=>?_
  show PyData.int (lo+((i+1:Nat):Int))=PyData.int (lo+1+(i:Int))
  congr 1
  omega
theorem Zw:∀ (ts:List Thing) (p:Nat) (x:Pr),ts.getD p none=some x→∃ A B,things ts=A++x::B∧(∀ y,things (ts.set p (some y))=A++y::B)∧things (ts.set p none)=A++B
 | [],p,x,h=>by simp at h
 | z::ts,0,x,h=>by
  have h:z=some x:=by simpa using h
  subst h
  exact⟨[],things ts,rfl,fun y=>rfl,rfl⟩
 | z::ts,p+1,x,h=>by
  obtain⟨A,B,h1,h2,h3⟩:=Zw ts p x (by simpa using h)
  cases z with
  | none=>exact⟨A,B,h1,h2,h3⟩
  | some z=>exact⟨z::A,B,by show z::things ts=_;rw[h1];rfl,fun y=>by show z::things (ts.set p (some y))=_;rw[h2];rfl,by show z::things (ts.set p none)=_;rw[h3];rfl⟩
theorem rP {A B:List Pr}{k a:Int}(h:DX (A++(k,a)::B)):∀ q,q∈A∨q∈B→q.1≠k:=by
 unfold DX at h
 rw[List.map_append,List.map_cons,List.pairwise_append,List.pairwise_cons] at h
 obtain⟨_,⟨hb,_⟩,hc⟩:=h
 rintro q (hq | hq) e
 ·have:=hc q.1 (List.mem_map_of_mem hq) k Bf
  omega
 ·have:=hb q.1 (List.mem_map_of_mem hq)
  omega
theorem eY {ts:List Thing}{k:Int}(h:k∈keysOf ts):∃ p a,Ew k 0 ts=some p∧p<ts.length∧ts.getD p none=some (k,a):=by
 cases hp:Ew k 0 ts with
 | none=>exact absurd h ((PX ts 0).mp hp)
 | some p =>
  obtain⟨h1,h2,a,h3⟩:=V9 ts 0 p hp
  exact⟨p,a,rfl,by omega,by rw[Nat.sub_zero] at h3;exact h3⟩
theorem uF {ts:List Thing}{t:Int}{w st hh:Nat}(bd:Bd t (w:Int) (st:Int))(ht:(hh:Int)≤t)(hlen:ts.length=2 ^ hh*w)(hR:Dr ts){k:Int}(b:Int)(hk:k ∉ keysOf ts)(hc:((keysOf ts).length:Int)<2 ^ hh*((w:Int)-hh*st)) :
  ∃ (ms:List Tr) (q:Nat) (s':List Thing),J9 [.tuple [.int t,.int (w:Int),.int (st:Int)],.int (hh:Int),.list (ts.map encD),.int k,.int b]=some ((CV ms++[(q,some (k,b))]).map By)∧Run Gn ts ms s'∧s'.length=ts.length∧s'[q]?=some none∧ms.length≤320∧Dr (s'.set q (some (k,b)))∧(things (s'.set q (some (k,b)))).length=(things ts).length+1∧∀ p,p∈things (s'.set q (some (k,b))) ↔ p=(k,b)∨p∈things ts:=by
 obtain⟨w1,w20,Eh,s1,h4⟩:=Ml bd ht
 have hz:=Ia h4 w1 w20
 have hsl:=XH ts k ts.length
 obtain⟨h,h1,h2,h3,_⟩:=yF ts (t:=t) (w:=w) (st:=st) (hh:=hh) w1 w20 Eh h4 hlen k (AIE ts hlen (by omega) hc)
 obtain⟨X,Y,Z,Y',s',e1,e2,e3,e4,bV,r,AAX,hfree,hd,hd2,hp,hth,hn,hm,ha⟩:=ACG ts t w st hh k b h bd ht hlen hR hk hc h1 h2 h3
 obtain⟨g4,g5⟩:Bv w (Br ts k ts.length) h≤Br ts k ts.length∧Br ts k ts.length<Bv w (Br ts k ts.length) h+2 ^ h*w:=by
  obtain⟨_,_,_,_,_,_,a,b⟩:=rK (h:=h) w1 hlen h1 (s:=Br ts k ts.length) (by omega)
  exact⟨a,b⟩
 have hYl:(things Y).length≤Y.length:=List.length_filterMap_le _ _
 have hY2:Y.length≤ts.length:=by rw[e1,List.length_append,List.length_append];omega
 refine⟨Gv X.length Y k,Fp X.length Y k,s',bV,r,AAX,hfree,by omega,?_,?_,fun q=>?_⟩
 ·rw[← hd,hd2]
  exact AFr (X:=X) (Y:=Y) (Z:=Z) (by rw[← e1];exact hR) (by rw[← e1];exact hk) (s:=Br ts k ts.length) (by rw[← e1]) (by rw[e2];exact g4) (by rw[e2,e3];exact g5) hth
 ·rw[← hd,hd2,e1,Ge,Ge,Ge,Ge,hth]
  simp only[List.length_append,List.length_cons,List.length_take,List.length_drop]
  omega
 ·rw[← hd,hd2]
  have hT:∀ q,q∈things ts ↔ q∈things X∨q∈things Y∨q∈things Z:=fun q=>by
   rw[e1,Ge,Ge,List.mem_append,List.mem_append,or_assoc]
  have hY:∀ q,q∈things Y ↔ q∈(things Y).take (Di Y k)∨q∈(things Y).drop (Di Y k):=fun q=>by
   rw[← List.mem_append,List.take_append_drop]
  rw[Ge,Ge,hth,List.mem_append,List.mem_append,List.mem_append,List.mem_cons,hT,hY]
  constructor
  ·rintro ((q1 | q1 | q1 | q1) | q1)
   ·exact .inr (.inl q1)
   ·exact .inr (.inr (.inl (.inl q1)))
   ·exact .inl q1
   ·exact .inr (.inr (.inl (.inr q1)))
   ·exact .inr (.inr (.inr q1))
  ·rintro (q1 | q1 | (q1 | q1) | q1)
   ·exact .inl (.inr (.inr (.inl q1)))
   ·exact .inl (.inl q1)
   ·exact .inl (.inr (.inl q1))
   ·exact .inl (.inr (.inr (.inr q1)))
   ·exact .inr q1
structure Lies (w n:Nat)(k:Dk)(a h:Nat)(S:List Thing):Prop where
 d:∃ A B,FQ k n a h A B
 h4:h≤4
 fit:2 ^ h*w≤n
 n3:n≤320
 sh:CW w k a h=S
theorem Lies.len {w n a h:Nat}{k:Dk}{S:List Thing}(l:Lies w n k a h S):S.length=2 ^ h*w:=by
 obtain⟨A,B,d⟩:=l.d
 rw[← l.sh]
 unfold CW
 rw[List.length_take,d.ar.2]
 have:=l.fit
 omega
theorem Lies.k3 {w n a h:Nat}{k:Dk}{S:List Thing}(l:Lies w n k a h S):k.length=3:=by
 obtain⟨A,B,d⟩:=l.d
 rw[d.eq]
 rfl
theorem Lies.a2 {w n a h:Nat}{k:Dk}{S:List Thing}(l:Lies w n k a h S):a<2:=by
 obtain⟨A,B,d⟩:=l.d
 exact d.a2
theorem FQ.wr {k:Dk}{n a h:Nat}{A B:List Thing}(d:FQ k n a h A B){o:Nat}(ho:o<2)(p:Nat)(x:Thing):∃ A' B',FQ (DW k (o,p,x)) n a h A' B':=by
 obtain⟨rfl,lA,lB,a2⟩:=d
 match o,ho with
 | 0,_=>exact⟨A.set p x,B,rfl,by rw[List.length_set];exact lA,lB,a2⟩
 | 1,_=>exact⟨A,B.set p x,rfl,lA,by rw[List.length_set];exact lB,a2⟩
theorem sX {k:Dk}{o a p:Nat}{x:Thing}(ho:o<k.length):CT (DW k (o,p,x)) a=if o=a then (CT k a).set p x else CT k a:=by
 unfold CT DW
 by_cases e:o=a
 ·subst e
  rw[if_pos rfl,List.getD_eq_getElem?_getD,List.getElem?_set_self ho]
  rfl
 ·rw[if_neg e,List.getD_eq_getElem?_getD,List.getElem?_set_ne e,← List.getD_eq_getElem?_getD]
theorem Lies.here {w n a h:Nat}{k:Dk}{S:List Thing}(l:Lies w n k a h S){p:Nat}(x:Thing)(hp:p<2 ^ h*w):Lies w n (DW k (a,p,x)) a h (S.set p x)∧Hm k (a,p,x):=by
 obtain⟨A,B,d⟩:=l.d
 have hk:=l.k3
 have ha:=l.a2
 refine⟨⟨d.wr ha p x,l.h4,l.fit,l.n3,?_⟩,by show a<k.length;omega,?_⟩
 ·rw[← l.sh]
  unfold CW
  rw[sX (by omega),if_pos rfl,List.take_set]
 ·have:=d.ar.2
  have:=l.fit
  show p<(CT k a).length
  omega
theorem Lies.there {w n a h:Nat}{k:Dk}{S:List Thing}(l:Lies w n k a h S){p:Nat}(x:Thing)(hp:p<n):Lies w n (DW k (1-a,p,x)) a h S∧Hm k (1-a,p,x):=by
 obtain⟨A,B,d⟩:=l.d
 have hk:=l.k3
 have ha:=l.a2
 refine⟨⟨d.wr (by omega) p x,l.h4,l.fit,l.n3,?_⟩,by show 1-a<k.length;omega,?_⟩
 ·rw[← l.sh]
  unfold CW
  rw[sX (by omega),if_neg (by omega)]
 ·have:=d.Nt.2
  show p<(CT k (1-a)).length
  omega
noncomputable def QQ (w st:Nat)(one:Bool)(a h:Nat)(S:List Thing)(q:Wr):Prop :=
 (q=(2,0,some (((1-a:Nat):Int),((h+1:Nat):Int)))∧((things S).length:Int)=Cu w st h)∨q.1=1-a ∨
 (q.1=a∧q.2.1<S.length∧((q.2.2=none∧(one=true∨S.countP (fun e=>decide (e=S.getD q.2.1 none))=2))∨∃ v,q.2.2=some v∧(S.getD q.2.1 none=none∨∃ x,S.getD q.2.1 none=some (v.1,x))))
noncomputable def YC (X:List Pr)(S:List Thing):Prop:=dd (things S)=X∧DX X∧(things S).length≤X.length+1
theorem qK {S:List Thing}(h:DX (things S)):YC (things S) S:=⟨dN h,h,Nat.le_succ _⟩
inductive Fv (w st n:Nat)(X:List Pr):Dk→List Wr→Dk→Prop
 | nil (k:Dk):Fv w st n X k [] k
 | cons {k k':Dk}{q:Wr}{r:List Wr}{a h a' h':Nat}{S S':List Thing}:Lies w n k a h S→Hm k q→QQ w st false a h S q→Lies w n (DW k q) a' h' S'→YC X S'→Fv w st n X (DW k q) r k'→Fv w st n X k (q::r) k'
theorem Fv.append {w st n:Nat}{X:List Pr}{k k' k'':Dk}{r r':List Wr}(m:Fv w st n X k r k')(m':Fv w st n X k' r' k''):Fv w st n X k (r++r') k'':=by
 induction m with
 | nil=>exact m'
 | cons a b c d e _ ih=>exact .cons a b c d e (ih m')
theorem Fv.GR {w st n:Nat}{X:List Pr}{k k':Dk}{r:List Wr}(m:Fv w st n X k r k'):k'=GR k r:=by
 induction m with
 | nil=>rfl
 | cons a b c d e _ ih=>exact ih
theorem Fv.ok {w st n:Nat}{X:List Pr}{k k':Dk}{r:List Wr}(m:Fv w st n X k r k'):∀ q∈r,Hm k q:=by
 induction m with
 | nil=>intro q h;cases h
 | @cons k k' q r a h a' h' S S' _ o _ _ _ _ ih =>
  intro p hp
  rcases List.mem_cons.mp hp with rfl | hp
  ·exact o
  ·have al:Alike (LL.DW k q) k:=⟨((Alike.refl k).DW q).1.symm,fun a=>(((Alike.refl k).DW q).2 a).symm⟩
   exact al.ok (ih p hp)
theorem xX {w st n a h:Nat}{X:List Pr}(hX:DX X){s s':List Thing}{ms:List Tr}(r:Run Gn s ms s'):∀ {k:Dk},Lies w n k a h s→things s=X→∃ k',Fv w st n X k ((CV ms).map fun q=>((a,q.1,q.2):Wr)) k'∧Lies w n k' a h s'∧things s'=X:=by
 induction r with
 | nil s=>exact fun {k} l e=>⟨k,.nil k,l,e⟩
 | @cons s s' t ms p r ih =>
  intro k l e
  have hs:=l.len
  have ok:=p.ok (by rw[e];exact hX)
  have hc:t.1<s.length:=by
   rcases Nat.lt_or_ge t.1 s.length with h | h
   ·exact h
   ·have:=ok.here
    rw[List.getElem?_eq_none h] at this
    cases this
  have hne:t.2.1≠t.1:=by
   intro e
   have h1:=ok.free
   have h2:=ok.here
   rw[e,h2] at h1
   cases h1
  obtain⟨l1,o1⟩:=l.here (some t.2.2) (p:=t.2.1) (by rw[← hs];exact ok.lt)
  obtain⟨l2,o2⟩:=l1.here none (p:=t.1) (by rw[← hs];exact hc)
  obtain⟨k',m,l',e'⟩:=ih l2 (ok.fin.trans e)
  refine⟨k',.cons l o1 (.inr (.inr ⟨rfl,ok.lt,.inr ⟨_,rfl,.inl (by rw[List.getD,ok.free];rfl)⟩⟩)) l1 ⟨ok.mid.trans e,hX,by rw[ok.few,e];exact Nat.le_refl _⟩ (.cons l1 o2 (.inr (.inr ⟨rfl,by rw[List.length_set];exact hc,.inl ⟨rfl,.inr ?_⟩⟩)) l2 ⟨?_,hX,?_⟩ m),l',e'⟩
  ·have hg:(s.set t.2.1 (some t.2.2)).getD t.1 none=some t.2.2:=by
    rw[List.getD_eq_getElem?_getD,List.getElem?_set_ne hne,ok.here]
    rfl
   show (s.set t.2.1 (some t.2.2)).countP (fun e=>decide (e=(s.set t.2.1 (some t.2.2)).getD t.1 none))=2
   rw[hg]
   exact AG7 p (by rw[e];exact hX)
  ·exact (congrArg dd (ok.fin.trans e)).trans (dN hX)
  ·exact Nat.le_succ_of_le (Nat.le_of_eq (congrArg List.length (ok.fin.trans e)))
theorem t8 {w st n a h:Nat}{S:List Thing}(hS:DX (things S)):∀ (ws:List (Nat×Thing)) {k:Dk},Lies w n k a h S→(∀ q∈ws,q.1<n)→∃ k',Fv w st n (things S) k (ws.map fun q=>((1-a,q.1,q.2):Wr)) k'∧Lies w n k' a h S
 | [],k,l,_=>⟨k,.nil k,l⟩
 | q::ws,k,l,hq=>by
  obtain⟨l1,o1⟩:=l.there q.2 (p:=q.1) (hq q (.head _))
  obtain⟨k',m,l'⟩:=t8 hS ws l1 fun p hp=>hq p (.tail _ hp)
  exact⟨k',.cons l o1 (.inr (.inl rfl)) l1 (qK hS) m,l'⟩
theorem xV {w st n a h:Nat}{S:List Thing}{k:Dk}(l:Lies w n k a h S)(hS:DX (things S))(hX:0<(things S).length)(hXW:(things S).length≤2 ^ (h+1)*w)(h3:h+1≤4)(hW:2 ^ (h+1)*w≤n)(hc:((things S).length:Int)=Cu w st h) :
  ∃ k' Y,Fv w st n (things S) k (gW w k a h) k'∧Lies w n k' (1-a) (h+1) Y∧things Y=things S∧Eo (PL (things S) (2 ^ (h+1)*w)) (List.replicate (2 ^ (h+1)*w) none)=Y:=by
 obtain⟨A,B,d⟩:=l.d
 have hsh:=l.sh
 subst hsh
 obtain⟨A',B',Y,d',hY0,hY1,hY2,hY3⟩:=grown d hX hXW hW
 have ok:=ABo d hX hXW hW
 obtain⟨k1,m1,l1⟩:=t8 (st:=st) hS (Hs (CT k (1-a))++Hn (things (CW w k a h)) (2 ^ (h+1)*w)) l (fun q hq=>by
  have:=(ok ((1-a,q.1,q.2):Wr) (Cw (List.mem_map_of_mem (f:=fun q:Nat×Thing=>((1-a,q.1,q.2):Wr)) hq))).2
  have h2:=d.Nt.2
  change q.1<(CT k (1-a)).length at this
  omega)
 have e1:DW k1 (2,0,some (((1-a:Nat):Int),((h+1:Nat):Int)))=GR k (gW w k a h):=by
  rw[m1.GR]
  unfold gW
  rw[fU]
  rfl
 have l2:Lies w n (DW k1 (2,0,some (((1-a:Nat):Int),((h+1:Nat):Int)))) (1-a) (h+1) Y:=by
  rw[e1]
  exact⟨⟨A',B',d'⟩,h3,hW,l.n3,hY1⟩
 refine⟨_,Y,m1.append (.cons l1 ?_ (.inl ⟨rfl,hc⟩) l2 ?_ (.nil _)),l2,hY3,hY0⟩
 ·obtain⟨A1,B1,d1⟩:=l1.d
  rw[d1.eq]
  exact⟨by show 2<3;decide,by show 0<1;decide⟩
 ·rw[← hY3]
  exact qK (by rw[hY3];exact hS)
structure Q0 (w st n:Nat)(k:Dk)(X:List Pr)(ws:List Wr)(k':Dk)(a' h':Nat)(S':List Thing):Prop where
 ex:∃ (pre:List Wr) (q:Wr) (k1:Dk) (a h:Nat) (S:List Thing),ws=pre++[q]∧Fv w st n X k pre k1∧Lies w n k1 a h S∧Hm k1 q∧QQ w st (decide (pre=[])) a h S q∧q.1=a∧k'=DW k1 q
 l:Lies w n k' a' h' S'
 r:Dr S'
theorem u9 {w st n a h:Nat}{k:Dk}{X:List Pr}{S:List Thing}(l:Lies w n k a h S){p:Nat}(x:Thing)(hp:p<S.length)(hf:x=none∨∃ v,x=some v∧∃ y,S.getD p none=some (v.1,y))(hR:Dr (S.set p x)):Q0 w st n k X [(a,p,x)] (DW k (a,p,x)) a h (S.set p x):=by
 have hl:=l.len
 obtain⟨l1,o1⟩:=l.here x (p:=p) (by omega)
 refine⟨⟨[],_,k,a,h,S,rfl,.nil k,l,o1,.inr (.inr ⟨rfl,hp,?_⟩),rfl,rfl⟩,l1,hR⟩
 rcases hf with rfl | ⟨v,rfl,y,hy⟩
 ·exact .inl ⟨rfl,.inl rfl⟩
 ·exact .inr ⟨v,rfl,.inr ⟨y,hy⟩⟩
theorem j8 {w st n a h:Nat}{k k0:Dk}{s s':List Thing}{ms:List Tr}{q:Nat}{v:Pr}{pre:List Wr}(l:Lies w n k a h s)(hR:DX (things s))(r:Run Gn s ms s')(hl:s'.length=s.length)(hf:s'[q]?=some none)(hr:Dr (s'.set q (some v)))(m:Fv w st n (things s) k0 pre k) :
  ∃ k',Q0 w st n k0 (things s) (pre++(CV ms++[(q,some v)]).map fun q=>((a,q.1,q.2):Wr)) k' a h (s'.set q (some v)):=by
 obtain⟨k1,m1,l1,e1⟩:=xX (st:=st) hR r l rfl
 have hq:q<s'.length:=by
  rcases Nat.lt_or_ge q s'.length with h | h
  ·exact h
  ·rw[List.getElem?_eq_none h] at hf
   cases hf
 have hs:=l1.len
 obtain⟨l2,o2⟩:=l1.here (some v) (p:=q) (by omega)
 refine⟨_,⟨pre++(CV ms).map fun q=>((a,q.1,q.2):Wr),(a,q,some v),k1,a,h,s',by rw[List.map_append,List.append_assoc];rfl,m.append m1,l1,o2,.inr (.inr ⟨rfl,hq,.inr ⟨v,rfl,.inl (by show s'.getD q none=none;rw[List.getD,hf];rfl)⟩⟩),rfl,rfl⟩,l2,hr⟩
noncomputable def VL:Ai:=(El (Az OD (Ac (Am M3 (Ac (Aa 1) Ae)) (Ac (Ax (Az RW (Ac (Ax (Az MT (Ac (Aa 0) (Ac (Aa 1) Ae)))) (Ac (Aa 2) Ae)))) Ae))))
noncomputable def Qo:List D→Option (List D):=Dt 3 3 VL
section
variable {t w st n a h:Nat}{k:Dk}{S:List Thing}
theorem nJ (bd:Bd (t:Int) (w:Int) (st:Int))(ht:h≤t):0<Cu w st h:=by
 have h1:=bd.lo
 have h2:=bd.s1
 have h3:(h:Int)*(st:Int)≤(t:Int)*st:=Int.mul_le_mul_of_nonneg_right (by omega) (by omega)
 rw[Int.mul_add,Int.mul_comm (st:Int) (t:Int)] at h1
 exact Int.mul_pos (Int.pow_pos (by decide)) (by omega)
theorem ABN (bd:Bd (t:Int) (w:Int) (st:Int))(ht:h+1≤t):Cu w st h<Cu w st (h+1):=by
 have h1:=bd.lo
 have h2:=bd.s1
 have h3:((h+1:Nat):Int)*(st:Int)≤(t:Int)*st:=Int.mul_le_mul_of_nonneg_right (by omega) (by omega)
 have h4:((h+1:Nat):Int)*(st:Int)=(h:Int)*st+st:=by rw[show ((h+1:Nat):Int)=(h:Int)+1 by omega,Int.add_mul,Int.one_mul]
 rw[Int.mul_add,Int.mul_comm (st:Int) (t:Int)] at h1
 unfold Cu
 rw[Int.pow_succ,Int.mul_assoc,h4]
 rw[h4] at h3
 exact Int.mul_lt_mul_of_pos_left (by omega) (Int.pow_pos (by decide))
theorem Lies.AAd (l:Lies w n k a h S)(t:Int)(st:Nat):MT [.tuple [.int t,.int (w:Int),.int (st:Int)],BK k]=some (S.map encD):=by
 obtain⟨A,B,d⟩:=l.d
 rw[R3 d l.h4,l.sh]
theorem AGK (l:Lies w n k a h S)(hR:Dr S){key:Int}(hk:key∈keysOf S)(st:Nat):∃ (p:Nat) (y:Int),Qo [.tuple [.int (t:Int),.int (w:Int),.int (st:Int)],BK k,.int key]=some ([((a,p,none):Wr)].map Bl)∧p<S.length∧S.getD p none=some (key,y) ∧
  Q0 w st n k (things S) [(a,p,none)] (DW k (a,p,none)) a h (S.set p none)∧(∀ q,q∈things (S.set p none) ↔ q∈things S∧q.1≠key)∧(things (S.set p none)).length+1=(things S).length:=by
 obtain⟨p,y,h1,h2,h3⟩:=eY hk
 obtain⟨A,B,q1,_,q2⟩:=Zw S p _ h3
 have hr:=(IK S).mp hR
 rw[q1] at hr
 have hne:=rP hr
 refine⟨p,y,?_,h2,h3,u9 l none h2 (.inl rfl) (List.Pairwise.sublist (Wx S p) hR),fun q=>?_,?_⟩
 ·have e1:=l.AAd (t:Int) st
  obtain⟨A,B,d⟩:=l.d
  have e2:=T3 d
  have e3:RW [.list (S.map encD),.int key]=some [By (p,none)]:=ADl h1
  have e4:OD [.int (a:Int),.list [By (p,none)]]=some [Bl (a,p,none)]:=Zh a [(p,none)] (by show 1<16777216;decide)
  refine FN rfl ?_
  unfold VL
  clear d q1 q2 hr hne h3
  walk_at "pu"
 ·rw[q1,q2]
  simp only[List.mem_append,List.mem_cons]
  constructor
  ·rintro (z | z)
   ·exact⟨.inl z,hne q (.inl z)⟩
   ·exact⟨.inr (.inr z),hne q (.inr z)⟩
  ·rintro ⟨z | z | z,z2⟩
   ·exact .inl z
   ·exact absurd (by rw[z]) z2
   ·exact .inr z
 ·rw[q1,q2]
  simp only[List.length_append,List.length_cons]
  omega
theorem AGM (bd:Bd (t:Int) (w:Int) (st:Int))(hn:n=2 ^ t*w)(l:Lies w n k a h S)(ht:h≤t)(hR:Dr S)(hcap:((things S).length:Int)≤Cu w st h)(key b:Int)(hno:key∈keysOf S∨h<t∨((things S).length:Int)<Cu w st h) :
  ∃ (gs:List Wr) (ws:List (Nat×Thing)) (k':Dk) (a' h':Nat) (S':List Thing),LK [.tuple [.int (t:Int),.int (w:Int),.int (st:Int)],BK k,.int key]=some (gs.map Bl)∧Jj [.tuple [.int (t:Int),.int (w:Int),.int (st:Int)],BK k,.int key,.int b]=some ((gs++ws.map fun q=>((a',q.1,q.2):Wr)).map Bl) ∧
   Q0 w st n k (things S) (gs++ws.map fun q=>((a',q.1,q.2):Wr)) k' a' h' S'∧h'≤t∧((things S').length:Int)≤Cu w st h'∧(∀ q,q∈things S' ↔ q=(key,b)∨(q∈things S∧q.1≠key))∧gs.length+ws.length≤1300:=by
 have bd':Bd ((t:Nat):Int) (w:Int) (st:Int):=bd
 obtain⟨w1,w20,Eh,s1,t4⟩:=Ml bd (hh:=t) (Int.le_refl _)
 obtain⟨A,B,d⟩:=l.d
 have hmg:=ABq (w:=w) (st:=st) (t:=t) d l.h4 t4 Eh l.n3 key
 rw[l.sh] at hmg
 have hlen:=l.len
 have hn3:=l.n3
 have hfit:=l.fit
 by_cases hk:key∈keysOf S
 ·obtain⟨p,y,h1,h2,h3⟩:=eY hk
  obtain⟨P,Q,q1,q2,_⟩:=Zw S p _ h3
  have hr:=(IK S).mp hR
  rw[q1] at hr
  have hne:=rP hr
  rw[decide_eq_false (show ¬ key ∉ keysOf S from fun z=>z hk),Bool.and_false] at hmg
  refine⟨[],[(p,some (key,b))],_,a,h,S.set p (some (key,b)),Vs hmg,?_,u9 l (some (key,b)) h2 (.inr ⟨_,rfl,y,h3⟩) ?_,ht,?_,fun q=>?_,by show 1≤1300;decide⟩
  ·exact mV d l.h4 hmg (by rw[l.sh];exact AJi h1) (by show 1<16777216;decide)
  ·unfold Dr
   rw[W2 (y:=(key,b)) S p (key,y) h3 rfl]
   exact hR
  ·rw[q2]
   rw[q1] at hcap
   simpa using hcap
  ·rw[q1,q2]
   simp only[List.mem_append,List.mem_cons]
   constructor
   ·rintro (z | z | z)
    ·exact .inr ⟨.inl z,hne q (.inl z)⟩
    ·exact .inl z
    ·exact .inr ⟨.inr (.inr z),hne q (.inr z)⟩
   ·rintro (z | ⟨z | z | z,z2⟩)
    ·exact .inr (.inl z)
    ·exact .inl z
    ·exact absurd (by rw[z]) z2
    ·exact .inr (.inr z)
 ·have hnew:∀ (T:List Thing),things T=things S→∀ q:Pr,(q=(key,b)∨q∈things T) ↔ (q=(key,b)∨(q∈things S∧q.1≠key)):=fun T hT q=>by
   rw[hT]
   refine or_congr Iff.rfl ⟨fun z=>⟨z,fun e=>hk ?_⟩,fun z=>z.1⟩
   rw[Hj,← e]
   exact List.mem_map_of_mem z
  by_cases hc:((things S).length:Int)<Cu w st h
  ·rw[decide_eq_true hc,Bool.not_true,Bool.and_false,Bool.false_and] at hmg
   obtain⟨ms,q,s',e1,r,e2,e3,e4,e5,e6,e7⟩:=uF (ts:=S) (t:=(t:Int)) (w:=w) (st:=st) (hh:=h) bd (by omega) hlen hR b hk (by rw[Qz];exact hc)
   obtain⟨k',dk⟩:=j8 l ((IK S).mp hR) r e2 e3 e5 (.nil (w:=w) (st:=st) (n:=n) k)
   refine⟨[],_,k',a,h,_,Vs hmg,?_,dk,ht,by rw[e6];omega,fun q=>(e7 q).trans (hnew S rfl q),?_⟩
   ·exact mV d l.h4 hmg (by rw[l.sh];exact e1) (by rw[List.length_append,Nu];show 2*ms.length+1<16777216;omega)
   ·rw[List.length_append,Nu]
    show 0+(2*ms.length+1)≤1300
    omega
  ·have hht:h<t:=(hno.resolve_left hk).resolve_right hc
   rw[decide_eq_false hc,decide_eq_false (show ¬ h=t by omega),decide_eq_true hk] at hmg
   have hpos:=nJ bd ht (h:=h)
   have hup:=ABN bd hht
   have hW:2 ^ (h+1)*w≤n:=by
    rw[hn]
    exact Nat.mul_le_mul_right _ (Nat.pow_le_pow_right (by decide) hht)
   have hle:=R8 S
   have h2p:2 ^ h*w≤2 ^ (h+1)*w:=Nat.mul_le_mul_right _ (Nat.pow_le_pow_right (by decide) (Nat.le_succ h))
   have hX:0<(things S).length:=by omega
   have hgw:=AFf (w:=w) (st:=st) (t:=t) d (by omega) hn3 (by rw[l.sh];exact hR) (by rw[l.sh];exact hX) hmg
   obtain⟨k1,Y,m1,l1,y1,y2⟩:=xV (st:=st) l ((IK S).mp hR) hX (by omega) (by omega) hW (by omega)
   have hRY:Dr Y:=by rw[IK,y1];exact (IK S).mp hR
   have hkY:key ∉ keysOf Y:=by
    rw[Hj,y1,← Hj]
    exact hk
   have hlY:=l1.len
   obtain⟨ms,q,s',e1,r,e2,e3,e4,e5,e6,e7⟩:=uF (ts:=Y) (t:=(t:Int)) (w:=w) (st:=st) (hh:=h+1) bd (by omega) hlY hRY b hkY (by rw[Qz,y1];show _<Cu w st (h+1);omega)
   have m2:=m1
   rw[← y1] at m2
   obtain⟨k',dk⟩:=j8 l1 ((IK Y).mp hRY) r e2 e3 e5 m2
   rw[y1] at dk
   obtain⟨A1,B1,d1⟩:=l1.d
   have hgl:(gW w k a h).length≤641:=by
    unfold gW
    rw[List.length_append,List.length_map,List.length_append,XQ,l.sh]
    have:=Vp (CT k (1-a))
    have:=d.Nt.2
    show _+1≤641
    omega
   refine⟨gW w k a h,_,k',1-a,h+1,_,hgw,?_,dk,hht,by rw[e6,y1];omega,fun q=>(e7 q).trans (hnew Y y1 q),?_⟩
   ·exact uV l.k3 d1 l1.h4 hgw m1.ok m1.GR.symm (by rw[l1.sh];exact e1) (by rw[List.length_append,Nu];show _+(2*ms.length+1)<16777216;omega)
   ·rw[List.length_append,Nu]
    show _+(2*ms.length+1)≤1300
    have AKH:ms.length≤320:=e4
    omega
end
theorem Vr {t w st:Nat}{h:Nat}(h4:h≤4):Ly [.tuple [.int (t:Int),.int (w:Int),.int (st:Int)],.int (h:Int)]=some (.int (Cu w st h)):=by
 have Gg:=Pq (h:=(h:Int)) (by omega) (by omega)
 have hTs:-18446744073709551616<tw (h:Int)∧tw (h:Int)<18446744073709551616:=by
  rcases Qu (h:=(h:Int)) (by omega) (by omega) with e | e | e | e | e<;>omega
 have hhs:-18446744073709551616<(h:Int)∧(h:Int)<18446744073709551616:=by omega
 have e:Cu w st h=tw (h:Int)*((w:Int)-(h:Int)*(st:Int)):=by
  unfold Cu
  rw[O4]
  push_cast
  rfl
 rw[e]
 generalize tw (h:Int)=T at *
 refine Dl (o:=.rt (.int (T*((w:Int)-(h:Int)*(st:Int))))) rfl ?_ rfl
 unfold Q6
 walk_at "pu"
theorem AFR (a:Addr)(k:Dk):Sl.view (.tr a (.nst (BW k)))=some (BK k):=by
 rw[T6]
 rfl
theorem xT (a:Addr)(d:List (List D)):Ug (.tr a (.nst d))=some (a,d):=rfl
theorem ABR {n m:Nat}{F:Ai}{ds:List D}{es:List (List D)}(hl:ds.length=n)(h:F (Gr m ds)=some (.rn es)):L2.runN n m F ds=some es:=by
 unfold L2.runN
 rw[if_pos hl,h]
 rfl
end LL
namespace L2
open PySem PySem.Spec PyProof.Rows PySem.W
theorem AGX:typeLookup (.type "list") "keys"=pure none:=by
 rw[typeLookup_type,builtinLookup_eq_fast]
 kernel_rfl
section
variable {prog:Program}{w:World}{A:Around}{s:Shared}{a:Addr}{xs:Array Value}{k:Nat}{sl:Array (Option Value)}
theorem AGG {tk:Tok}{Q E:Value→Shared→Prop}(hx:s.heap.get? a=some ⟨.type "list",none,.seq xs k,sl⟩)(hA:A.handled=none)(h:∀ h' t e,Heap.NewExcOf s.heap h' e "AttributeError"→E (.ref e) { s with heap:=h',toks:=t }):wpAny (model prog w) A (getAttrBy (.ref a) (.str "keys" tk) false) Q E s:=by
 obtain⟨hp,g,d,t0,os⟩:=s
 have ty:∀ t',(⟨hp,g,d,t',os⟩:Shared).TypeIs (.ref a) "list":=fun _=>⟨_,hx,rfl⟩
 have q1:=sub_AttributeError
 have q3:=F.slot_list_getattribute.lookup
 have q4:=F.slot_list_getattribute.bind (.ref a)
 have q5:=am_list_getattr_none
 unfold getAttrBy
 repeat (any_goals (first | assumption | exact ty _ | ((with_reducible show wpAny _ _ (call (Value.builtin "list.__getattribute__") _ _) _ _ _);refine call_meets F.slot_list_getattribute (ty _) am_entry_list_getattribute (F.args_list_getattribute_2 _ _) (meets_getattribute_miss_list a xs k sl "keys" _ AGX (by decide) (by size_fits)) ⟨hx,hA,fun h' t e ne=>?_⟩) | wp_step))
 obtain⟨t1,u1,he⟩:=ne.there
 change wpAny (model prog w) A (getattributeRaised (.ref a) (.str "keys" tk) (.type "list") (.ref e) none false false) Q E _
 unfold getattributeRaised
 repeat any_goals (first | wp_step | assumption)
 exact h h' t e ne.of
theorem zV {Q:Option Value→Shared→Prop}{E:Value→Shared→Prop}(hx:s.heap.get? a=some ⟨.type "list",none,.seq xs k,sl⟩)(hA:A.handled=none)(h:∀ h' t,(∀ b o,s.heap.get? b=some o→h'.get? b=some o)→Q none { s with heap:=h',toks:=t }):wpAny (model prog w) A (getAttr? (.ref a) "keys") Q E s:=by
 obtain⟨hp,g,d,t0,os⟩:=s
 have q1:=sub_AttributeError
 unfold getAttr? getAttrBy?
 repeat any_goals (first | assumption | with_reducible refine AGG (s:=⟨hp,g,d,_,os⟩) hx hA (fun h' t e ne=>?_) | wp_step)
 obtain⟨⟨c0,d0,f0,l0⟩,vs,he,hc,_,_⟩:=ne.there
 simp only at hc
 subst hc
 repeat any_goals (first | assumption | wp_step)
 exact h h' t ne.keeps
end
theorem Ti:plainId "dict.update.loop"=true:=by decide +kernel
theorem gD:entryFor table "dict.update.loop"=some Builtin.«dict.update.loop»:=entryFor_of_fast (by kernel_rfl)
theorem AHl {prog:Program}{w:World}{A:Around}{s:Shared}{b:Addr}{o:Obj}{xs:Array Value}{m:Nat}{Q:List Value→Shared→Prop}{E:Value→Shared→Prop}(hb:s.heap.get? b=some o)(hc:o.cls=.type "tuple")(hd:o.data=.seq xs m)(h:Q xs.toList s):wpAny (model prog w) A (Builtin.Dict.pairItems (.ref b)) Q E s:=by
 obtain⟨c0,d0,f0,l0⟩:=o
 simp only at hc hd
 subst hc hd
 unfold Builtin.Dict.pairItems
 have ty:s.TypeIs (.ref b) "tuple":=⟨_,hb,rfl⟩
 refine wpAny_bind (wpAny_typeOf ty ?_)
 rw[if_pos (by decide)]
 repeat any_goals (first | assumption | wp_step)
theorem bZ {prog:Program}{w:World}{h h':Heap}{d:Addr}{kvs:List (L2.Key×Value)}(x:h.DictOf (De prog w) d kvs)(e:∀ o,h.get? d=some o→h'.get? d=some o):h'.DictOf (De prog w) d kvs :=
 let ⟨o,es,ep,q,r⟩:=x
 ⟨o,es,ep,e _ q,r⟩
theorem AJg {acc:List (L2.Key×Value)}{k:L2.Key}{v:Value}:(stored acc k v).length≤acc.length+1:=by
 unfold stored
 split
 ·rw[List.length_map];omega
 ·rw[List.length_append];simp
theorem ABK (l:List (Int×Value)):∀ acc:List (L2.Key×Value),(l.foldl (fun acc kx=>stored acc (Sum.inl kx.1:L2.Key) kx.2) acc).length≤acc.length+l.length:=by
 induction l with
 | nil=>intro acc;simp
 | cons x l ih =>
  intro acc
  have h1:=ih (stored acc (Sum.inl x.1) x.2)
  have h2:=AJg (acc:=acc) (k:=Sum.inl x.1) (v:=x.2)
  rw[List.foldl_cons,List.length_cons]
  omega
noncomputable def Xm (h:Heap)(v:Value)(k:Int)(x:Value):Prop:=∃ (b:Addr) (o:Obj) (t:Tok) (m:Nat),v=.ref b∧h.get? b=some o∧o.cls=.type "tuple"∧o.data=.seq #[.int k t,x] m
section
variable {prog:Program}{w:World}{A:Around}{s:Shared}{R:Result→Shared→Prop}{d I l:Addr}{its:List Value}{ks:List (Int×Value)}
theorem AFv (hh:A.handled=none)(hlI:l≠I)(hdI:d≠I)(hdl:d≠l){h1:Heap}(hl:its.length=ks.length)(hz:ks.length<1000)(hp:∀ (i:Nat) (v:Value) (kx:Int×Value),its[i]?=some v→ks[i]?=some kx→Xm h1 v kx.1 kx.2)(hd1:∀ b o,h1.get? b=some o→b≠d∧b≠I)(hR:∀ h' tk,h'.DictOf (De prog w) d (ks.foldl (fun acc kx=>stored acc (Sum.inl kx.1:L2.Key) kx.2) [])→(∀ b o,h1.get? b=some o→h'.get? b=some o)→R (.ok (.ret .none)) { s with heap:=h',toks:=tk }) :
  ∀ (j i:Nat) (h:Heap) (tk:Nat),its.length-i=j→i≤its.length→h.IsListIter I l i∧h.IsList l its.toArray→h.DictOf (De prog w) d ((ks.take i).foldl (fun acc kx=>stored acc (Sum.inl kx.1:L2.Key) kx.2) [])→(∀ b o,h1.get? b=some o→h.get? b=some o) →
   codeAny (model prog w) A (.builtin "dict.update.loop" ⟨[.ref d,.ref I,rawInt i,.none],[]⟩) R { s with heap:=h,toks:=tk }:=by
 have W:=Walks.list (prog:=prog) (w:=w) (A:=A.in1) hh I l hlI its.toArray
 intro j
 induction j with
 | zero =>
  intro i h tk hj hi hst hD hk
  have hin:i=its.toArray.size:=by simp;omega
  refine codeAny_builtin gD ?_
  rw[Around.under_plainId Ti _]
  subst hin
  show wpAny _ A.in1 (pyNext (.ref I) >>= _) _ _ _
  refine wpAny_bind (W.done { s with heap:=h,toks:=tk } _ _ hst fun h' tk' keep=>?_)
  rw[List.take_of_length_le (by simp;omega)] at hD
  refine wpAny_bind (wpAny_pure (wpAny_pure (hR h' tk' (bZ hD fun o e=>keep d o (by simp [hdI]) e) fun b o e=>keep b o (by simp [(hd1 b o e).2]) (hk b o e))))
 | succ j ih =>
  intro i h tk hj hi hst hD hk
  have hlt:i<its.toArray.size:=by simp;omega
  refine codeAny_builtin gD ?_
  rw[Around.under_plainId Ti _]
  show wpAny _ A.in1 (pyNext (.ref I) >>= _) _ _ _
  refine wpAny_bind (W.item i { s with heap:=h,toks:=tk } _ _ hlt hst fun v h' tk' hv hst' hs=>?_)
  obtain⟨kx,ekx⟩:∃ kx,ks[i]?=some kx:=⟨_,List.getElem?_eq_getElem (by simp at hlt;omega)⟩
  obtain⟨b,o,t,m,rfl,hb,hc,hdt⟩:=hp i v kx (by simpa using hv) ekx
  have hb':h'.get? b=some o:=hs b o (by simp [(hd1 b o hb).2]) (hk b o hb)
  have hD':h'.DictOf (De prog w) d ((ks.take i).foldl (fun acc kx=>stored acc (Sum.inl kx.1:L2.Key) kx.2) []):=bZ hD fun o e=>hs d o (by simp [hdI]) e
  refine wpAny_bind (wpAny_holding ?_)
  refine wpAny_bind (wpAny_tryCatch (AHl (s:={ s with heap:=h',toks:=tk' }) hb' hc hdt ?_))
  show wpAny _ _ (holding [Value.int kx.1 t,kx.2] (dictSet d (Value.int kx.1 t) kx.2)) _ _ _
  have hfl:=ABK (ks.take i) []
  rw[List.length_take] at hfl
  refine wpAny_holding (wpAny_dictSet_pairs (k:=(Sum.inl kx.1:L2.Key)) (Oj (k:=Sum.inl kx.1) ⟨t,rfl⟩) hD' (fun h2 hd2 hs2=>?_) (by refine Nat.le_trans hfl ?_;show 0+min i ks.length≤sizeLine;rw[sizeLine_eq];omega))
  have k2:∀ b o,b≠d→h'.get? b=some o→h2.get? b=some o:=fun b o nb e=>hs2.extBut b o nb e
  have key:=ih (i+1) h2 (tk'+1) (by omega) (by simp at hlt;omega) ⟨hst'.1.at fun o e=>k2 I o (Ne.symm hdI) e,hst'.2.at fun o e=>k2 l o (Ne.symm hdl) e⟩ (by
   rw[List.take_add_one,ekx]
   simp only[Option.toList_some,List.foldl_append,List.foldl_cons,List.foldl_nil]
   exact hd2) fun b o e=>k2 b o (hd1 b o e).1 (hs b o (by simp [(hd1 b o e).2]) (hk b o e))
  rw[show ((i+1:Nat):Int)=(i:Int)+1 by omega] at key
  exact wpAny_pure ⟨plainId_quiet Ti _,key⟩
end
section
variable {prog:Program}{w:World}{A:Around}{E:Value→Shared→Prop}{s:Shared}{l:Addr}{its:List Value}{ks:List (Int×Value)}
theorem AEw {Q:Value→Shared→Prop}{e:Nat}{sl:Array (Option Value)}(hh:A.handled=none)(hx:s.heap.get? l=some ⟨.type "list",none,.seq its.toArray e,sl⟩)(hl:its.length=ks.length)(hz:ks.length<1000)(hp:∀ (i:Nat) (v:Value) (kx:Int×Value),its[i]?=some v→ks[i]?=some kx→Xm s.heap v kx.1 kx.2)(h:∀ h' tk,h'.DictOf (De prog w) s.heap.objs.size (ks.foldl (fun acc kx=>stored acc (Sum.inl kx.1:L2.Key) kx.2) [])→(∀ b o,s.heap.get? b=some o→h'.get? b=some o)→Q (.ref s.heap.objs.size) { s with heap:=h',toks:=tk }) :
  wpAny (model prog w) A (call (.type "dict") [.ref l]) Q E s:=by
 refine callType_codes (Q₁:=fun obj u=>obj=.ref s.heap.objs.size∧u={ s with heap:=s.heap.push { cls:=.type "dict",data:=.dict #[] } }) F.kt_called_dict (F.kt_typeCall_dict_1 _) F.entry_dict_init (kt_code_dict_new _ ⟨rfl,rfl⟩) ?_
 rintro obj u ⟨rfl,rfl⟩
 have dn:(s.heap.push { cls:=.type "dict",data:=.dict #[] }).DictOf (De prog w) s.heap.objs.size []:=Heap.DictOf.new s.heap
 have x1:(s.heap.push { cls:=.type "dict",data:=.dict #[] }).get? l=some ⟨.type "list",none,.seq its.toArray e,sl⟩:=Heap.get?_push_of_some _ hx
 have lt:=Heap.lt_size hx
 refine⟨dn.typeIs,F.args_dict_init_2 _ _,?_⟩
 unfold Builtin.«dict.__init__»
 refine wpAny_bind ?_
 unfold Builtin.Dict.selfAndRest
 refine wpAny_bind (wpAny_notOrdered_dict dn.typeIs (wpAny_pure (a:=(s.heap.objs.size,[Value.ref l])) ?_))
 show wpAny _ _ (Builtin.Dict.updateFrom "dict.__init__" s.heap.objs.size (.ref l) [] .none) _ _ _
 unfold Builtin.Dict.updateFrom
 refine wpAny_bind (wpAny_typeOf (T:="list") ⟨_,x1,rfl⟩ ?_)
 rw[if_pos (by decide)]
 refine wpAny_bind (zV x1 hh fun h2 t2 k2=>?_)
 rw[if_pos (show (none:Option Value).isNone=true from rfl)]
 have x2:=k2 l _ x1
 have kd:∃ o,h2.get? s.heap.objs.size=some o:=by
  obtain⟨o,_,_,q,_⟩:=dn
  exact⟨o,k2 _ _ q⟩
 have ltd:s.heap.objs.size<h2.objs.size:=by
  obtain⟨o,q⟩:=kd
  exact Heap.lt_size q
 have keep:∀ b o,s.heap.get? b=some o→h2.get? b=some o:=fun b o q=>k2 b o (Heap.get?_push_of_some _ q)
 refine wpAny_bind (wpAny_rule (wpAny_bind (wpAny_pyIter_list (items:=its.toArray) ⟨_,x2,rfl,_,rfl⟩ (wpAny_pure ⟨plainId_quiet Ti _,?_⟩))))
 refine AFv (s:=s) (h1:=s.heap) (A:=A.in1) hh (Nat.ne_of_lt (Heap.lt_size x2)) (Nat.ne_of_lt ltd) (Nat.ne_of_gt lt) hl hz hp (fun b o q=>⟨Nat.ne_of_lt (Heap.lt_size q),Nat.ne_of_lt (Heap.lt_size (keep b o q))⟩) (fun h' tk hd hk=>⟨rfl,h h' tk hd hk⟩) its.length 0 _ t2 rfl (Nat.zero_le _) ⟨⟨_,Heap.get?_push_size _ rfl,rfl,rfl⟩,⟨_,Heap.get?_push_of_some _ x2,rfl,_,rfl⟩⟩ (bZ dn fun o q=>Heap.get?_push_of_some _ (k2 _ _ q)) fun b o q=>Heap.get?_push_of_some _ (keep b o q)
end
section
variable {X:Cx}{pins:List (Addr×Obj)}{σ:St}{H:Hp}{s:Shared}
theorem uJ (I:Inv X pins σ H s):∀ {vs:List V}{its:List Value}{ks:List (Int×V)},Vals vs its→vs.length=ks.length→(∀ (i:Nat) (v:V) (kx:Int×V),vs[i]?=some v→ks[i]?=some kx→∃ b,v=.ref b∧Ds X.K H b [.int kx.1,kx.2]) →
  ∃ ks':List (Int×Value),its.length=ks'.length∧(∀ (i:Nat) (v:Value) (kx:Int×Value),its[i]?=some v→ks'[i]?=some kx→Xm s.heap v kx.1 kx.2)∧∀ (acc:List (L2.Key×V)) (acc':List (L2.Key×Value)),KV acc acc'→KV (ks.foldl (fun acc kx=>putK acc (Sum.inl kx.1:L2.Key) kx.2) acc) (ks'.foldl (fun acc kx=>stored acc (Sum.inl kx.1:L2.Key) kx.2) acc')
 | [],_,[],.nil,_,_=>⟨[],rfl,(fun i v kx h=>by simp at h),fun acc acc' h=>h⟩
 | [],_,_::_,.nil,h,_=>by simp at h
 | _::_,_,[],_,h,_=>by simp at h
 | _::vs,_,kx::ks,.cons r t,h,hp=>by
  obtain⟨ks',h1,h2,h3⟩:=uJ I t (by simpa using h) fun i v kx e1 e2=>hp (i+1) v kx (by simpa using e1) (by simpa using e2)
  obtain⟨b,rfl,hq⟩:=hp 0 _ kx rfl rfl
  cases r
  obtain⟨Wh,v0,pl,_⟩:=I.tuple hq
  obtain⟨u1,u2,rfl,r1,r2⟩:=vals2 v0
  obtain⟨t1,rfl⟩:=r1
  obtain⟨o,e,c,n,dd⟩:=pl
  refine⟨(kx.1,u2)::ks',by simp [h1],fun i v ky e1 e2=>?_,fun acc acc' hk=>?_⟩
  ·cases i with
   | zero =>
    simp at e1 e2
    subst e1 e2
    exact⟨b,o,t1,n,rfl,e,c,dd⟩
   | succ i=>exact h2 i v ky (by simpa using e1) (by simpa using e2)
  ·exact h3 _ _ (hk.put (Sum.inl kx.1:L2.Key) r2)
theorem zE (l:List (Int×V)):∀ acc:List (L2.Key×V),(l.foldl (fun acc kx=>putK acc (Sum.inl kx.1:L2.Key) kx.2) acc).length≤acc.length+l.length:=by
 induction l with
 | nil=>intro acc;simp
 | cons x l ih =>
  intro acc
  have h1:=ih (putK acc (Sum.inl x.1) x.2)
  have h2:=Yb acc (Sum.inl x.1) x.2
  rw[List.foldl_cons,List.length_cons]
  omega
noncomputable def pH (K:Frag):List V→Hp→VK→Prop:=fun xs H Q=>∃ (l:Addr) (vs:List V) (ks:List (Int×V)),xs=[.ref l]∧BP K H l vs∧vs.length=ks.length∧ks.length<1000∧(∀ (i:Nat) (v:V) (kx:Int×V),vs[i]?=some v→ks[i]?=some kx→∃ b,v=.ref b∧Ds K H b [.int kx.1,kx.2]) ∧
 ∀ p,H p=none→Q (.ref p) (upd H p (.dK (ks.foldl (fun acc kx=>putK acc (Sum.inl kx.1:L2.Key) kx.2) [])))
theorem wV (hh:X.A.handled=none):Gw X (.type "dict") (pH X.K):=by
 intro pins s σ H xs us Q I r h
 obtain⟨l,vs,ks,rfl,hq,hl,hz,hp,q⟩:=h
 obtain⟨u,rfl,rx⟩:=vals1 r
 cases rx
 obtain⟨its,v,pl,_⟩:=I.list hq
 obtain⟨⟨cls,dd,data,sl⟩,m,ho,hc,hd,hs⟩:=pl
 simp only at hc hd hs
 obtain⟨ks',h1,h2,h3⟩:=uJ I v hl hp
 subst hc hd hs
 have hlv:=v.length
 refine AEw hh ho h1 (by omega) h2 fun h' tk hd hk=>?_
 have hfl:=zE ks []
 have new:Ej X.prog X.w (upd H s.heap.objs.size (.dK (ks.foldl (fun acc kx=>putK acc (Sum.inl kx.1:L2.Key) kx.2) []))) h' s.heap.objs.size (.dK (ks.foldl (fun acc kx=>putK acc (Sum.inl kx.1:L2.Key) kx.2) [])) :=
  Yk (Nat.le_trans hfl (by show 0+ks.length≤sizeLine;rw[sizeLine_eq];omega)) (beq_eq_false_iff_ne.mpr (Ne.symm (Nat.ne_of_lt I.big))) (h3 [] [] .nil) hd
 exact⟨.ref s.heap.objs.size,_,I.laid (t':=tk) hk (Nat.le_refl _) new,rfl,q _ (I.hok.fresh (Nat.le_refl _))⟩
end
noncomputable def Ol:List D→Option (List (Int×Int))
 | []=>some []
 | .tuple [.int k,.int x]::r=>(Ol r).bind fun l=>some ((k,x)::l)
 | _=>none
noncomputable def QX (i:Nat)(f:PF)(F:Ai):Ai:=fun ρ=>(f (full ρ)).bind fun d=>(Gk d).bind fun ds=>(Ol ds).bind fun P=>if P.length<1000 then Kw fun a=>F (ρ.set i (.tr a (.dct (encM (P.foldl (fun acc p=>Dh acc p.1 p.2) []))))) else none
section
variable {X:Cx}{K:Frag}
theorem iR {G:Hp}:∀ {ds:List D}{xs:List V}{P:List (Int×Int)},Ar K G xs ds→Ol ds=some P→xs.length=P.length∧∀ (i:Nat) (v:V) (kx:Int×V),xs[i]?=some v→(P.map fun p=>(p.1,V.int p.2))[i]?=some kx→∃ b,v=.ref b∧Ds K G b [.int kx.1,kx.2]
 | [],_,_,.nil,h=>by cases h;exact⟨rfl,fun i v kx h=>by simp at h⟩
 | d::ds,_,P,.cons r t,h=>by
  unfold Ol at h
  split at h
  ·rename_i h0;cases h0
  ·rename_i k x r' h0
   cases h0
   obtain⟨l,e,h⟩:=Ag h
   cases h
   obtain⟨h1,h2⟩:=iR t e
   refine⟨by simp [h1],fun i v kx e1 e2=>?_⟩
   cases i with
   | zero =>
    simp at e1 e2
    subst e1 e2
    cases r with
    | tup q r =>
     cases r with
     | cons a r =>
      cases a
      cases r with
      | cons b r =>
       cases b
       cases r
       exact⟨_,rfl,q⟩
   | succ i=>exact h2 i v kx (by simpa using e1) (by simpa using e2)
  ·cases h
theorem kY:∀ (l acc:List (Int×V)),l.foldl (fun acc kx=>putK acc (Sum.inl kx.1:L2.Key) kx.2) (Eg acc)=Eg (l.foldl (fun acc kx=>Dh acc kx.1 kx.2) acc)
 | [],_=>rfl
 | x::l,acc=>by rw[List.foldl_cons,List.foldl_cons,lV,kY l]
theorem vP {G:Hp}:∀ (P:List (Int×Int)) {acc:List (Int×V)}{acc':List (Int×Int)},DR K G acc (encM acc')→DR K G ((P.map fun p=>(p.1,V.int p.2)).foldl (fun acc kx=>Dh acc kx.1 kx.2) acc) (encM (P.foldl (fun acc p=>Dh acc p.1 p.2) acc'))
 | [],_,_,h=>h
 | p::P,acc,acc',h=>by
  rw[List.map_cons,List.foldl_cons,List.foldl_cons]
  refine vP P ?_
  rw[← tR]
  exact h.put (.int p.2) p.1
theorem dU:∀ (P acc:List (Int×Int)),((acc++P).map (·.1)).Nodup→P.foldl (fun acc p=>Dh acc p.1 p.2) acc=acc++P
 | [],acc,_=>by simp
 | p::P,acc,h=>by
  have hn:p.1 ∉ acc.map (·.1):=fun z=>by
   rw[List.map_append,List.map_cons] at h
   exact (List.nodup_append.mp h).2.2 p.1 z p.1 Bf rfl
  have e:Dh acc p.1 p.2=acc++[p]:=by
   unfold Dh
   rw[if_neg fun z=>hn ((TV p.1 acc).mp z)]
  rw[List.foldl_cons,e,dU P _ (by rw[List.append_assoc];exact h),List.append_assoc]
  rfl
theorem AIF {i:Nat}{x:Str}{e:Expr}{te:TE}{f:PF}{rest:List Stmt}{u:TS}{F:Ai}{p cpos pos pos':Pos}(hK:X.K=K)(hh:X.A.handled=none)(hg:Gl X "dict")(hm:X.mg "dict"=none)(he:JE X K e te f)(hN:X.N.Nodup)(hi:X.N[i]?=some x)(hx:Loc X.env.scope x)(h:Dd X K rest u F)(hst:starEach [e] X.env=(false,eval e X.env)::starEach [] X.env:=by rfl)
  (hs:swapsWith (.Call (.Name "dict" p) [e] [] cpos) (some (.Name x pos')) pos.line X.env=pure false:=by rfl) (hf:X.fn x=true∨X.env.scope.names.lookup x=some .local:=by first | exact .inl rfl | exact .inr rfl | assumption) :
  Dd X K (.Assign [.Name x pos'] (.Call (.Name "dict" p) [e] [] cpos) pos::rest) (ZP (Dq (Ht (pH K) (Dz te Fw)) (Df i)) u) (QX i f F):=⟨by
 subst hK
 exact uY (Jl hN hi hx (Pk (wV hh) hg hm (by rfl) (GK he.pe Ho hst) (by decide) (by decide) hst rfl) hs hf) h.pe,by
 intro H0 O0 G σ H ρ o E ok t hf q
 obtain⟨d,e1,f1⟩:=Ag hf
 obtain⟨ds,e2,f2⟩:=Ag f1
 obtain⟨P,e3,f3⟩:=Ag f2
 clear hf f1 f2
 by_cases hz:P.length<1000
 case neg=>rw[if_neg hz] at f3;cases f3
 rw[if_pos hz] at f3
 show te σ H _
 refine t.Hy he.pu ok e1 fun v H1 s1 t1 r=>?_
 cases r with
 | lst hq r' =>
  cases e2
  obtain⟨h1,h2⟩:=iR r' e3
  refine⟨_,_,P.map fun p=>(p.1,V.int p.2),rfl,Cq.seq hq,by rw[List.length_map];exact h1,by rw[List.length_map];exact hz,fun i v kx a b=>?_,fun a hn=>?_⟩
  ·obtain⟨c,e,q⟩:=h2 i v kx a b
   exact⟨c,e,Cq.Km q⟩
  ·refine h.pu H0 O0 G _ _ _ o E ok ?_ (jC f3 a) q
   obtain⟨O,s0,n,nd,g,sl⟩:=t1.ex
   have okA:=G5 ok s0 sl
   have s':Aj H1 (upd H1 a (.dK ((P.map fun p=>(p.1,V.int p.2)).foldl (fun acc kx=>putK acc (Sum.inl kx.1:L2.Key) kx.2) []))):=Aj.new hn
   have na:a ∉ O:=fun z=>okA.fresh hn (Bc z)
   have big:Aj (Ah (O0++O) H1) (Ah (O0++([a]++O)) (upd H1 a (.dK ((P.map fun p=>(p.1,V.int p.2)).foldl (fun acc kx=>putK acc (Sum.inl kx.1:L2.Key) kx.2) [])))):=fun b o e=>by
    obtain⟨n1,e⟩:=GD e
    have nb:b≠a:=Cg e hn
    rw[Bw (by simp at n1 ⊢;exact⟨n1.1,nb,n1.2⟩)]
    exact s' b o e
   have sv:Ey K H0 O0 G σ _ ρ (.ref a) (.tr a (.dct (encM (P.foldl (fun acc p=>Dh acc p.1 p.2) [])))):=⟨O,[a],s0.trans s',n,nd,g.trans big,sl.mono big fun b _ o e=>s' b o e,rfl,rfl,na,s0.free hn,(vP P (acc:=[]) (acc':=[]) .nil).held (by rw[← kY];exact Cm)⟩
   exact sv.set i
 | _=>cases e2⟩
end
section
variable {K:Frag}{G H:Hp}
theorem Inner.setAt {b:Addr}{xs:List V}{ds:List D}(hb:H b=some (.lst xs))(r:Ar K G xs ds):∀ {ps:List Addr}{dss:List (List D)} (u:Nat),Inner K G H ps dss→Inner K G H (ps.set u b) (dss.set u ds)
 | _,_,_,.nil=>.nil
 | _,_,0,.cons e q t=>.cons hb r t
 | _,_,u+1,.cons e q t=>.cons e q (Inner.setAt hb r u t)
theorem jD {b:Addr}:∀ {ps:List Addr} (u:Nat),ps.Nodup→b ∉ ps→(ps.set u b).Nodup
 | [],_,_,_=>by simp
 | p::ps,0,nd,nb=>by
  rw[List.set_cons_zero]
  exact List.nodup_cons.mpr ⟨fun z=>nb (Bt z),(List.nodup_cons.mp nd).2⟩
 | p::ps,u+1,nd,nb=>by
  rw[List.set_cons_succ]
  have nd':=List.nodup_cons.mp nd
  refine List.nodup_cons.mpr ⟨fun z=>?_,jD u nd'.2 fun z=>nb (Bt z)⟩
  rcases List.mem_or_eq_of_mem_set z with z | z
  ·exact nd'.1 z
  ·exact nb (by rw[← z];exact Bf)
theorem Slots.ABM {a b:Addr}{ps:List Addr}{xs:List V}{ds:List D}{u:Nat}{dss:List (List D)}(hb:H b=some (.lst xs))(r:Ar K G xs ds)(ha:H a=some (.lst (ps.map V.ref))):∀ {σ:St}{ρ:Af}{O:List Addr}{i:Nat},O.Nodup→b ∉ O→b≠a→Slots K G H σ ρ O→ρ[i]?=some (.on dss)→σ[i]?=some (some (.ref a)) →
  ∃ O2,(∀ c∈O2,c=b∨c∈O)∧a∈O2∧O2.Nodup∧Slots K G (upd H a (.lst ((ps.set u b).map V.ref))) σ (ρ.set i (.on (dss.set u ds))) O2:=by
 intro σ ρ O i nd nb nba s h h2
 obtain⟨v,B,g1,g2,g3,g4⟩:=s.get h
 obtain⟨n,g4⟩:=g4 nd
 cases g2 with
 | on e q =>
  rw[g1] at h2
  cases h2
  cases Sq e ha
  have n':=List.nodup_cons.mp n
  have nps:b ∉ ps:=fun z=>nb (g3 b (Bt z))
  have hin:=(Inner.setAt hb r u q).mono (H':=upd H a (.lst ((ps.set u b).map V.ref))) (Aj.refl G) fun d hd o e=>by
   rcases List.mem_or_eq_of_mem_set hd with hd | hd
   ·rw[Bb fun z=>n'.1 (by rw[← z];exact hd)]
    exact e
   ·rw[Bb fun z=>nba (by rw[← hd,z])]
    exact e
  have hnd:(a::ps.set u b).Nodup:=List.nodup_cons.mpr ⟨fun z=>(List.mem_or_eq_of_mem_set z).elim n'.1 fun z=>nba z.symm,jD u n'.2 nps⟩
  have hf:∀ c∈a::ps.set u b,c∈O→c∈a::ps:=fun c hc z=>by
   rcases List.mem_cons.mp hc with w | w
   ·rw[w];exact Bf
   ·rcases List.mem_or_eq_of_mem_set w with w | w
    ·exact Bt w
    ·exact absurd (by rw[← w];exact z) nb
  obtain⟨O2,_,m1,m2,m3⟩:=g4 (Aj.refl _) (fun c _ hc o e=>by rw[Bb fun z=>hc (by rw[z];exact Bf)];exact e) (.on Cm hin) hnd hf
  rw[U0 g1] at m3
  refine⟨O2,fun c hc=>?_,(m2 a).mpr (.inl Bf),m1,m3⟩
  rcases (m2 c).mp hc with z | z
  ·rcases List.mem_cons.mp z with z | z
   ·exact .inr (by rw[z];exact g3 a Bf)
   ·rcases List.mem_or_eq_of_mem_set z with z | z
    ·exact .inr (g3 c (Bt z))
    ·exact .inl z
  ·exact .inr z.1
end
noncomputable def VF:Sl→Option (List D)
 | .ow ds=>some ds
 | _=>none
theorem AJz {s:Sl}{ds:List D}(h:VF s=some ds):s=.ow ds:=by
 unfold VF at h
 split at h
 ·cases h;rfl
 ·cases h
noncomputable def KD (i:Nat)(fi:PF)(vf:Af→Option Sl):Ai:=fun ρ=>(vf ρ).bind fun s=>(VF s).bind fun ds=>(fi (full ρ)).bind fun kd=>(Ez kd).bind fun k=>(ρ[i]?).bind fun s'=>(Jc s').bind fun dss=>(Ei dss.length k).bind fun u=>some (.nx (ρ.set i (.on (dss.set u ds))))
section
variable {X:Cx}{K:Frag}{pos:Pos}
theorem AJe (i:Nat){x:Str}{e ix:Expr}{te ti:TE}{fi:PF}{vf:Af→Option Sl}{p spos pos:Pos}(he:PE X e te)(pv:Dg K te vf)(hi:JE X K ix ti fi)(hN:X.N[i]?=some x:=by rfl)(hv:Es X.env.scope x:=by first | exact Or.inl rfl | exact Or.inr (Or.inl rfl) | exact Or.inr (Or.inr rfl))(hd:(x == ("__debug__":Str))=false:=by decide)
  (hcd:(x == ("__classdict__":Str))=false:=by decide)
  (ha:∀ v,assign (.Subscript (.Name x p) ix spos) X.env v=(do
   let ov ← holding [v] (eval (.Name x p) X.env)
   let iv ← holding [v,ov] (eval ix X.env)
   standAt spos
   holding [v,ov,iv] (setItem ov iv v)
   release [v,ov,iv] []):=by intro _;rfl)
  (hs:swapsWithSole [.Subscript (.Name x p) ix spos] e pos.line X.env=pure false:=by rfl) (hw:swappedStores [.Subscript (.Name x p) ix spos] e X.env=pure none:=by rfl)
  (h1:(assignEach [.Subscript (.Name x p) ix spos] X.env).map (·.2)=[assign (.Subscript (.Name x p) ix spos) X.env]:=by rfl) :
  JS X K (.Assign [.Subscript (.Name x p) ix spos] e pos) (Dq te (JC (CJ i) ti Ip)) (KD i fi vf):=⟨O5 he (Sd (G6 hN hv hd hcd) hi.pe set_list ha) hs hw h1,by
 intro H0 O0 G σ H ρ o E ok s hf q
 obtain⟨sl,e1,hf1⟩:=Ag hf
 obtain⟨ds,e2,hf2⟩:=Ag hf1
 obtain⟨kd,e5,hf3⟩:=Ag hf2
 obtain⟨k,e6,hf4⟩:=Ag hf3
 obtain⟨sl2,e3,hf5⟩:=Ag hf4
 obtain⟨dss,e4,hf6⟩:=Ag hf5
 obtain⟨u,e9,hf7⟩:=Ag hf6
 rw[AJz e2] at e1
 rw[Q7 e4] at e3
 cases hf7
 refine pv H0 O0 G σ H ρ _ _ ok s e1 fun v H' s' sv=>?_
 obtain⟨O,P,s0,n,nd,g,sl3,b,xs,rfl,rfl,nb,h0,hb,rb⟩:=sv.ex
 obtain⟨a,ps,g1,g2,g3,g4,g5⟩:=sl3.V7 nd e3
 refine⟨_,g1,?_⟩
 have ok':Bu O0 H':=ok.mono s0
 have HR:Dm K (Ah O0 H') σ (full ρ):=sl3.full (DN fun b hb=>Cw hb) fun c hc o e=>by
  rw[Bw (ok.fresh (n c hc))]
  exact e
 refine hi.pu O0 σ H' (full ρ) kd _ ok' HR e5 fun vi H2 s2 ri=>?_
 have hvi:vi=.int k:=by
  cases ri with
  | int i=>cases e6;rfl
  | _=>cases e6
 subst hvi
 have ha2:=s2 _ _ g4
 refine⟨a,_,k,u,rfl,rfl,ha2,by rw[List.length_map,g5.len];exact e9,?_⟩
 have YK:Aj (Ah (O0++([b]++O)) H') (Ah (O0++([b]++O)) H2):=DQ s2
 have nba:b≠a:=fun z=>nb (by rw[z];exact g2 a Bf)
 obtain⟨O2,q1,q2,q3,q4⟩:=Slots.ABM (K:=K) (G:=Ah (O0++([b]++O)) H2) (u:=u) (s2 _ _ hb) (rb.mono YK) ha2 nd nb nba (sl3.mono YK fun c _ o e=>s2 c o e) e3 g1
 have AIa:(ps.map V.ref).set u (.ref b)=(ps.set u b).map V.ref:=by rw[List.map_set]
 rw[AIa]
 have uQ:Aj (Ah (O0++([b]++O)) H2) (Ah (O0++O2) (upd H2 a (.lst ((ps.set u b).map V.ref)))):=fun c o e=>by
  obtain⟨n1,e⟩:=GD e
  have nc:c ∉ O0++O2:=fun z=>n1 ((List.mem_append.mp z).elim (fun w=>Cw w) fun w=>Bc ((q1 c w).elim (fun z=>by rw[z];simp) fun z=>by simp [z]))
  rw[Bw nc,Bb fun z=>nc (by rw[z];exact Bc q2)]
  exact e
 refine q σ _ ⟨O2,fun c o e=>?_,fun c hc=>?_,q3,(g.trans YK).trans uQ,q4.mono uQ fun _ _ _ e=>e⟩
 ·rw[Bb (Cg e (n a (g2 a Bf)))]
  exact s2 c o (s0 c o e)
 ·rcases q1 c hc with rfl | z
  ·exact h0
  ·exact n c z⟩
theorem ADo (i:Nat){x:Str}{e ix:Expr}{te ti:TE}{fi:PF}{f:BJ}{p spos pos:Pos}(he:JL X K e te f)(hi:JE X K ix ti fi)(hN:X.N[i]?=some x:=by rfl)(hv:Es X.env.scope x:=by first | exact Or.inl rfl | exact Or.inr (Or.inl rfl) | exact Or.inr (Or.inr rfl))(hd:(x == ("__debug__":Str))=false:=by decide)
  (hcd:(x == ("__classdict__":Str))=false:=by decide)
  (ha:∀ v,assign (.Subscript (.Name x p) ix spos) X.env v=(do
   let ov ← holding [v] (eval (.Name x p) X.env)
   let iv ← holding [v,ov] (eval ix X.env)
   standAt spos
   holding [v,ov,iv] (setItem ov iv v)
   release [v,ov,iv] []):=by intro _;rfl)
  (hs:swapsWithSole [.Subscript (.Name x p) ix spos] e pos.line X.env=pure false:=by rfl) (hw:swappedStores [.Subscript (.Name x p) ix spos] e X.env=pure none:=by rfl)
  (h1:(assignEach [.Subscript (.Name x p) ix spos] X.env).map (·.2)=[assign (.Subscript (.Name x p) ix spos) X.env]:=by rfl) :
  JS X K (.Assign [.Subscript (.Name x p) ix spos] e pos) (Dq te (JC (CJ i) ti Ip)) (KD i fi (Jv f)):=AJe i he.pe (ABZ he.pu) hi hN hv hd hcd ha hs hw h1
end
theorem ABw (ds:List D):VF (.ow ds)=some ds:=rfl
noncomputable def KQ (f:Et):Af→Option Sl:=fun ρ=>(f (full ρ)).bind fun dss=>if dss.all Em=true then some (.sh (.list (dss.map .list))) else none
section
variable {X:Cx}{K:Frag}
theorem lG {O0 O:List Addr}{H:Hp}(h:∀ a∈O,∃ o,H a=some o∧MF o=true):∀ {ps:List Addr}{dss:List (List D)},Inner K (Ah O0 H) H ps dss→dss.all Em=true→(∀ b∈ps,b ∉ O0++O)→Ar K (Ah (O0++O) H) (ps.map V.ref) (dss.map .list)
 | _,_,.nil,_,_=>.nil
 | p::ps,ds::dss,.cons e r t,f,n=>by
  have f':=Bool.and_eq_true_iff.mp (show (Em ds && dss.all Em)=true from f)
  exact .cons (.lst (BP.of (by rw[Bw (n p Bf)];exact e)) (Ni h r f'.1)) (lG h t f'.2 fun b hb=>n b (Bt hb))
theorem AIe {te:TE}{fl:Et}(h:Oo K te fl):Dg K te (KQ fl):=by
 intro H0 O0 G σ H ρ s Q ok t hf q
 obtain⟨dss,e1,hf⟩:=Ag hf
 by_cases hc:dss.all Em=true
 case neg=>rw[if_neg hc] at hf;cases hf
 rw[if_pos hc] at hf
 cases hf
 have ⟨o1,er⟩:=t.HR ok
 refine h O0 σ H (full ρ) dss _ o1 er e1 fun a ps H' s' nd hn ha inn=>?_
 obtain⟨O,s0,n,ndO,g,sl⟩:=t.ex
 have okA:=G5 ok s0 sl
 have nn:∀ b∈a::ps,b ∉ O0++O:=fun b hb=>okA.fresh (hn b hb)
 have sl':=sl.mono (DQ s':Aj (Ah (O0++O) H) (Ah (O0++O) H')) fun a _ o e=>s' a o e
 refine q _ H' s' ⟨O,[],s0.trans s',n,ndO,(by rw[List.nil_append];exact g.trans (DQ s')),(by rw[List.nil_append];exact sl'),rfl,?_⟩
 rw[List.nil_append]
 exact .lst (BP.of (by rw[Bw (nn a Bf)];exact ha)) (lG (fun b hb=>sl'.mem b hb) (inn.mono (DN fun b hb=>Bc hb) fun _ _ _ e=>e) hc fun b hb=>nn b (Bt hb))
end
noncomputable def Uy (i:Nat)(f:BJ):Ai:=fun ρ=>(ρ[i]?).bind fun s=>(Jc s).bind fun dss=>(dss[0]?).bind fun d0=>(dss[1]?).bind fun d1=>(f (full ρ)).bind fun ds=>if Em ds=true then some (.rn [d0,d1,ds]) else none
section
variable {X:Cx}{K:Frag}
theorem AAq (i:Nat){x:Str}{e:Expr}{te:TE}{f:BJ}{p0 p1 q0 q1 lp pos c0 c1:Pos}{t0 t1:Nat}(hK:X.K=K)(he:JL X K e te f)(hN:X.N[i]?=some x:=by rfl)(hv:Es X.env.scope x:=by first | exact Or.inl rfl | exact Or.inr (Or.inl rfl) | exact Or.inr (Or.inr rfl))(hd:(x == ("__debug__":Str))=false:=by decide)(hcd:(x == ("__classdict__":Str))=false:=by decide)
  (hs1:starEach [.Subscript (.Name x p0) (.Constant (.int 0) t0 c0) q0,.Subscript (.Name x p1) (.Constant (.int 1) t1 c1) q1,e] X.env=(false,eval (.Subscript (.Name x p0) (.Constant (.int 0) t0 c0) q0) X.env)::starEach [.Subscript (.Name x p1) (.Constant (.int 1) t1 c1) q1,e] X.env:=by rfl)
  (hs2:starEach [.Subscript (.Name x p1) (.Constant (.int 1) t1 c1) q1,e] X.env=(false,eval (.Subscript (.Name x p1) (.Constant (.int 1) t1 c1) q1) X.env)::starEach [e] X.env:=by rfl) (hs3:starEach [e] X.env=(false,eval e X.env)::starEach [] X.env:=by rfl)
  (hp0:Kp (.Constant (.int 0) t0 c0):=by intro _ _;rfl) (hp1:Kp (.Constant (.int 1) t1 c1):=by intro _ _;rfl) :
  JS X K (.Return (some (.List [.Subscript (.Name x p0) (.Constant (.int 0) t0 c0) q0,.Subscript (.Name x p1) (.Constant (.int 1) t1 c1) q1,e] lp)) pos) (Ib (Xz (Dz (Fq (Ik K) (CJ i) (tC (.int 0))) (Dz (Fq (Ik K) (CJ i) (tC (.int 1))) (Dz te Fw))))) (Uy i f):=⟨by
 subst hK
 exact M6 (fM (GK (Qd QG (G6 hN hv hd hcd) Zn hp0) (GK (Qd QG (G6 hN hv hd hcd) Zn hp1) (GK he.pe Ho hs3) hs2) hs1)),by
 intro H0 O0 G σ H ρ o E ok s hf q
 obtain⟨sl0,e1,hf⟩:=Ag hf
 obtain⟨dss,e2,hf⟩:=Ag hf
 obtain⟨d0,e3,hf⟩:=Ag hf
 obtain⟨d1,e4,hf⟩:=Ag hf
 obtain⟨ds,e5,hf⟩:=Ag hf
 by_cases hc0:Em ds=true
 case neg=>rw[if_neg hc0] at hf;cases hf
 rw[if_pos hc0] at hf
 cases hf
 rw[Q7 e2] at e1
 obtain⟨O,s0,n,nd,g,sl⟩:=s.ex
 obtain⟨a,ps,h1,h2,h3,h4,h5⟩:=sl.V7 nd e1
 obtain⟨r0,x0,q0',f0,g0⟩:=h5.get e3
 obtain⟨r1,x1,q1',f1,g1⟩:=h5.get e4
 have Hk:L2.Bj (ps.map V.ref) 0=some (.ref r0):=by
  refine iD (j:=0) ?_
  rw[List.getElem?_map,q0']
  rfl
 have HQ:L2.Bj (ps.map V.ref) 1=some (.ref r1):=by
  refine iD (j:=1) ?_
  rw[List.getElem?_map,q1']
  rfl
 refine⟨_,h1,.inl ⟨a,_,0,_,rfl,rfl,BP.of h4,Hk,_,h1,.inl ⟨a,_,1,_,rfl,rfl,BP.of h4,HQ,?_⟩⟩⟩
 have ⟨o1,er⟩:=s.HR ok
 refine he.pu O0 σ H (full ρ) ds _ o1 er e5 fun b xs H' s' hn hb rb=>⟨by show 3≤sizeLine;decide,fun c hc=>?_⟩
 have m0:r0∈O:=h2 r0 (Bt (List.mem_of_getElem? q0'))
 have m1:r1∈O:=h2 r1 (Bt (List.mem_of_getElem? q1'))
 have nps:=(List.nodup_cons.mp h3).2
 have AG5:r0≠r1:=fun z=>by
  obtain⟨l0,y0⟩:=List.getElem?_eq_some_iff.mp q0'
  obtain⟨l1,y1⟩:=List.getElem?_eq_some_iff.mp q1'
  have:=List.pairwise_iff_getElem.mp nps 0 1 l0 l1 (by decide)
  rw[y0,y1] at this
  exact this z
 have fb:b≠r0∧b≠r1:=⟨(fun z=>by rw[z,f0] at hn;cases hn),(fun z=>by rw[z,f1] at hn;cases hn)⟩
 have k0:=s' _ _ f0
 have k1:=s' _ _ f1
 have fc:c≠r0∧c≠r1∧c≠b:=⟨(fun z=>by rw[z,k0] at hc;cases hc),(fun z=>by rw[z,k1] at hc;cases hc),(fun z=>by rw[z,hb] at hc;cases hc)⟩
 have s2:Aj H' (upd H' c (.lst [.ref r0,.ref r1,.ref b])):=Aj.new hc
 have big:Aj (Ah (O0++O) H) (Ah ((c::[r0,r1,b])++O0) (upd H' c (.lst [.ref r0,.ref r1,.ref b]))):=fun y o e=>by
  obtain⟨n1,e⟩:=GD e
  have y1:y≠b:=Cg e hn
  have y2:y≠c:=Cg (s' _ _ e) hc
  rw[Bw (by
   intro z
   simp only[List.cons_append,List.nil_append,List.mem_cons] at z
   rcases z with z | z | z | z | z
   ·exact y2 z
   ·exact n1 (by rw[z];exact Bc m0)
   ·exact n1 (by rw[z];exact Bc m1)
   ·exact y1 z
   ·exact n1 (Cw z))]
  exact s2 _ _ (s' _ _ e)
 have sl':=sl.mono (DQ s':Aj (Ah (O0++O) H) (Ah (O0++O) H')) fun y _ o e=>s' y o e
 have rb':=Ni (K:=K) (O0:=b::O0) (O:=O) sl'.mem rb hc0
 have sb:Aj (Ah ((b::O0)++O) H') (Ah ((c::[r0,r1,b])++O0) (upd H' c (.lst [.ref r0,.ref r1,.ref b]))):=fun y o e=>by
  obtain⟨n1,e⟩:=GD e
  have y2:y≠c:=Cg e hc
  rw[Bw (by
   intro z
   simp only[List.cons_append,List.nil_append,List.mem_cons] at z
   rcases z with z | z | z | z | z
   ·exact y2 z
   ·exact n1 (by rw[z];exact Bc m0)
   ·exact n1 (by rw[z];exact Bc m1)
   ·exact n1 (by rw[z];exact Cw Bf)
   ·exact n1 (Cw (Bt z)))]
  exact s2 _ _ e
 refine q c [r0,r1,b] _ (s0.trans (s'.trans s2)) (by simp [fc.1,fc.2.1,fc.2.2,AG5,Ne.symm fb.1,Ne.symm fb.2]) (fun y hy=>?_) Cm (.cons (s2 _ _ k0) (g0.mono big) (.cons (s2 _ _ k1) (g1.mono big) (.cons (s2 _ _ hb) (rb'.mono sb) .nil)))
 simp only[List.mem_cons,List.not_mem_nil,or_false] at hy
 rcases hy with rfl | rfl | rfl | rfl
 ·exact s0.free (s'.free hc)
 ·exact n _ m0
 ·exact n _ m1
 ·exact s0.free hn⟩
end
structure FnAt (K:Frag)(x:Str)(st:Stmt):Prop where
 ex:∃ (f:Addr) (oc:Value) (od an:Option Addr) (sl:Array (Option Value)) (kV dc pm cd ct:Value),nsIn K mainGlobals x=some (some (.ref f)) ∧
  K.lookup f=some ⟨oc,od,.func (fnOf x x (JD st) (Gq st) (Dj st) .none kV dc pm an cd ct),sl⟩∧codeIn K cd x=true∧keepIn K (.ref f)=true
section
variable {K:Frag}{f:Addr}{x:Str}{st:Stmt}{oc kV dc pm cd ct:Value}{od an:Option Addr}{sl:Array (Option Value)}{mg:Str→Option Value}{h:Heap}
theorem fnAt (a:nsIn K mainGlobals x=some (some (.ref f)))(l:K.lookup f=some ⟨oc,od,.func (fnOf x x (JD st) (Gq st) (Dj st) .none kV dc pm an cd ct),sl⟩)(c:codeIn K cd x=true)(k:keepIn K (.ref f)=true):FnAt K x st :=
 ⟨f,oc,od,an,sl,kV,dc,pm,cd,ct,a,l,c,k⟩
theorem FnAt.d (A:FnAt K x st)(X:K.In h)(G:h.Ns mainGlobals mg){ps:List Str}(hb:∀ (kV doc pm:Value) (an:Option Addr) (cdv ct:Value) (us:List Value),us.length=ps.length→bindArgs (fnOf x x (JD st) (Gq st) (Dj st) .none kV doc pm an cdv ct) ⟨us,[]⟩=pure (ps.zip us)):Def K mg x st ps:=by
 obtain⟨f,oc,od,an,sl,kV,dc,pm,cd,ct,a,l,c,k⟩:=A.ex
 exact ACb X G hb a l c k
end
section
variable {X:Cx}{K:Frag}{e:Expr}{es:List Expr}{te:TE}{ta:TA}{f:Et}{i:Nat}
theorem AEV {rr:Af→Option (List D×List D)}(he:JN X K e te f)(hr:HD X K es ta i rr)(hs:starEach (e::es) X.env=(false,eval e X.env)::starEach es X.env:=by rfl):HD X K (e::es) (Dz te ta) i (Il (KQ f) rr):=gR he.pe (AIe he.pu) hr hs
theorem yR (i:Nat){x:Str}{e ix jx:Expr}{te ti tj:TE}{f fi fj:PF}{p DG spos pos:Pos}(he:JE X K e te f)(hK:X.K=K)(hi:JE X K ix ti fi)(hj:JE X K jx tj fj)(hsx:Kp ix)(hN:X.N[i]?=some x:=by rfl)(hv:Es X.env.scope x:=by first | exact Or.inl rfl | exact Or.inr (Or.inl rfl) | exact Or.inr (Or.inr rfl))(hd:(x == ("__debug__":Str))=false:=by decide)
  (hcd:(x == ("__classdict__":Str))=false:=by decide)
  (ha:∀ v,assign (.Subscript (.Subscript (.Name x p) ix DG) jx spos) X.env v=(do
   let ov ← holding [v] (eval (.Subscript (.Name x p) ix DG) X.env)
   let iv ← holding [v,ov] (eval jx X.env)
   standAt spos
   holding [v,ov,iv] (setItem ov iv v)
   release [v,ov,iv] []):=by intro _;rfl)
  (hs:swapsWithSole [.Subscript (.Subscript (.Name x p) ix DG) jx spos] e pos.line X.env=pure false:=by rfl) (hw:swappedStores [.Subscript (.Subscript (.Name x p) ix DG) jx spos] e X.env=pure none:=by rfl)
  (h1:(assignEach [.Subscript (.Subscript (.Name x p) ix DG) jx spos] X.env).map (·.2)=[assign (.Subscript (.Subscript (.Name x p) ix DG) jx spos) X.env]:=by rfl) :
  JS X K (.Assign [.Subscript (.Subscript (.Name x p) ix DG) jx spos] e pos) (Dq te (JC (Fq (Ik K) (CJ i) ti) tj Ip)) (Qx i fi fj (vS f)):=xF i he.pe (Hr he.pu) hK hi hj hsx hN hv hd hcd ha hs hw h1
end
structure Tag (P:Program)(w:World)(K:Frag)(mg:Str→Option Value)(base:Heap):Prop where
 t:True
theorem Callee.to {X:Cx}{P:Program}{w:World}{K:Frag}{mg:Str→Option Value}{base:Heap}{j k:Nat}{x:Str}{ps:List Str}{sp:Sp}(_:Tag P w K mg base)(C:Callee P w K mg base j x ps sp)(h:j≤k)(e:X.prog=P∧X.w=w∧X.K=K∧X.mg=mg∧X.base=base):Callee X.prog X.w X.K X.mg X.base k x ps sp:=by
 obtain⟨rfl,rfl,rfl,rfl,rfl⟩:=e
 exact C.mono h
noncomputable def JR:Expr→List Str
 | .Name x _=>[x]
 | .Tuple [.Name x _,.Name y _] _ _=>[x,y]
 | _=>[]
noncomputable def Gs (N:List Str)(js:List Nat):List (Nat×Str):=js.map fun j=>(j,N.getD j "")
theorem Vi (N:List Str)(js:List Nat):(Gs N js).map (·.1)=js:=by
 unfold Gs
 rw[List.map_map]
 exact List.map_id' js
noncomputable def YG:List Str→Bool
 | []=>true
 | x::r=>!r.contains x && YG r
theorem Tq:∀ {l:List Str},YG l=true→l.Nodup
 | [],_=>.nil
 | x::r,h=>by
  have h':=Bool.and_eq_true_iff.mp (show (!r.contains x && YG r)=true from h)
  refine List.nodup_cons.mpr ⟨fun z=>?_,Tq h'.2⟩
  have:=List.contains_iff_mem.mpr z
  rw[this] at h'
  cases h'.1
section
variable {X:Cx}{K:Frag}{tg elt iter:Expr}{ifs:List Expr}{scope:Scope}{wi:TI}{g:TG}{tc:TT}{te:TE}{fi:BJ}{bd:D→BR→Option BR}{pt:PB}{n:Nat}{js:List Nat}
noncomputable abbrev Hc (X:Cx)(tg:Expr)(js:List Nat)(scope:Scope)(fp:List Addr)(pins:List (Addr×Obj))(s:Shared)(H:Hp):Cx:=Cd X (JR tg++(Gs X.N js).map (·.2)) scope (Dc X.env scope.names []) fp pins s H
theorem AGm {fe:PF}{pos:Pos}(hc:X.calm=true)(hn:(JR tg).length=n)(fo:GX X scope (Gs X.N js))(bg:∀ fp pins s H,JG (Hc X tg js scope fp pins s H) K tg g bd)(gk:HW n g)(kind:scope.kind=.function)(cell:∀ y∈scope.names,y.2≠.cell)(names:∀ x∈scope.names,x.2=.local→scope.names.lookup x.1=some .local)(free:freeOk X scope=true)(hi:JI X K tg iter wi fi)(bt:∀ fp pins s H,Hz (Hc X tg js scope fp pins s H) K ifs tc pt)(be:∀ fp pins s H,JE (Hc X tg js scope fp pins s H) K elt te fe)(hs:∀ x,foldedSetIterable iter X.env x=pure x:=by intro _;rfl) :
  JL X K (.ListComp elt [⟨tg,iter,ifs,0⟩] scope pos) (HN wi g tc te n (Gs X.N js)) (BX fi bd pt fe n js):=by
 subst hn
 have h:=AAH (pos:=pos) (JR tg) (Gs X.N js) hc hi fo gk bg bt be kind cell names free hs
 rw[Vi] at h
 exact h
theorem AFu {fe:BJ}{pos:Pos}(hc:X.calm=true)(hn:(JR tg).length=n)(fo:GX X scope (Gs X.N js))(bg:∀ fp pins s H,JG (Hc X tg js scope fp pins s H) K tg g bd)(gk:HW n g)(kind:scope.kind=.function)(cell:∀ y∈scope.names,y.2≠.cell)(names:∀ x∈scope.names,x.2=.local→scope.names.lookup x.1=some .local)(free:freeOk X scope=true)(hi:JI X K tg iter wi fi)(bt:∀ fp pins s H,Hz (Hc X tg js scope fp pins s H) K ifs tc pt)(be:∀ fp pins s H,JL (Hc X tg js scope fp pins s H) K elt te fe)(hs:∀ x,foldedSetIterable iter X.env x=pure x:=by intro _;rfl) :
  JN X K (.ListComp elt [⟨tg,iter,ifs,0⟩] scope pos) (HN wi g tc te n (Gs X.N js)) (Fi fi bd pt fe n js):=by
 subst hn
 have h:=z6 (pos:=pos) (JR tg) (Gs X.N js) hc hi fo gk bg bt be kind cell names free hs
 rw[Vi] at h
 exact h
theorem Zz {fe:PF}{pos spos py:Pos}{i:Nat}{y:Str}(vk:BJ→Af→Option Sl)(hvk:∀ {te:TE}{fl:BJ},Iw K te fl→Dg K te (vk fl))(hN:X.N.Nodup)(hy:X.N[i]?=some y)(hx:Loc X.env.scope y)(hc:X.calm=true)(hn:(JR tg).length=n)(fo:GX X scope (Gs X.N js))(bg:∀ fp pins s H,JG (Hc X tg js scope fp pins s H) K tg g bd)(gk:HW n g)(kind:scope.kind=.function)(cell:∀ y∈scope.names,y.2≠.cell)(names:∀ x∈scope.names,x.2=.local→scope.names.lookup x.1=some .local)(free:freeOk X scope=true)(hi:JI X K tg iter wi fi)(bt:∀ fp pins s H,Hz (Hc X tg js scope fp pins s H) K ifs tc pt)(be:∀ fp pins s H,JE (Hc X tg js scope fp pins s H) K elt te fe)(hsw:swapsWith (.ListComp elt [⟨tg,iter,ifs,0⟩] scope pos) (some (.Name y py)) spos.line X.env=pure true:=by rfl)(hs:∀ x,foldedSetIterable iter X.env x=pure x:=by intro _;rfl)(hf:X.fn y=true∨X.env.scope.names.lookup y=some .local:=by first | exact Or.inl rfl | exact Or.inr rfl) :
  JS X K (.Assign [.Name y py] (.ListComp elt [⟨tg,iter,ifs,0⟩] scope pos) spos) (Dq (HN wi g tc te n (Gs X.N js)) (Df i)) (Aq i (vk (BX fi bd pt fe n js))):=by
 subst hn
 have h:=AHV (pos:=pos) vk hvk (JR tg) (Gs X.N js) hN hy hx hc hi fo gk bg bt be kind cell names free hsw hs hf
 rw[Vi] at h
 exact h
theorem ACU {fe:BJ}{pos spos py:Pos}{i:Nat}{y:Str}(hN:X.N.Nodup)(hy:X.N[i]?=some y)(hx:Loc X.env.scope y)(hc:X.calm=true)(hn:(JR tg).length=n)(fo:GX X scope (Gs X.N js))(bg:∀ fp pins s H,JG (Hc X tg js scope fp pins s H) K tg g bd)(gk:HW n g)(kind:scope.kind=.function)(cell:∀ y∈scope.names,y.2≠.cell)(names:∀ x∈scope.names,x.2=.local→scope.names.lookup x.1=some .local)(free:freeOk X scope=true)(hi:JI X K tg iter wi fi)(bt:∀ fp pins s H,Hz (Hc X tg js scope fp pins s H) K ifs tc pt)(be:∀ fp pins s H,JL (Hc X tg js scope fp pins s H) K elt te fe)(hsw:swapsWith (.ListComp elt [⟨tg,iter,ifs,0⟩] scope pos) (some (.Name y py)) spos.line X.env=pure true:=by rfl)(hs:∀ x,foldedSetIterable iter X.env x=pure x:=by intro _;rfl)(hf:X.fn y=true∨X.env.scope.names.lookup y=some .local:=by first | exact Or.inl rfl | exact Or.inr rfl) :
  JS X K (.Assign [.Name y py] (.ListComp elt [⟨tg,iter,ifs,0⟩] scope pos) spos) (Dq (HN wi g tc te n (Gs X.N js)) (Df i)) (Aq i (vN (Fi fi bd pt fe n js))):=by
 subst hn
 have h:=AEh (pos:=pos) (JR tg) (Gs X.N js) hN hy hx hc hi fo gk bg bt be kind cell names free hsw hs hf
 rw[Vi] at h
 exact h
end
end L2
namespace S26
open PySem L2 LKb LL
noncomputable def Mj:Ai:=(Ak (Aq 5 (vS (Ax (BX (Be (Aa 3)) (Bg 0) (Av (Ab BZ (Aa 0) (BV Ae))) (Aa 0) 1 []))))
  (Ak (Aq 6 (vN (Fi (Az Dn (Ac (Ad (.int 2)) Ae)) (Bg 0) DK (Az Lw (Ac (Aa 1) (Ac (Aa 0) (Ac (Ab CZ (Am Hu (Ac (Ab Al (Aa 3) (Ad (.int 0))) Ae)) (Ab Al (Aa 3) (Ad (.int 1)))) (Ac (Aa 2) Ae))))) 1 [4,5,0])))
  (Ak (KD 6 (Aa 2) (Jv (G9 (Aa 3) (Ax (Fd (Ab Al (Aa 6) (Aa 2)) (Ea (Am Bm (Ac (Aa 3) Ae))) JQ)))))
  (Uy 6 (CK (Ac (BV (Ac (Aa 2) (Ac (Aa 1) Ae))) Ae))))))
noncomputable def Nm:List D→Option (List (List D)):=runN 5 7 Mj
noncomputable def VR:Ai:=(Ak (Aq 5 (Lg 2))
  (Ak (CN (Fo (Av (Ab Er (Ab Ba (Aa 3) (Ad (.int 10))) (Ad (.int 2)))) (Av (Ab BZ (Aa 5) (Ax (CK Ae)))))
   (Ak (Aq 6 (vS (Ab Al (Aa 5) (Ab Ba (Ab CP (Aa 3) (Ad (.int 10))) (Am Bm (Ac (Aa 5) Ae))))))
   (Ak (CN (Av (Ab Bp (Ab Ba (Aa 3) (Ad (.int 10))) (Ad (.int 0))))
    (Ak (Kh 2 (Aa 6) (vS (Ab Ba (Ab CP (Aa 3) (Ad (.int 10))) (Ab Fy (Ad (.int 10)) (Ad (.int 50))))))
    (FZ (Ks Jj (DP (vS (Aa 0)) (DP (vS (Aa 1)) (DP (vS (Aa 6)) (DP (Io 2 (Aa 6)) Jo))))))) CQ)
   (Ak (O1 2 (Aa 6))
   (FZ (Fx (Az Qo (Ac (Aa 0) (Ac (Aa 1) (Ac (Aa 6) Ae))))))))) CQ)
  (Ak (Aq 6 (vS (Am J4 (Ac (Aa 5) (Ac (Ab CP (Aa 3) (Ad (.int 10))) (Ac (Aa 4) Ae))))))
  (Ak (Kd (Ov (Og 2 (Aa 6)) (bT (Av (Ab Ih (Am Bm (Ac (Aa 5) Ae)) (Am Ly (Ac (Aa 0) (Ac (Ab Al (Aa 0) (Ad (.int 0))) Ae)))))))
   (FZ (Fx (CK Ae))) CQ)
  (Ak (Kh 2 (Aa 6) (vS (Ab Al (Ax (CK (Ac (Ab Cr (Ab Ba (Ab CP (Aa 3) (Ad (.int 11))) (Ab Fy (Ad (.int 10)) (Ad (.int 50)))) (Ad (.int 3))) (Ac (Ad (.int 0)) (Ac (Ad (.int 1)) (Ac (IV Jx (Ad (.int 1))) Ae)))))) (Ab Ba (Ab CP (Aa 3) (Ad (.int 17))) (Ad (.int 4))))))
  (FZ (Ks Jj (DP (vS (Aa 0)) (DP (vS (Aa 1)) (DP (vS (Aa 6)) (DP (Io 2 (Aa 6)) Jo)))))))))))
noncomputable def T7:TF:=KY 5 7 2 VR
noncomputable def Rc:Ai:=(Ak (Iz (Eb 2 3) (vS (Ab Al (Ab Al (Aa 1) (Ad (.int 2))) (Ad (.int 0)))))
  (El (Fd (Ab Al (Aa 1) (Aa 2)) JQ (Ea (Ab CZ (Am Hu (Ac (Aa 3) Ae)) (Ab Al (Aa 0) (Ad (.int 1))))))))
noncomputable def Lr:List D→Option (List D):=Dt 2 4 Rc
noncomputable def R9:Ai:=(Ak (Iz (NP 4 5 6) (vS (Aa 2)))
  (Ak (Iz (Eb 7 8) (vS (Ab Al (Ab Al (Aa 1) (Ad (.int 2))) (Ad (.int 0)))))
  (Ak (Aq 9 (vS (Ax (Az Lr (Ac (Aa 0) (Ac (Aa 1) Ae))))))
  (Ak (CN (Av (Ab Bp (Aa 4) (Ad (.int 2))))
   (Ak (Aq 10 (vS (Ab Bp (Am Bm (Ac (Ax (BX (Be (Aa 9)) (Bg 0) (Av (Ab BZ (Aa 0) (BV Ae))) (Aa 0) 1 [])) Ae)) (Am Ly (Ac (Aa 0) (Ac (Aa 8) Ae))))))
   (Bs (QC (Aa 10) (Ab Bp (Aa 6) (BV (Ac (Ab Cr (Ad (.int 1)) (Aa 7)) (Ac (Ab CG (Aa 8) (Ad (.int 1))) Ae))))))) CQ)
  (Ak (CN (Av (Ab BZ (Aa 4) (Aa 7)))
   (Bs (Ad (.bool true))) CQ)
  (Ak (CN (Av (Ab Bp (Aa 6) (BV Ae)))
   (Bs (Ma (Aa 3) (Ab Bp (Ab N5 (Aa 9) (Ab Al (Aa 9) (Aa 5))) (Ad (.int 2))))) CQ)
  (Bs (Ma (Ab Bp (Ab Al (Aa 9) (Aa 5)) (BV Ae)) (Ab Bp (Ab Al (Ab Al (Aa 9) (Aa 5)) (Ad (.int 0))) (Ab Al (Aa 6) (Ad (.int 0))))))))))))
noncomputable def Ye:List D→Option D:=Cz 4 11 R9
noncomputable def NB:Ai:=(Ak (CN (JP (Av (Am Ye (Ac (Aa 0) (Ac (Aa 1) (Ac (Ab Al (Aa 2) (Aa 5)) (Ac (Ab Bp (Am Bm (Ac (Aa 2) Ae)) (Ad (.int 1))) Ae)))))))
    (FZ (vS (Ad (.bool false)))) CQ)
   (Ak (Iz (NP 6 7 8) (vS (Ab Al (Aa 2) (Aa 5))))
   (Ak (Qx 1 (Aa 6) (Aa 7) (vS (Aa 8)))
   (Ak (Aq 9 (Hb (Az Lr (Ac (Aa 0) (Ac (Aa 1) Ae)))))
   (CN (Fo (Av (Ab (Np false) (Aa 6) (BV (Ac (Ad (.int 2)) (Ac (Ab Al (Ab Al (Ab Al (Aa 1) (Ad (.int 2))) (Ad (.int 0))) (Ad (.int 0))) Ae))))) (Av (Ab Er (Aa 5) (Ab Cr (Am Bm (Ac (Aa 2) Ae)) (Ad (.int 1))))))
    (CN (Jp (Av (Ab BZ (Ax (Az Qm (Ac (Aa 9) Ae))) (Aa 3))) (JP (Av (Am XF (Ac (Aa 9) Ae)))))
     (FZ (vS (Ad (.bool false)))) CQ) CQ)))))
noncomputable def QH:Ai:=(Ak (Eu (Az Dn (Ac (Am Bm (Ac (Aa 2) Ae)) Ae)) (Ek 5) NB)
  (FZ (vF (Ab Bp (Ax (BX (Be (Ax (Az Lr (Ac (Aa 0) (Ac (Aa 1) Ae))))) (Bg 0) (Av (Ab BZ (Aa 0) (BV Ae))) (Aa 0) 1 [])) (Aa 4)))))
noncomputable def Lp:TF:=KY 5 10 1 QH
noncomputable def Lj:Ai:=(Ak (Aq 8 (Jt 6))
   (Ak (O7 9 (JZ 6 T7 (Il (vS (Aa 1)) (Il (KQ (Fi (Be (Aa 5)) (Bg 0) DK (Az G4 (Ac (Aa 0) Ae)) 1 [])) (Py (DP (vS (Aa 7)) (DP (vS (Ab Bp (Ab Ba (Ab CP (Aa 2) (Ad (.int 60))) (Ad (.int 2))) (Ad (.int 1)))) Jo)))))))
   (O3 (JZ 5 Lp (Il (vS (Aa 1)) (Py (DP (vS (Aa 9)) (DP (vS (Aa 8)) (DP (Jt 6) Jo))))))
    (Bs (Ad (.bool false))) CQ)))
noncomputable def SN:Ai:=(Ak (Aq 1 (vS (Am Zd (Ac (Am Rj (Ac (Aa 0) (Ac (Ad (.int 0)) Ae))) Ae))))
  (Ak (Aq 1 (vS (BV (Ac (Am NK (Ac (Ad (.int 2)) (Ac (Ab Al (Aa 1) (Ad (.int 0))) Ae))) (Ac (Ab Al (Aa 1) (Ad (.int 1))) (Ac (Ab Al (Aa 1) (Ad (.int 2))) Ae))))))
  (Ak (Aq 2 (vS (Am JX (Ac (Am Rj (Ac (Aa 0) (Ac (Ad (.int 1)) Ae))) Ae))))
  (Ak (Aq 3 (vS (Ab Ba (Aa 2) (Ab CG (Am NK (Ac (Ad (.int 2)) (Ac (Ab Al (Aa 1) (Ad (.int 0))) Ae))) (Ad (.int 1))))))
  (Ak (Aq 4 (vS (Ax (Az aK (Ac (Aa 1) (Ac (Aa 3) (Ac (Aa 2) (Ac (Ab Al (Ax (CK (Ac (Ad (.int 0)) (Ac (Ad (.int 1)) (Ac (Am Ly (Ac (Aa 1) (Ac (Aa 3) Ae))) Ae))))) (Ab Ba (Ab CP (Aa 2) (Ad (.int 9))) (Ad (.int 3)))) Ae))))))))
  (Ak (Aq 5 (vN (NZ Nm (Ac (Aa 1) (Ac (Aa 3) (Ac (Ab Ba (Ab CP (Aa 2) (Ad (.int 27))) (Ad (.int 2))) (Ac (Aa 4) (Ac (Aa 2) Ae))))))))
  (Xv 5
  (QX 6 (Ax (BX (Be (Aa 4)) (Bg 0) (Av (Ab BZ (Aa 0) (BV Ae))) (Aa 0) 1 []))
  (Ak (Eu (Be (Ax (BX (Be (Ax (Fd (Aa 0) (Ea (Ad (.int 2))) (Ea (Ad (.int 47)))))) (Bg 0) DK (Am JX (Ac (Aa 0) Ae)) 1 []))) (Ek 7) Lj)
  (Bs (Ad (.bool true))))))))))))
noncomputable def R4:List D→Option D:=Cz 1 10 SN
set_option hygiene false
local macro_rules | `(tactic| walk_at "c") => `(tactic| exact Callee.to hC (by with_reducible assumption) (by decide) ⟨rfl, rfl, rfl, rfl, rfl⟩)
local macro_rules | `(tactic| walk_at "nd") => `(tactic| exact Tq (by kernel_rfl))
local macro_rules | `(tactic| walk_at "sc") => `(tactic| exact ⟨rfl, rfl, rfl, by decide +kernel, rfl, by decide +kernel, by decide +kernel⟩)
local macro_rules | `(tactic| walk_at "o") => `(tactic| first | exact Or.inl rfl | exact Or.inr rfl)
local macro_rules | `(tactic| walk_at "g") => `(tactic| first | exact AJV (by decide) | exact AHx (by decide) (by decide))
local macro_rules | `(tactic| walk_at "f") => `(tactic| repeat (first | exact trivial | refine ⟨⟨rfl, Or.inl rfl, Or.inl rfl⟩, ?_⟩))
local macro_rules | `(tactic| walk_at "n") => `(tactic| first | exact X7 (by decide) | rfl)
local macro_rules | `(tactic| walk_at "m") => `(tactic| first | exact ADH _ | with_unfolding_all rfl)
local macro_rules | `(tactic| walk_at "op") => `(tactic| first
 | (with_reducible show Ca _ _ _ _ CG);exact AAz | (with_reducible show Ca _ _ _ _ Cr);exact AJU | (with_reducible show Ca _ _ _ _ CZ);exact ABY | (with_reducible show Ca _ _ _ _ CP);exact AIB | (with_reducible show Ca _ _ _ _ Ba);exact AJd | (with_reducible show Ca _ _ _ _ Fy);exact AAx
 | (with_reducible show Ca _ _ _ _ Bp);exact ABH rfl hu | (with_reducible show Ca _ _ _ _ BZ);exact wO rfl hu | (with_reducible show Ca _ _ _ _ Er);exact z7 | (with_reducible show Ca _ _ _ _ Kq);exact yH | (with_reducible show Ca _ _ _ _ Ig);exact wZ | (with_reducible show Ca _ _ _ _ Ih);exact ACm
 | (with_reducible show Ca _ _ _ _ Kr);exact AIq | (with_reducible show Ca _ _ _ _ Nx);exact AIc | (with_reducible show Ca _ _ _ _ (Np false));exact AJF rfl | (with_reducible show Ca _ _ _ _ (Np true));exact AKh rfl)
local macro_rules | `(tactic| walk_at "jc") => `(tactic| first
 | (with_reducible show JE _ _ _ _ (Am Bm _));exact Q3 (wR rfl) (by rfl) T.AJW (by rfl) (by walk_at "k")
 | (with_reducible show JE _ _ _ _ (Am ADe _));exact Q3 (AKG rfl hr.hd) (by rfl) T.AKg (by rfl) (by walk_at "k")
 | (with_reducible show JE _ _ _ _ (Am AGH _));exact Q3 (AKN rfl hr.hd) (by rfl) T.AKD (by rfl) (by walk_at "k")
 | (with_reducible show JE _ _ _ _ (Am Ja _));exact Q3 (zQ rfl) (by rfl) T.ADG (by rfl) (by walk_at "k")
 | (with_reducible show JE _ _ _ _ (Am NK _));exact Q3 (yS rfl) (by rfl) T.ADT (by rfl) (by walk_at "k")
 | (with_reducible show JE _ _ _ _ (Am Jw _));exact AFa AH6 (by rfl) T.AIM (by rfl) (by walk_at "k")
 | (with_reducible show JE _ _ _ _ (Am _ _));exact ACQ (by walk_at "c") (ACu _ _ _) hr rfl (by walk_at "k"))
local macro_rules | `(tactic| walk_at "je") => `(tactic| first
 | (with_reducible show JE _ _ _ _ (Aa _));exact AFM _
 | (with_reducible show JE _ _ _ _ (Ad _));first | exact AGq | exact AIh | exact yN | exact AKe | exact AAy rfl T.ACw
 | (with_reducible show JE _ _ _ _ (Ax _));exact JL.je (by walk_at "k")
 | (with_reducible show JE _ _ _ _ (Ab Al _ _));exact ACo rfl (by walk_at "k") (by walk_at "k") (fun _ _=>rfl)
 | (with_reducible show JE _ _ _ _ (Ab N5 _ _));exact AAv rfl (o6 hr) (by walk_at "k") (by walk_at "k")
 | (with_reducible show JE _ _ _ _ (Am _ _));walk_at "jc"
 | (with_reducible show JE _ _ _ _ (Ab AJR _ _));exact AKV rfl (o6 hr) (by walk_at "k") (by walk_at "k")
 | (with_reducible show JE _ _ (.BinOp _ _ _ _) _ (Ab _ _ _));exact AHe (by walk_at "op") (by walk_at "k") (by walk_at "k")
 | (with_reducible show JE _ _ _ _ (Ab _ _ _));exact AJa (by walk_at "op") (by walk_at "k") (by walk_at "k") (by walk_at "m")
 | (with_reducible show JE _ _ _ _ (IV _ _));exact AJD (by walk_at "k")
 | (with_reducible show JE _ _ _ _ (K6 _ _ _ _ _));exact AKB (by walk_at "op") (by walk_at "op") (by walk_at "k") (by walk_at "k") (by walk_at "k")
 | (with_reducible show JE _ _ _ _ (QC _ _));first | exact iH (by walk_at "k") (eE (by walk_at "k")) | exact iH (by walk_at "k") (by walk_at "k")
 | (with_reducible show JE _ _ _ _ (Ma _ _));first | exact sW (by walk_at "k") (eE (by walk_at "k")) | exact sW (by walk_at "k") (by walk_at "k")
 | (with_reducible show JE _ _ _ _ (aZ _));exact AKM (by walk_at "k")
 | (with_reducible show JE _ _ _ _ (V8 _ _ _));exact AKd (by walk_at "k") (by walk_at "k") (by walk_at "k")
 | (with_reducible show JE _ _ _ _ (BV _));exact AGs (by walk_at "k"))
local macro_rules | `(tactic| walk_at "sa") => `(tactic| first
 | (with_reducible show JS _ _ _ _ (Aq _ (vS (Ax (BX _ _ _ _ _ _)))));exact lM (by walk_at "nd") rfl (by walk_at "o") (by walk_at "k")
 | (with_reducible show JS _ _ _ _ (Aq _ (Fx (BX _ _ _ _ _ _))));exact Zz Fx sZ (by walk_at "nd") rfl (by walk_at "o") rfl rfl (by walk_at "f") (fun _ _ _ _=>by walk_at "jJG") (by walk_at "g") rfl (by decide) (by decide) (by walk_at "n") (by walk_at "k") (fun _ _ _ _=>by walk_at "k") (fun _ _ _ _=>by walk_at "k")
 | (with_reducible show JS _ _ _ _ (Aq _ (vL (BX _ _ _ _ _ _))));exact Zz vL qI (by walk_at "nd") rfl (by walk_at "o") rfl rfl (by walk_at "f") (fun _ _ _ _=>by walk_at "jJG") (by walk_at "g") rfl (by decide) (by decide) (by walk_at "n") (by walk_at "k") (fun _ _ _ _=>by walk_at "k") (fun _ _ _ _=>by walk_at "k")
 | (with_reducible show JS _ _ _ _ (Aq _ (Hb (BX _ _ _ _ _ _))));exact Zz Hb qY (by walk_at "nd") rfl (by walk_at "o") rfl rfl (by walk_at "f") (fun _ _ _ _=>by walk_at "jJG") (by walk_at "g") rfl (by decide) (by decide) (by walk_at "n") (by walk_at "k") (fun _ _ _ _=>by walk_at "k") (fun _ _ _ _=>by walk_at "k")
 | (with_reducible show JS _ _ _ _ (Aq _ (vN (Fi _ _ _ _ _ _))));exact ACU (by walk_at "nd") rfl (by walk_at "o") rfl rfl (by walk_at "f") (fun _ _ _ _=>by walk_at "jJG") (by walk_at "g") rfl (by decide) (by decide) (by walk_at "n") (by walk_at "k") (fun _ _ _ _=>by walk_at "k") (fun _ _ _ _=>by walk_at "k")
 | (with_reducible show JS _ _ _ _ (Aq _ (Lg _)));exact K7 (Jl (by walk_at "nd") rfl (by walk_at "o") (sU hr.hd rfl T.Ru (pv _))) rE
 | (with_reducible show JS _ _ _ _ (Aq _ (Jt _)));exact K7 (Jl (by walk_at "nd") rfl (by walk_at "o") (nO rfl hr.hd rfl T.Ru (pv _))) iJ
 | (with_reducible show JS _ _ _ _ (Aq _ (vS _)));exact lM (by walk_at "nd") rfl (by walk_at "o") (by walk_at "k")
 | (with_reducible show JS _ _ _ _ (Aq _ (vF _)));exact AKa (by walk_at "nd") rfl (by walk_at "o") (by walk_at "k")
 | (with_reducible show JS _ _ _ _ (Aq _ (vL _)));exact AIo (by walk_at "nd") rfl (by walk_at "o") (by walk_at "k")
 | (with_reducible show JS _ _ _ _ (Aq _ (Jv _)));exact AKI (by walk_at "nd") rfl (by walk_at "o") (by walk_at "k")
 | (with_reducible show JS _ _ _ _ (Aq _ (Hb _)));exact AEt (by walk_at "nd") rfl (by walk_at "o") (by walk_at "k")
 | (with_reducible show JS _ _ _ _ (Aq _ (vN _)));exact AHO (by walk_at "nd") rfl (by walk_at "o") (by walk_at "k")
 | (with_reducible show JS _ _ _ _ (SQ _ _ _));exact AJs _ _ (by walk_at "k") rfl (by walk_at "nd") rfl (by walk_at "o")
 | (with_reducible show JS _ _ _ _ (KD _ _ (vL _)));exact AKc _ (by walk_at "k") (by walk_at "k")
 | (with_reducible show JS _ _ _ _ (KD _ _ (Jv _)));exact ADo _ (by walk_at "k") (by walk_at "k")
 | (with_reducible show JS _ _ _ _ (Ir _ _ (vS _)));exact zA _ (by walk_at "k") (by walk_at "k")
 | (with_reducible show JS _ _ _ _ (Ir _ _ (vF _)));exact AKE _ (by walk_at "k") (by walk_at "k")
 | (with_reducible show JS _ _ _ _ (Ir _ _ (Hb _)));exact AKZ _ (by walk_at "k") (by walk_at "k")
 | (with_reducible show JS _ _ _ _ (M7 _ _ _ (vS _)));exact AIU _ (by walk_at "k") rfl (by walk_at "k") (by walk_at "k") (fun _ _=>rfl)
 | (with_reducible show JS _ _ _ _ (Qx _ _ _ (vS _)));exact yR _ (by walk_at "k") rfl (by walk_at "k") (by walk_at "k") (fun _ _=>rfl)
 | (with_reducible show JS _ _ _ _ (Kh _ _ (vS _)));exact AEO hu1 (by walk_at "k") (by walk_at "k") (pv _)
 | (with_reducible show JS _ _ _ _ (Iz _ (vS _)));exact AAi (by walk_at "k") (by walk_at "k")
 | (with_reducible show JS _ _ _ _ (Iz _ (vF _)));exact AKF (by walk_at "k") (by walk_at "k")
 | (with_reducible show JS _ _ _ _ (O7 _ _));exact AFh (by walk_at "k") (by walk_at "nd") rfl (by walk_at "o"))
local macro_rules | `(tactic| walk_at "sr") => `(tactic| first
 | (with_reducible show JS _ _ _ _ (FZ (Ks _ _)));exact AJI (by walk_at "c") (lO _ _ _) hr rfl (by walk_at "k")
 | (with_reducible show JS _ _ _ _ (FZ (Fx _)));exact AJv (by walk_at "k")
 | (with_reducible show JS _ _ _ _ (FZ (vS _)));exact xO (by walk_at "k")
 | (with_reducible show JS _ _ _ _ (FZ (vF _)));exact AI7 (by walk_at "k")
 | (with_reducible show JS _ _ _ _ (Bs _));exact AI2 (by walk_at "k")
 | (with_reducible show JS _ _ _ _ (El _));exact AGV (by walk_at "k")
 | (with_reducible show JS _ _ _ _ (Je _));exact AHB _
 | (with_reducible show JS _ _ _ _ (Q5 _));exact AFN _
 | (with_reducible show JS _ _ _ _ (Yx _));exact AKO (by walk_at "k")
 | (with_reducible show JS _ _ _ _ (Uy _ _));exact AAq _ rfl (by walk_at "k")
 | (with_reducible show JS _ _ _ _ Vt);exact AKW)
local macro_rules | `(tactic| walk_at "so") => `(tactic| first
 | (with_reducible show JS _ _ _ _ (CN _ _ _));exact AI1 (by walk_at "k") (by walk_at "k") (by walk_at "k")
 | (with_reducible show JS _ _ _ _ (O3 _ _ _));exact AHN (by walk_at "k") (by walk_at "k") (by walk_at "k")
 | (with_reducible show JS _ _ _ _ (Kd _ _ _));exact ABy hu1 (by walk_at "k") (pv _) (by walk_at "k") (by walk_at "k") (by walk_at "k")
 | (with_reducible show JS _ _ _ _ (Eu _ _ _));exact ABs PassesOwn.never rfl (by walk_at "k") (by walk_at "k") (by walk_at "k")
 | (with_reducible show JS _ _ _ _ (Ow _ _ _));exact yC PassesOwn.never rfl rfl T.Pz (by walk_at "k") (by walk_at "k") (by walk_at "k")
 | (with_reducible show JS _ _ _ _ (Gu _ _ _));exact AAb _ PassesOwn.never (by walk_at "k") (by walk_at "k")
 | (with_reducible show JS _ _ _ _ R1);exact AAw
 | (with_reducible show JS _ _ _ _ CQ);exact AKC
 | (with_reducible show JS _ _ _ _ AJM);exact AJ9
 | (with_reducible show JS _ _ _ _ AAp);exact AKf)
local macro_rules | `(tactic| walk_at "js") => `(tactic| first
 | (with_reducible show JS _ _ _ _ (Wk _ _));exact AKP _ (by walk_at "k")
 | (with_reducible show JS _ _ (.Assign _ _ _) _ _);walk_at "sa"
 | (with_reducible show JS _ _ (.Return _ _) _ _);walk_at "sr"
 | (with_reducible show JS _ _ _ _ (O1 _ _));exact AEc (by walk_at "k") (pv _) ⟨rfl,rfl,rfl,rfl⟩
 | (with_reducible show JS _ _ _ _ (Jh _ (vS _)));exact ABP _ (by walk_at "k") rfl
 | (with_reducible show JS _ _ _ _ (Jh _ (vF _)));exact AKl _ (by walk_at "k") rfl
 | (with_reducible show JS _ _ _ _ (Qa _ (vS _)));exact AHg _ (by walk_at "k") rfl
 | (with_reducible show JS _ _ _ _ (RT _ _));exact AI3 _ (by walk_at "k") rfl
 | walk_at "so")
local macro_rules | `(tactic| walk_at "jJL") => `(tactic| first
 | (with_reducible show JL _ _ _ _ (CK _));exact zX (by walk_at "k")
 | (with_reducible show JL _ _ _ _ (Oi _));exact JN.jl (by walk_at "k")
 | (with_reducible show JL _ _ _ _ (BX _ _ _ _ _ _));exact AGm rfl rfl (by walk_at "f") (fun _ _ _ _=>by walk_at "jJG") (by walk_at "g") rfl (by decide) (by decide) (by walk_at "n") (by walk_at "k") (fun _ _ _ _=>by walk_at "k") (fun _ _ _ _=>by walk_at "k")
 | (with_reducible show JL _ _ _ _ (Fd _ _ _));exact xP rfl (by walk_at "k") (by walk_at "k") (by walk_at "k")
 | (with_reducible show JL _ _ _ _ (ABx _));exact AKX rfl (by walk_at "k")
 | (with_reducible show JL _ _ _ _ (G9 _ _));exact ADU rfl (by walk_at "k") (by walk_at "k")
 | (with_reducible show JL _ _ _ _ (AHq _ _));exact AKj (by walk_at "k") (by walk_at "k")
 | (with_reducible show JL _ _ _ _ (QF _));exact AGA hr.hd rfl T.Yv rfl T.Pz (by walk_at "k")
 | (with_reducible show JL _ _ _ _ (Mt _));exact AIL rfl hr.hd rfl T.Yv rfl T.pR (by walk_at "k")
 | (with_reducible show JL _ _ _ _ (Az G4 _));exact AJj (AJp rfl) (by rfl) T.Yv (by rfl) (by walk_at "k")
 | (with_reducible show JL _ _ _ _ (Az _ _));exact AEb (by walk_at "c") (lO _ _ _) hr rfl (by walk_at "k"))
local macro_rules | `(tactic| walk_at "jJAL") => `(tactic| first
 | (first | exact AKA | exact AJ7 (by walk_at "k") (by walk_at "k")))
local macro_rules | `(tactic| walk_at "jJN") => `(tactic| first
 | (with_reducible show JN _ _ _ _ (Y5 _));exact AKn (by walk_at "k")
 | (with_reducible show JN _ _ _ _ (Fi _ _ _ _ _ _));exact AFu rfl rfl (by walk_at "f") (fun _ _ _ _=>by walk_at "jJG") (by walk_at "g") rfl (by decide) (by decide) (by walk_at "n") (by walk_at "k") (fun _ _ _ _=>by walk_at "k") (fun _ _ _ _=>by walk_at "k")
 | (with_reducible show JN _ _ _ _ (NZ _ _));exact AHz (by walk_at "c") (ADr _ _ _) hr rfl (by walk_at "k"))
local macro_rules | `(tactic| walk_at "jJT") => `(tactic| first
 | (with_reducible show JT _ _ _ _ (JP _));exact AGo (by walk_at "k")
 | (with_reducible show JT _ _ _ _ (Fo _ _));exact JW.jt (by walk_at "k")
 | (with_reducible show JT _ _ _ _ (Jp _ _));exact JW.jt (by walk_at "k")
 | (with_reducible show JT _ _ _ _ (Av (K6 _ _ _ _ _)));exact AAS (by walk_at "op") (by walk_at "op") (by walk_at "k") (by walk_at "k") (by walk_at "k")
 | (with_reducible show JT _ _ _ _ (Av (Ab _ _ _)));first | exact AHf (by walk_at "op") (by walk_at "k") (by walk_at "k") (by walk_at "m") | exact tM (by walk_at "k") (fun _=>rfl)
 | (with_reducible show JT _ _ _ _ (Av _));exact tM (by walk_at "k") (fun _=>rfl))
local macro_rules | `(tactic| walk_at "jJW") => `(tactic| first
 | (with_reducible show JW _ _ _ _ (Fo _ _));first | exact gC (by walk_at "k") (AH8 (by walk_at "k")) | exact gC (by walk_at "k") (by walk_at "k")
 | (with_reducible show JW _ _ _ _ (Jp _ _));first | exact qR (by walk_at "k") (ACX (by walk_at "k")) | exact qR (by walk_at "k") (by walk_at "k"))
local macro_rules | `(tactic| walk_at "jJA") => `(tactic| first
 | (first | exact AFc | exact AGp (by walk_at "k") (by walk_at "k")))
local macro_rules | `(tactic| walk_at "jJTs") => `(tactic| first
 | (first | exact AFS | exact ADs (by walk_at "k")))
local macro_rules | `(tactic| walk_at "jJO") => `(tactic| first
 | (first | exact ABt | exact xU (by walk_at "k")))
local macro_rules | `(tactic| walk_at "jJG") => `(tactic| first
 | (first | exact AHa (Tq (by kernel_rfl)) rfl (Or.inl rfl) (Or.inr rfl) | exact AHi rfl rfl (Tq (by kernel_rfl)) rfl (Or.inl rfl) rfl (Or.inl rfl) (Or.inr rfl) (Or.inr rfl)))
local macro_rules | `(tactic| walk_at "jJGS") => `(tactic| first
 | (first | exact AIs (by walk_at "nd") rfl (by walk_at "o") | exact AFq rfl rfl (by walk_at "nd") rfl (by walk_at "o") rfl (by walk_at "o") | exact yV rfl rfl (by walk_at "nd") rfl (by walk_at "o") rfl (by walk_at "o") rfl (by walk_at "o")))
local macro_rules | `(tactic| walk_at "jJI") => `(tactic| first
 | (with_reducible show JI _ _ _ _ _ (Az Dn _));exact ADY rfl T.Pz (by walk_at "k")
 | (with_reducible show JI _ _ _ _ _ (Az Im _));exact AAu rfl T.Pz (by walk_at "k")
 | (with_reducible show JI _ _ _ _ _ (Az xN _));exact AJ6 rfl T.Pz (by walk_at "k")
 | (with_reducible show JI _ _ _ _ _ (Az HX _));exact ACI rfl rfl T.ACt (by walk_at "k")
 | (with_reducible show JI _ _ _ _ _ (Az VM _));exact AKR rfl rfl T.pR (by walk_at "k")
 | (with_reducible show JI _ _ _ _ _ (Az LQ _));exact ABL rfl rfl T.ABi (by walk_at "k")
 | (with_reducible show JI _ _ _ _ _ (Be _));exact AJL rfl (by walk_at "k")
 | (with_reducible show JI _ _ _ _ _ (bW _));exact AKL rfl (by walk_at "k"))
local macro_rules | `(tactic| walk_at "jJSs") => `(tactic| first
 | (with_reducible show Dd _ _ _ _ (Ak _ _));exact AJb (by walk_at "k") (by walk_at "k")
 | (with_reducible show Dd _ _ _ _ (Xv _ _));exact wQ _ (by walk_at "k")
 | (with_reducible show Dd _ _ _ _ (AJT _ _));exact AKY (by walk_at "nd") rfl (by walk_at "o") (by walk_at "k")
 | (with_reducible show Dd _ _ _ _ (QX _ _ _));exact AIF rfl hr.hd rfl T.AGn (by walk_at "k") (by walk_at "nd") rfl (by walk_at "o") (by walk_at "k")
 | (with_reducible show Dd _ _ _ _ CQ);first | exact AJk | exact o5 (by walk_at "k")
 | exact o5 (by walk_at "k"))
local macro_rules | `(tactic| walk_at "jJM") => `(tactic| first
 | (with_reducible show JM _ _ _ _ (JZ _ _ _));exact AJP rfl (by walk_at "c") (AEI _ _ _ _) hr rfl (by walk_at "k"))
local macro_rules | `(tactic| walk_at "jJIO") => `(tactic| first
 | (with_reducible show HD _ _ _ _ _ (Py _));exact AHJ (pv _) (by walk_at "k")
 | (with_reducible show HD _ _ _ _ _ (Il (vS _) _));exact yJ (by walk_at "k") (by walk_at "k")
 | (with_reducible show HD _ _ _ _ _ (Il (Hb _) _));exact AKU (by walk_at "k") (by walk_at "k")
 | (with_reducible show HD _ _ _ _ _ (Il (KQ _) _));exact AEV (by walk_at "k") (by walk_at "k"))
local macro_rules | `(tactic| walk_at "jJAs") => `(tactic| first
 | (with_reducible show GQ _ _ _ _ Jo);exact AI8
 | (with_reducible show GQ _ _ _ _ (DP (vS _) _));exact ACN (by walk_at "k") (by walk_at "k")
 | (with_reducible show GQ _ _ _ _ (DP (Hb _) _));exact AKb (by walk_at "k") (by walk_at "k")
 | (with_reducible show GQ _ _ _ _ (DP (Io _ _) _));exact AJn hu1 (pv _) (by walk_at "k") (fun _ _=>rfl) (by walk_at "k")
 | (with_reducible show GQ _ _ _ _ (DP (Lg _) _));exact Uh (sU hr.hd rfl T.Ru (pv _)) rE (by walk_at "k")
 | (with_reducible show GQ _ _ _ _ (DP (Jt _) _));exact Uh (nO rfl hr.hd rfl T.Ru (pv _)) iJ (by walk_at "k"))
local macro_rules | `(tactic| walk_at "k") => `(tactic| first | ((with_reducible show JE _ _ _ _ _); walk_at "je") | ((with_reducible show JA _ _ _ _ _); walk_at "jJA") | ((with_reducible show Dd _ _ _ _ _); walk_at "jJSs") | ((with_reducible show JS _ _ _ _ _); walk_at "js") | ((with_reducible show JT _ _ _ _ _); walk_at "jJT") | ((with_reducible show JL _ _ _ _ _); walk_at "jJL") | ((with_reducible show JW _ _ _ _ _); walk_at "jJW") | ((with_reducible show JI _ _ _ _ _ _); walk_at "jJI") | ((with_reducible show K4 _ _ _ _ _); walk_at "jJGS") | ((with_reducible show JG _ _ _ _ _); walk_at "jJG") | ((with_reducible show Hz _ _ _ _ _); walk_at "jJTs") | ((with_reducible show JO _ _ _ _ _); walk_at "jJO") | ((with_reducible show JN _ _ _ _ _); walk_at "jJN") | ((with_reducible show wK _ _ _ _ _); walk_at "jJAL") | ((with_reducible show JM _ _ _ _ _); walk_at "jJM") | ((with_reducible show HD _ _ _ _ _ _); walk_at "jJIO") | ((with_reducible show GQ _ _ _ _ _); walk_at "jJAs"))
local macro_rules | `(tactic| walk_at "j") => `(tactic| have hu := AJA hr; have hu1 := z8 hr; have hC : Tag P w K mg base := ⟨trivial⟩; walk_at "k")
set_option hygiene true
noncomputable def top (i:Nat):Stmt:=PySem.Challenge.pw_gapshelf_k26_whole_disks_write_by_write.main.body.getD i (.Pass ⟨0,0,0,0⟩)
noncomputable abbrev WL:Stmt:=top 1
noncomputable abbrev YH:Stmt:=top 2
noncomputable abbrev WR:Stmt:=top 3
noncomputable abbrev Z6:Stmt:=top 4
noncomputable abbrev Zb:Stmt:=top 10
noncomputable abbrev Zk:Stmt:=top 11
noncomputable abbrev Yr:Stmt:=top 12
noncomputable abbrev V6:Stmt:=top 13
noncomputable abbrev aF:Stmt:=top 14
noncomputable abbrev X4:Stmt:=top 16
noncomputable abbrev Wd:Stmt:=top 17
noncomputable abbrev bU:Stmt:=top 18
noncomputable abbrev Z3:Stmt:=top 20
noncomputable abbrev Vo:Stmt:=top 21
noncomputable abbrev Wb:Stmt:=top 22
noncomputable abbrev Zt:Stmt:=top 23
noncomputable abbrev Xe:Stmt:=top 24
noncomputable abbrev bD:Stmt:=top 25
noncomputable abbrev bA:Stmt:=top 28
noncomputable abbrev Wz:Stmt:=top 29
noncomputable abbrev Zx:Stmt:=top 30
noncomputable abbrev Wg:Stmt:=top 31
noncomputable abbrev aM:Stmt:=top 32
noncomputable abbrev Z2:Stmt:=top 33
noncomputable abbrev aU:Stmt:=top 34
noncomputable abbrev Y0:Stmt:=top 35
noncomputable abbrev V2:Stmt:=top 36
noncomputable abbrev Yy:Stmt:=top 38
noncomputable abbrev Zf:Stmt:=top 39
noncomputable abbrev ZM:Stmt:=top 40
noncomputable abbrev XD:Stmt:=top 41
noncomputable abbrev Wf:Stmt:=top 42
noncomputable abbrev V0:Stmt:=top 43
noncomputable abbrev Vy:Stmt:=top 44
noncomputable abbrev Vn:Stmt:=top 45
noncomputable abbrev Zy:Stmt:=top 46
noncomputable abbrev Za:Stmt:=top 47
noncomputable abbrev aX:Stmt:=top 48
noncomputable abbrev Xr:Stmt:=top 49
noncomputable abbrev ZZ:Stmt:=top 50
noncomputable abbrev Vu:Stmt:=top 51
noncomputable abbrev ZG:Stmt:=top 52
noncomputable abbrev ZX:Stmt:=top 53
noncomputable abbrev bN:Stmt:=top 54
structure Txt (K:Frag)(mg:Str→Option Value):Prop where
 AGn:mg "dict"=none
 ACt:mg "enumerate"=none
 AIM:mg "int"=none
 AJW:mg "len"=none
 Yv:mg "list"=none
 ADG:mg "max"=none
 ADT:mg "min"=none
 Pz:mg "range"=none
 ABi:mg "reversed"=none
 Ru:mg "sorted"=none
 pR:mg "zip"=none
 ACw:∃ t,mg "SIGN_PART"=some (.int 2 t)
section
variable (P:Program)(w:World)(K:Frag)(mg:Str→Option Value)(base:Heap)
noncomputable abbrev ZJ:Prop:=Callee P w K mg base 1 "twofold" ["height"] (Dv K 1 Tp)
theorem ADw (T:Txt K mg)(D:Def K mg "twofold" WL ["height"]):ZJ P w K mg base:=by
 refine Def.En (N:=["height","power","doubling"]) (F:=Va) rfl D (by walk_at "sc") rfl rfl fun f c A o s H E hr=>?_
 apply Exists.intro
 unfold Va Ri
 walk_at "j"
noncomputable abbrev Rr:Prop:=Callee P w K mg base 2 "places_of" ["bounds","height"] (Dv K 2 Qy)
theorem AI4 (T:Txt K mg)(D:Def K mg "places_of" YH ["bounds","height"])(Te:ZJ P w K mg base):Rr P w K mg base:=by
 refine Def.En (N:=["bounds","height","width"]) (F:=T8) rfl D (by walk_at "sc") rfl rfl fun f c A o s H E hr=>?_
 apply Exists.intro
 unfold T8
 walk_at "j"
noncomputable abbrev Xw:Prop:=Callee P w K mg base 3 "stretch_of" ["bounds","height","place"] (Dv K 3 Ve)
theorem xQ (T:Txt K mg)(D:Def K mg "stretch_of" WR ["bounds","height","place"])(Ng:Rr P w K mg base):Xw P w K mg base:=by
 refine Def.En (N:=["bounds","height","place","size","first"]) (F:=U7) rfl D (by walk_at "sc") rfl rfl fun f c A o s H E hr=>?_
 apply Exists.intro
 unfold U7
 walk_at "j"
noncomputable abbrev Rb:Prop:=Callee P w K mg base 2 "cap_of" ["bounds","height"] (Dv K 2 Qs)
theorem ADp (T:Txt K mg)(D:Def K mg "cap_of" Z6 ["bounds","height"])(Te:ZJ P w K mg base):Rb P w K mg base:=by
 refine Def.En (N:=["bounds","height","width","step"]) (F:=UW) rfl D (by walk_at "sc") rfl rfl fun f c A o s H E hr=>?_
 apply Exists.intro
 unfold UW
 walk_at "j"
noncomputable abbrev gH:Prop:=Callee P w K mg base 1 "second_place" ["shelf"] (Dv K 1 Qw)
theorem AH7 (T:Txt K mg)(D:Def K mg "second_place" Zb ["shelf"]):gH P w K mg base:=by
 refine Def.En (N:=["shelf","last","place","thing"]) (F:=Qv) rfl D (by walk_at "sc") rfl rfl fun f c A o s H E hr=>?_
 apply Exists.intro
 unfold Qv Hq
 walk_at "j"
noncomputable abbrev WW:Prop:=Callee P w K mg base 1 "done" ["shelf","writes"] (Ef K 2 M4)
theorem AAj (T:Txt K mg)(D:Def K mg "done" aF ["shelf","writes"]):WW P w K mg base:=by
 refine Def.Fe (N:=["shelf","writes","places","place","thing"]) (F:=UL) rfl D (by walk_at "sc") rfl rfl fun f c A o s H E hr=>?_
 apply Exists.intro
 unfold UL S5
 walk_at "j"
noncomputable abbrev vM:Prop:=Callee P w K mg base 2 "mended" ["shelf"] (Ef K 1 ZQ)
theorem ACq (T:Txt K mg)(D:Def K mg "mended" Zk ["shelf"])(Rk:WW P w K mg base)(mZ:gH P w K mg base):vM P w K mg base:=by
 refine Def.Fe (N:=["shelf","second"]) (F:=Ue) rfl D (by walk_at "sc") rfl rfl fun f c A o s H E hr=>?_
 apply Exists.intro
 unfold Ue
 walk_at "j"
noncomputable abbrev fO:Prop:=Callee P w K mg base 3 "rows_of" ["shelf"] (Ef K 1 Rv)
theorem AEP (T:Txt K mg)(D:Def K mg "rows_of" Yr ["shelf"])(qH:vM P w K mg base):fO P w K mg base:=by
 refine Def.Fe (N:=["shelf"]) (F:=R6) rfl D (by walk_at "sc") rfl rfl fun f c A o s H E hr=>?_
 apply Exists.intro
 unfold R6
 walk_at "j"
noncomputable abbrev Um:Prop:=Callee P w K mg base 1 "held" ["shelf","first","behind"] (Dv K 3 Nh)
theorem ADy (T:Txt K mg)(D:Def K mg "held" V6 ["shelf","first","behind"]):Um P w K mg base:=by
 refine Def.En (N:=["shelf","first","behind"]) (F:=T5) rfl D (by walk_at "sc") rfl rfl fun f c A o s H E hr=>?_
 apply Exists.intro
 unfold T5
 walk_at "j"
noncomputable abbrev bB:Prop:=Callee P w K mg base 1 "targets" ["many","size"] (Ef K 2 K9)
theorem AJ1 (T:Txt K mg)(D:Def K mg "targets" X4 ["many","size"]):bB P w K mg base:=by
 refine Def.Fe (N:=["many","size"]) (F:=U8) rfl D (by walk_at "sc") rfl rfl fun f c A o s H E hr=>?_
 apply Exists.intro
 unfold U8
 walk_at "j"
noncomputable abbrev j5:Prop:=Callee P w K mg base 1 "moves_of" ["places","aims"] (Ef K 2 VH)
theorem AIv (T:Txt K mg)(D:Def K mg "moves_of" Wd ["places","aims"]):j5 P w K mg base:=by
 refine Def.Fe (N:=["places","aims","pairs","farther_on","nearer"]) (F:=S8) rfl D (by walk_at "sc") rfl rfl fun f c A o s H E hr=>?_
 apply Exists.intro
 unfold S8
 walk_at "j"
noncomputable abbrev eQ:Prop:=Callee P w K mg base 2 "writes_of" ["shelf","moves"] (Ef K 2 bJ)
theorem AH3 (T:Txt K mg)(D:Def K mg "writes_of" bU ["shelf","moves"])(Rk:WW P w K mg base):eQ P w K mg base:=by
 refine Def.Fe (N:=["shelf","moves","lying","writes","place","target","two"]) (F:=Uk) rfl D (by walk_at "sc") rfl rfl fun f c A o s H E hr=>?_
 apply Exists.intro
 unfold Uk Ub
 walk_at "j"
noncomputable abbrev Rq:Prop:=Callee P w K mg base 1 "place_of" ["shelf","key"] (Dv K 2 K3)
theorem AFW (T:Txt K mg)(D:Def K mg "place_of" Z3 ["shelf","key"]):Rq P w K mg base:=by
 refine Def.En (N:=["shelf","key","place","thing"]) (F:=QZ) rfl D (by walk_at "sc") rfl rfl fun f c A o s H E hr=>?_
 apply Exists.intro
 unfold QZ HH
 walk_at "j"
noncomputable abbrev Z9:Prop:=Callee P w K mg base 1 "seat_of" ["shelf","key"] (Dv K 2 Rn)
theorem AIQ (T:Txt K mg)(D:Def K mg "seat_of" Vo ["shelf","key"]):Z9 P w K mg base:=by
 refine Def.En (N:=["shelf","key","seat","place","thing"]) (F:=R5) rfl D (by walk_at "sc") rfl rfl fun f c A o s H E hr=>?_
 apply Exists.intro
 unfold R5 S9
 walk_at "j"
noncomputable abbrev fC:Prop:=Callee P w K mg base 4 "height_for" ["bounds","height","shelf","key"] (Dv K 4 Zm)
theorem ABk (T:Txt K mg)(D:Def K mg "height_for" Wb ["bounds","height","shelf","key"])(Od:Rb P w K mg base)(Nf:Um P w K mg base)(Rt:Z9 P w K mg base)(RK:Xw P w K mg base):fC P w K mg base:=by
 refine Def.En (N:=["bounds","height","shelf","key","seat","level","stretch"]) (F:=Uc) rfl D (by walk_at "sc") rfl rfl fun f c A o s H E hr=>?_
 apply Exists.intro
 unfold Uc O6
 walk_at "j"
noncomputable abbrev mL:Prop:=Callee P w K mg base 3 "evening_writes" ["shelf","stretch","thing"] (Ef K 3 Wt)
theorem AJq (T:Txt K mg)(D:Def K mg "evening_writes" Xe ["shelf","stretch","thing"])(rJ:j5 P w K mg base)(RL:bB P w K mg base)(vY:eQ P w K mg base):mL P w K mg base:=by
 refine Def.Fe (N:=["shelf","stretch","thing","first","behind","places","aims","lesser","aim"]) (F:=Tc) rfl D (by walk_at "sc") rfl rfl fun f c A o s H E hr=>?_
 apply Exists.intro
 unfold Tc
 walk_at "j"
noncomputable abbrev v7:Prop:=Callee P w K mg base 5 "put_writes" ["bounds","height","shelf","key","amount"] (Ef K 5 J9)
theorem AHv (T:Txt K mg)(D:Def K mg "put_writes" Zt ["bounds","height","shelf","key","amount"])(Od:Rb P w K mg base)(mD:mL P w K mg base)(nA:fC P w K mg base)(Nf:Um P w K mg base)(Oq:Rq P w K mg base)(Rt:Z9 P w K mg base)(RK:Xw P w K mg base):v7 P w K mg base:=by
 refine Def.Fe (N:=["bounds","height","shelf","key","amount","place","level"]) (F:=Qc) rfl D (by walk_at "sc") rfl rfl fun f c A o s H E hr=>?_
 apply Exists.intro
 unfold Qc
 walk_at "j"
noncomputable abbrev wF:Prop:=Callee P w K mg base 2 "take_writes" ["shelf","key"] (Ef K 2 RW)
theorem AFz (T:Txt K mg)(D:Def K mg "take_writes" bD ["shelf","key"])(Oq:Rq P w K mg base):wF P w K mg base:=by
 refine Def.Fe (N:=["shelf","key","place"]) (F:=RD) rfl D (by walk_at "sc") rfl rfl fun f c A o s H E hr=>?_
 apply Exists.intro
 unfold RD
 walk_at "j"
noncomputable abbrev Qj:Prop:=Callee P w K mg base 1 "area_on" ["disk"] (Dv K 1 M3)
theorem AAl (T:Txt K mg)(D:Def K mg "area_on" bA ["disk"]):Qj P w K mg base:=by
 refine Def.En (N:=["disk"]) (F:=TJ) rfl D (by walk_at "sc") rfl rfl fun f c A o s H E hr=>?_
 apply Exists.intro
 unfold TJ
 walk_at "j"
noncomputable abbrev Qg:Prop:=Callee P w K mg base 1 "height_on" ["disk"] (Dv K 1 Mu)
theorem ABv (T:Txt K mg)(D:Def K mg "height_on" Wz ["disk"]):Qg P w K mg base:=by
 refine Def.En (N:=["disk"]) (F:=VG) rfl D (by walk_at "sc") rfl rfl fun f c A o s H E hr=>?_
 apply Exists.intro
 unfold VG
 walk_at "j"
noncomputable abbrev QD:Prop:=Callee P w K mg base 3 "shelf_on" ["bounds","disk"] (Ef K 2 MT)
theorem AHP (T:Txt K mg)(D:Def K mg "shelf_on" Zx ["bounds","disk"])(Ky:Qj P w K mg base)(KR:Qg P w K mg base)(Ng:Rr P w K mg base):QD P w K mg base:=by
 refine Def.Fe (N:=["bounds","disk"]) (F:=Ro) rfl D (by walk_at "sc") rfl rfl fun f c A o s H E hr=>?_
 apply Exists.intro
 unfold Ro
 walk_at "j"
noncomputable abbrev uG:Prop:=Callee P w K mg base 1 "written" ["disk","writes"] (Qk K 2 Th)
theorem AAQ (T:Txt K mg)(D:Def K mg "written" Wg ["disk","writes"]):uG P w K mg base:=by
 refine Def.eX (N:=["disk","writes","parts","part","place","thing"]) (F:=OJ) rfl D (by walk_at "sc") rfl rfl fun f c A o s H E hr=>?_
 apply Exists.intro
 unfold OJ UG
 walk_at "j"
noncomputable abbrev Ux:Prop:=Callee P w K mg base 1 "on_area" ["area","writes"] (Ef K 2 OD)
theorem ADZ (T:Txt K mg)(D:Def K mg "on_area" aM ["area","writes"]):Ux P w K mg base:=by
 refine Def.Fe (N:=["area","writes"]) (F:=Ua) rfl D (by walk_at "sc") rfl rfl fun f c A o s H E hr=>?_
 apply Exists.intro
 unfold Ua
 walk_at "j"
noncomputable abbrev nU:Prop:=Callee P w K mg base 4 "must_grow" ["bounds","disk","key"] (Dv K 3 Le)
theorem ACW (T:Txt K mg)(D:Def K mg "must_grow" Z2 ["bounds","disk","key"])(Od:Rb P w K mg base)(KR:Qg P w K mg base)(Nf:Um P w K mg base)(Oq:Rq P w K mg base)(KN:QD P w K mg base):nU P w K mg base:=by
 refine Def.En (N:=["bounds","disk","key","shelf","height"]) (F:=Vf) rfl D (by walk_at "sc") rfl rfl fun f c A o s H E hr=>?_
 apply Exists.intro
 unfold Vf
 walk_at "j"
noncomputable abbrev tO:Prop:=Callee P w K mg base 5 "growing_writes" ["bounds","disk","key"] (Ef K 3 LK)
theorem AIW (T:Txt K mg)(D:Def K mg "growing_writes" aU ["bounds","disk","key"])(Ky:Qj P w K mg base)(KR:Qg P w K mg base)(pC:nU P w K mg base)(Mi:Ux P w K mg base)(Ng:Rr P w K mg base)(cM:fO P w K mg base)(KN:QD P w K mg base)(RL:bB P w K mg base):tO P w K mg base:=by
 refine Def.Fe (N:=["bounds","disk","key","other","height","things","aims","clearing","laying"]) (F:=Ou) rfl D (by walk_at "sc") rfl rfl fun f c A o s H E hr=>?_
 apply Exists.intro
 unfold Ou
 walk_at "j"
noncomputable abbrev cO:Prop:=Callee P w K mg base 6 "disk_put" ["bounds","disk","key","amount"] (Ef K 4 Jj)
theorem AHp (T:Txt K mg)(D:Def K mg "disk_put" Y0 ["bounds","disk","key","amount"])(Ky:Qj P w K mg base)(dC:tO P w K mg base)(KR:Qg P w K mg base)(Mi:Ux P w K mg base)(rC:v7 P w K mg base)(KN:QD P w K mg base)(vZ:uG P w K mg base):cO P w K mg base:=by
 refine Def.Fe (N:=["bounds","disk","key","amount","growing","grown","putting"]) (F:=R0) rfl D (by walk_at "sc") rfl rfl fun f c A o s H E hr=>?_
 apply Exists.intro
 unfold R0
 walk_at "j"
noncomputable abbrev uH:Prop:=Callee P w K mg base 4 "disk_take" ["bounds","disk","key"] (Ef K 3 Qo)
theorem ABQ (T:Txt K mg)(D:Def K mg "disk_take" V2 ["bounds","disk","key"])(Ky:Qj P w K mg base)(Mi:Ux P w K mg base)(KN:QD P w K mg base)(pI:wF P w K mg base):uH P w K mg base:=by
 refine Def.Fe (N:=["bounds","disk","key"]) (F:=VL) rfl D (by walk_at "sc") rfl rfl fun f c A o s H E hr=>?_
 apply Exists.intro
 unfold VL
 walk_at "j"
noncomputable abbrev nQ:Prop:=Callee P w K mg base 1 "_law_cell" ["script","k"] (Dv K 2 Rj)
theorem AFp (T:Txt K mg)(D:Def K mg "_law_cell" Yy ["script","k"]):nQ P w K mg base:=by
 refine Def.En (N:=["script","k"]) (F:=Q4) rfl D (by walk_at "sc") rfl rfl fun f c A o s H E hr=>?_
 apply Exists.intro
 unfold Q4
 walk_at "j"
noncomputable abbrev YT:Prop:=Callee P w K mg base 1 "_law_spread" ["cell"] (Dv K 1 JX)
theorem ADa (T:Txt K mg)(D:Def K mg "_law_spread" Zf ["cell"]):YT P w K mg base:=by
 refine Def.En (N:=["cell","number"]) (F:=Vd) rfl D (by walk_at "sc") rfl rfl fun f c A o s H E hr=>?_
 apply Exists.intro
 unfold Vd
 walk_at "j"
noncomputable abbrev Y9:Prop:=Callee P w K mg base 1 "_law_mixed" ["cell","k"] (Dv K 2 Qh)
theorem ACv (T:Txt K mg)(D:Def K mg "_law_mixed" ZM ["cell","k"]):Y9 P w K mg base:=by
 refine Def.En (N:=["cell","k","number"]) (F:=Sy) rfl D (by walk_at "sc") rfl rfl fun f c A o s H E hr=>?_
 apply Exists.intro
 unfold Sy
 walk_at "j"
noncomputable abbrev wG:Prop:=Callee P w K mg base 2 "_law_small" ["cell"] (Dv K 1 Zd)
theorem ABX (T:Txt K mg)(D:Def K mg "_law_small" XD ["cell"])(Uz:YT P w K mg base):wG P w K mg base:=by
 refine Def.En (N:=["cell","number","top","step","more"]) (F:=Rp) rfl D (by walk_at "sc") rfl rfl fun f c A o s H E hr=>?_
 apply Exists.intro
 unfold Rp
 walk_at "j"
noncomputable abbrev QB:Prop:=Callee P w K mg base 1 "_law_two" ["height"] (Dv K 1 Hu)
theorem ADx (T:Txt K mg)(D:Def K mg "_law_two" Wf ["height"]):QB P w K mg base:=by
 refine Def.En (N:=["height"]) (F:=Z5) rfl D (by walk_at "sc") rfl rfl fun f c A o s H E hr=>?_
 apply Exists.intro
 unfold Z5
 walk_at "j"
noncomputable abbrev cU:Prop:=Callee P w K mg base 2 "_law_filled" ["bounds","height","cell","many"] (Ef K 4 aK)
theorem ABe (T:Txt K mg)(D:Def K mg "_law_filled" V0 ["bounds","height","cell","many"])(Ss:Y9 P w K mg base)(Kl:QB P w K mg base):cU P w K mg base:=by
 refine Def.Fe (N:=["bounds","height","cell","many","size","left","shelf","k","amount"]) (F:=Td) rfl D (by walk_at "sc") rfl rfl fun f c A o s H E hr=>?_
 apply Exists.intro
 unfold Td VD VP
 walk_at "j"
noncomputable abbrev kJ:Prop:=Callee P w K mg base 2 "_law_area" ["cell","k","size","things"] (Ef K 4 Lw)
theorem ABO (T:Txt K mg)(D:Def K mg "_law_area" Vy ["cell","k","size","things"])(Ss:Y9 P w K mg base):kJ P w K mg base:=by
 refine Def.Fe (N:=["cell","k","size","things","area","place","number","key"]) (F:=RJ) rfl D (by walk_at "sc") rfl rfl fun f c A o s H E hr=>?_
 apply Exists.intro
 unfold RJ Qt
 walk_at "j"
noncomputable abbrev vJ:Prop:=Callee P w K mg base 3 "_law_disk" ["bounds","height","which","shelf","cell"] (Qk K 5 Nm)
theorem AGb (T:Txt K mg)(D:Def K mg "_law_disk" Vn ["bounds","height","which","shelf","cell"])(rQ:kJ P w K mg base)(Kl:QB P w K mg base):vJ P w K mg base:=by
 refine Def.eX (N:=["bounds","height","which","shelf","cell","things","areas"]) (F:=Mj) rfl D (by walk_at "sc") rfl rfl fun f c A o s H E hr=>?_
 apply Exists.intro
 unfold Mj
 walk_at "j"
noncomputable abbrev VB:Prop:=Callee P w K mg base 2 "_law_cap" ["bounds","height"] (Dv K 2 Ly)
theorem AEX (T:Txt K mg)(D:Def K mg "_law_cap" Zy ["bounds","height"])(Kl:QB P w K mg base):VB P w K mg base:=by
 refine Def.En (N:=["bounds","height"]) (F:=Q6) rfl D (by walk_at "sc") rfl rfl fun f c A o s H E hr=>?_
 apply Exists.intro
 unfold Q6
 walk_at "j"
noncomputable abbrev Wo:Prop:=Callee P w K mg base 1 "_law_rows" ["shelf"] (Ef K 1 Qm)
theorem AAs (T:Txt K mg)(D:Def K mg "_law_rows" Za ["shelf"]):Wo P w K mg base:=by
 refine Def.Fe (N:=["shelf","rows","thing"]) (F:=Tg) rfl D (by walk_at "sc") rfl rfl fun f c A o s H E hr=>?_
 apply Exists.intro
 unfold Tg Li
 walk_at "j"
noncomputable abbrev oJ:Prop:=Callee P w K mg base 2 "_law_sound" ["shelf"] (Dv K 1 XF)
theorem AHX (T:Txt K mg)(D:Def K mg "_law_sound" aX ["shelf"])(U9:Wo P w K mg base):oJ P w K mg base:=by
 refine Def.En (N:=["shelf","rows","k"]) (F:=bR) rfl D (by walk_at "sc") rfl rfl fun f c A o s H E hr=>?_
 apply Exists.intro
 unfold bR Pn
 walk_at "j"
noncomputable abbrev rG:Prop:=Callee P w K mg base 1 "_law_key" ["keys","cell","crowd"] (Dv K 3 J4)
theorem AAo (T:Txt K mg)(D:Def K mg "_law_key" Xr ["keys","cell","crowd"]):rG P w K mg base:=by
 refine Def.En (N:=["keys","cell","crowd","far","at","wide"]) (F:=Jb) rfl D (by walk_at "sc") rfl rfl fun f c A o s H E hr=>?_
 apply Exists.intro
 unfold Jb
 walk_at "j"
noncomputable abbrev u5:Prop:=Callee P w K mg base 7 "_law_deed" ["bounds","disk","model","cell","crowd"] (spT K 5 T7)
theorem ADd (T:Txt K mg)(D:Def K mg "_law_deed" ZZ ["bounds","disk","model","cell","crowd"])(Nv:VB P w K mg base)(jM:rG P w K mg base)(sE:cO P w K mg base)(iZ:uH P w K mg base):u5 P w K mg base:=by
 refine Def.iQ (N:=["bounds","disk","model","cell","crowd","keys","key"]) (F:=VR) rfl D (by walk_at "sc") rfl rfl fun f c A o s H E hr=>?_
 apply Exists.intro
 unfold VR
 walk_at "j"
noncomputable abbrev bL:Prop:=Callee P w K mg base 2 "_law_on" ["bounds","disk"] (Ef K 2 Lr)
theorem AEW (T:Txt K mg)(D:Def K mg "_law_on" Vu ["bounds","disk"])(Kl:QB P w K mg base):bL P w K mg base:=by
 refine Def.Fe (N:=["bounds","disk","which","height"]) (F:=Rc) rfl D (by walk_at "sc") rfl rfl fun f c A o s H E hr=>?_
 apply Exists.intro
 unfold Rc
 walk_at "j"
noncomputable abbrev rT:Prop:=Callee P w K mg base 3 "_law_free" ["bounds","disk","write","single"] (Dv K 4 Ye)
theorem AJS (T:Txt K mg)(D:Def K mg "_law_free" ZG ["bounds","disk","write","single"])(Nv:VB P w K mg base)(TQ:bL P w K mg base):rT P w K mg base:=by
 refine Def.En (N:=["bounds","disk","write","single","area","place","thing","which","height","slab","full"]) (F:=R9) rfl D (by walk_at "sc") rfl rfl fun f c A o s H E hr=>?_
 apply Exists.intro
 unfold R9
 walk_at "j"
noncomputable abbrev qQ:Prop:=Callee P w K mg base 4 "_law_done" ["bounds","disk","writes","rows","due"] (spT K 5 Lp)
theorem AJO (T:Txt K mg)(D:Def K mg "_law_done" ZX ["bounds","disk","writes","rows","due"])(eV:rT P w K mg base)(TQ:bL P w K mg base)(U9:Wo P w K mg base)(iI:oJ P w K mg base):qQ P w K mg base:=by
 refine Def.iQ (N:=["bounds","disk","writes","rows","due","k","area","place","thing","slab"]) (F:=QH) rfl D (by walk_at "sc") rfl rfl fun f c A o s H E hr=>?_
 apply Exists.intro
 unfold QH NB
 walk_at "j"
noncomputable abbrev ADn:Prop:=Callee P w K mg base 8 "law" ["script"] (Dv K 1 R4)
theorem AJy (T:Txt K mg)(D:Def K mg "law" bN ["script"])(Nv:VB P w K mg base)(mJ:nQ P w K mg base)(rA:u5 P w K mg base)(g8:vJ P w K mg base)(pQ:qQ P w K mg base)(kI:cU P w K mg base)(vO:wG P w K mg base)(Uz:YT P w K mg base):ADn P w K mg base:=by
 refine Def.En (N:=["script","bounds","some","height","shelf","disk","model","cell","rows","writes"]) (F:=SN) rfl D (by walk_at "sc") rfl rfl fun f c A o s H E hr=>?_
 apply Exists.intro
 unfold SN Lj
 walk_at "j"
theorem chain (T:Txt K mg)(hl:∀ ns:List Int,ns.length≤63→R4 [.list (ns.map PyData.int)]=some (.bool true))(Yo:Def K mg "twofold" WL ["height"])(Xc:Def K mg "places_of" YH ["bounds","height"])(WK:Def K mg "stretch_of" WR ["bounds","height","place"])(Wa:Def K mg "cap_of" Z6 ["bounds","height"])(Zr:Def K mg "second_place" Zb ["shelf"])(Yh:Def K mg "mended" Zk ["shelf"])(W8:Def K mg "rows_of" Yr ["shelf"])(aH:Def K mg "held" V6 ["shelf","first","behind"])(Xh:Def K mg "done" aF ["shelf","writes"])(aV:Def K mg "targets" X4 ["many","size"])(Zq:Def K mg "moves_of" Wd ["places","aims"])(ZS:Def K mg "writes_of" bU ["shelf","moves"])(Z0:Def K mg "place_of" Z3 ["shelf","key"])(ZV:Def K mg "seat_of" Vo ["shelf","key"])(Xy:Def K mg "height_for" Wb ["bounds","height","shelf","key"])(Ze:Def K mg "put_writes" Zt ["bounds","height","shelf","key","amount"])(WQ:Def K mg "evening_writes" Xe ["shelf","stretch","thing"])(W9:Def K mg "take_writes" bD ["shelf","key"])(Wc:Def K mg "area_on" bA ["disk"])(X3:Def K mg "height_on" Wz ["disk"])(aQ:Def K mg "shelf_on" Zx ["bounds","disk"])(Zg:Def K mg "written" Wg ["disk","writes"])(XR:Def K mg "on_area" aM ["area","writes"])(W4:Def K mg "must_grow" Z2 ["bounds","disk","key"])(V3:Def K mg "growing_writes" aU ["bounds","disk","key"])(aD:Def K mg "disk_put" Y0 ["bounds","disk","key","amount"])(aA:Def K mg "disk_take" V2 ["bounds","disk","key"])(aP:Def K mg "_law_cell" Yy ["script","k"])(W3:Def K mg "_law_spread" Zf ["cell"])(bK:Def K mg "_law_mixed" ZM ["cell","k"])(Wm:Def K mg "_law_small" XD ["cell"])(Yt:Def K mg "_law_two" Wf ["height"])(ZK:Def K mg "_law_filled" V0 ["bounds","height","cell","many"])(YS:Def K mg "_law_area" Vy ["cell","k","size","things"])(Zv:Def K mg "_law_disk" Vn ["bounds","height","which","shelf","cell"])(Xp:Def K mg "_law_cap" Zy ["bounds","height"])(YF:Def K mg "_law_rows" Za ["shelf"])(Xl:Def K mg "_law_sound" aX ["shelf"])(Xd:Def K mg "_law_key" Xr ["keys","cell","crowd"])(Ys:Def K mg "_law_deed" ZZ ["bounds","disk","model","cell","crowd"])(Xq:Def K mg "_law_on" Vu ["bounds","disk"])(YL:Def K mg "_law_free" ZG ["bounds","disk","write","single"])(Vz:Def K mg "_law_done" ZX ["bounds","disk","writes","rows","due"])(Uu:Def K mg "law" bN ["script"]):Callee P w K mg base 8 "law" ["script"] (RP K):=by
 have Te:=ADw P w K mg base T Yo
 have Ng:=AI4 P w K mg base T Xc Te
 have RK:=xQ P w K mg base T WK Ng
 have Od:=ADp P w K mg base T Wa Te
 have mZ:=AH7 P w K mg base T Zr
 have Rk:=AAj P w K mg base T Xh
 have qH:=ACq P w K mg base T Yh Rk mZ
 have cM:=AEP P w K mg base T W8 qH
 have Nf:=ADy P w K mg base T aH
 have RL:=AJ1 P w K mg base T aV
 have rJ:=AIv P w K mg base T Zq
 have vY:=AH3 P w K mg base T ZS Rk
 have Oq:=AFW P w K mg base T Z0
 have Rt:=AIQ P w K mg base T ZV
 have nA:=ABk P w K mg base T Xy Od Nf Rt RK
 have mD:=AJq P w K mg base T WQ rJ RL vY
 have rC:=AHv P w K mg base T Ze Od mD nA Nf Oq Rt RK
 have pI:=AFz P w K mg base T W9 Oq
 have Ky:=AAl P w K mg base T Wc
 have KR:=ABv P w K mg base T X3
 have KN:=AHP P w K mg base T aQ Ky KR Ng
 have vZ:=AAQ P w K mg base T Zg
 have Mi:=ADZ P w K mg base T XR
 have pC:=ACW P w K mg base T W4 Od KR Nf Oq KN
 have dC:=AIW P w K mg base T V3 Ky KR pC Mi Ng cM KN RL
 have sE:=AHp P w K mg base T aD Ky dC KR Mi rC KN vZ
 have iZ:=ABQ P w K mg base T aA Ky Mi KN pI
 have mJ:=AFp P w K mg base T aP
 have Uz:=ADa P w K mg base T W3
 have Ss:=ACv P w K mg base T bK
 have vO:=ABX P w K mg base T Wm Uz
 have Kl:=ADx P w K mg base T Yt
 have kI:=ABe P w K mg base T ZK Ss Kl
 have rQ:=ABO P w K mg base T YS Ss
 have g8:=AGb P w K mg base T Zv rQ Kl
 have Nv:=AEX P w K mg base T Xp Kl
 have U9:=AAs P w K mg base T YF
 have iI:=AHX P w K mg base T Xl U9
 have jM:=AAo P w K mg base T Xd
 have rA:=ADd P w K mg base T Ys Nv jM sE iZ
 have TQ:=AEW P w K mg base T Xq Kl
 have eV:=AJS P w K mg base T YL Nv TQ
 have pQ:=AJO P w K mg base T Vz eV TQ U9 iI
 have yK:=AJy P w K mg base T Uu Nv mJ rA g8 pQ kI vO Uz
 exact yK.gP hl
end
theorem ln1 {α:Type}{us:List α}(h:us.length=1):∃ a0,us=[a0]:=by
 obtain _ | ⟨_,us⟩:=us
 ·cases h
 obtain _ | ⟨_,us⟩:=us
 ·exact⟨_,rfl⟩
 ·cases h
theorem ln2 {α:Type}{us:List α}(h:us.length=2):∃ a0 a1,us=[a0,a1]:=by
 obtain _ | ⟨_,us⟩:=us
 ·cases h
 obtain _ | ⟨_,us⟩:=us
 ·cases h
 obtain _ | ⟨_,us⟩:=us
 ·exact⟨_,_,rfl⟩
 ·cases h
theorem ln3 {α:Type}{us:List α}(h:us.length=3):∃ a0 a1 a2,us=[a0,a1,a2]:=by
 obtain _ | ⟨_,us⟩:=us
 ·cases h
 obtain _ | ⟨_,us⟩:=us
 ·cases h
 obtain _ | ⟨_,us⟩:=us
 ·cases h
 obtain _ | ⟨_,us⟩:=us
 ·exact⟨_,_,_,rfl⟩
 ·cases h
theorem yL {α:Type}{us:List α}(h:us.length=4):∃ a0 a1 a2 a3,us=[a0,a1,a2,a3]:=by
 obtain _ | ⟨_,us⟩:=us
 ·cases h
 obtain _ | ⟨_,us⟩:=us
 ·cases h
 obtain _ | ⟨_,us⟩:=us
 ·cases h
 obtain _ | ⟨_,us⟩:=us
 ·cases h
 obtain _ | ⟨_,us⟩:=us
 ·exact⟨_,_,_,_,rfl⟩
 ·cases h
theorem ln5 {α:Type}{us:List α}(h:us.length=5):∃ a0 a1 a2 a3 a4,us=[a0,a1,a2,a3,a4]:=by
 obtain _ | ⟨_,us⟩:=us
 ·cases h
 obtain _ | ⟨_,us⟩:=us
 ·cases h
 obtain _ | ⟨_,us⟩:=us
 ·cases h
 obtain _ | ⟨_,us⟩:=us
 ·cases h
 obtain _ | ⟨_,us⟩:=us
 ·cases h
 obtain _ | ⟨_,us⟩:=us
 ·exact⟨_,_,_,_,_,rfl⟩
 ·cases h
set_option hygiene false
local macro_rules | `(tactic| walk_at "d1") => `(tactic| exact fun _ _ _ _ _ _ us hl => by obtain ⟨_, rfl⟩ := ln1 hl; rfl)
local macro_rules | `(tactic| walk_at "d2") => `(tactic| exact fun _ _ _ _ _ _ us hl => by obtain ⟨_, _, rfl⟩ := ln2 hl; rfl)
local macro_rules | `(tactic| walk_at "d3") => `(tactic| exact fun _ _ _ _ _ _ us hl => by obtain ⟨_, _, _, rfl⟩ := ln3 hl; rfl)
local macro_rules | `(tactic| walk_at "d4") => `(tactic| exact fun _ _ _ _ _ _ us hl => by obtain ⟨_, _, _, _, rfl⟩ := yL hl; rfl)
local macro_rules | `(tactic| walk_at "d5") => `(tactic| exact fun _ _ _ _ _ _ us hl => by obtain ⟨_, _, _, _, _, rfl⟩ := ln5 hl; rfl)
set_option hygiene true
theorem all_mk (hl:∀ ns:List Int,ns.length≤63→R4 [.list (ns.map PyData.int)]=some (.bool true)){l:PySem.W.OpenLaw}{w:World}{K:Frag}{h:Heap}{mg:Str→Option Value}{fa:Addr}(X:K.In h)(G:h.Ns mainGlobals mg)(hfa:mg "law"=some (.ref fa)){AHh:Tok}(a0:FnAt K "twofold" WL)(a1:FnAt K "places_of" YH)(a2:FnAt K "stretch_of" WR)(a3:FnAt K "cap_of" Z6)(a4:FnAt K "second_place" Zb)(a5:FnAt K "mended" Zk)(a6:FnAt K "rows_of" Yr)(a7:FnAt K "held" V6)(a8:FnAt K "done" aF)(a9:FnAt K "targets" X4)(a10:FnAt K "moves_of" Wd)(a11:FnAt K "writes_of" bU)(a12:FnAt K "place_of" Z3)(a13:FnAt K "seat_of" Vo)(a14:FnAt K "height_for" Wb)(a15:FnAt K "put_writes" Zt)(a16:FnAt K "evening_writes" Xe)(a17:FnAt K "take_writes" bD)(a18:FnAt K "area_on" bA)(a19:FnAt K "height_on" Wz)(a20:FnAt K "shelf_on" Zx)(a21:FnAt K "written" Wg)(a22:FnAt K "on_area" aM)(a23:FnAt K "must_grow" Z2)(a24:FnAt K "growing_writes" aU)(a25:FnAt K "disk_put" Y0)(a26:FnAt K "disk_take" V2)(a27:FnAt K "_law_cell" Yy)(a28:FnAt K "_law_spread" Zf)(a29:FnAt K "_law_mixed" ZM)(a30:FnAt K "_law_small" XD)(a31:FnAt K "_law_two" Wf)(a32:FnAt K "_law_filled" V0)(a33:FnAt K "_law_area" Vy)(a34:FnAt K "_law_disk" Vn)(a35:FnAt K "_law_cap" Zy)(a36:FnAt K "_law_rows" Za)(a37:FnAt K "_law_sound" aX)(a38:FnAt K "_law_key" Xr)(a39:FnAt K "_law_deed" ZZ)(a40:FnAt K "_law_on" Vu)(a41:FnAt K "_law_free" ZG)(a42:FnAt K "_law_done" ZX)(a43:FnAt K "law" bN)(Vq:nsIn K mainGlobals "dict"=some none)(XS:nsIn K mainGlobals "enumerate"=some none)(Vx:nsIn K mainGlobals "int"=some none)(YX:nsIn K mainGlobals "len"=some none)(Y4:nsIn K mainGlobals "list"=some none)(V1:nsIn K mainGlobals "max"=some none)(ZD:nsIn K mainGlobals "min"=some none)(aB:nsIn K mainGlobals "range"=some none)(Zu:nsIn K mainGlobals "reversed"=some none)(Y8:nsIn K mainGlobals "sorted"=some none)(XJ:nsIn K mainGlobals "zip"=some none)(Z1:nsIn K mainGlobals "SIGN_PART"=some (some (.int 2 AHh))):∃ fd:FuncData,(∀ (s:Shared) (u:Value),BindsTo s fd ⟨[u],[]⟩ [("script",u)])∧∀ base:Heap,K.In base→base.Ns mainGlobals mg→Gd l.prog w K mg base Hd 8 fa fd ["script"] (RP K):=by
 have T:Txt K mg:=⟨mg_none_of X G Vq,mg_none_of X G XS,mg_none_of X G Vx,mg_none_of X G YX,mg_none_of X G Y4,mg_none_of X G V1,mg_none_of X G ZD,mg_none_of X G aB,mg_none_of X G Zu,mg_none_of X G Y8,mg_none_of X G XJ,⟨_,mg_of X G Z1⟩⟩
 have Yo:=a0.d (ps:=["height"]) X G (by walk_at "d1")
 have Xc:=a1.d (ps:=["bounds","height"]) X G (by walk_at "d2")
 have WK:=a2.d (ps:=["bounds","height","place"]) X G (by walk_at "d3")
 have Wa:=a3.d (ps:=["bounds","height"]) X G (by walk_at "d2")
 have Zr:=a4.d (ps:=["shelf"]) X G (by walk_at "d1")
 have Yh:=a5.d (ps:=["shelf"]) X G (by walk_at "d1")
 have W8:=a6.d (ps:=["shelf"]) X G (by walk_at "d1")
 have aH:=a7.d (ps:=["shelf","first","behind"]) X G (by walk_at "d3")
 have Xh:=a8.d (ps:=["shelf","writes"]) X G (by walk_at "d2")
 have aV:=a9.d (ps:=["many","size"]) X G (by walk_at "d2")
 have Zq:=a10.d (ps:=["places","aims"]) X G (by walk_at "d2")
 have ZS:=a11.d (ps:=["shelf","moves"]) X G (by walk_at "d2")
 have Z0:=a12.d (ps:=["shelf","key"]) X G (by walk_at "d2")
 have ZV:=a13.d (ps:=["shelf","key"]) X G (by walk_at "d2")
 have Xy:=a14.d (ps:=["bounds","height","shelf","key"]) X G (by walk_at "d4")
 have Ze:=a15.d (ps:=["bounds","height","shelf","key","amount"]) X G (by walk_at "d5")
 have WQ:=a16.d (ps:=["shelf","stretch","thing"]) X G (by walk_at "d3")
 have W9:=a17.d (ps:=["shelf","key"]) X G (by walk_at "d2")
 have Wc:=a18.d (ps:=["disk"]) X G (by walk_at "d1")
 have X3:=a19.d (ps:=["disk"]) X G (by walk_at "d1")
 have aQ:=a20.d (ps:=["bounds","disk"]) X G (by walk_at "d2")
 have Zg:=a21.d (ps:=["disk","writes"]) X G (by walk_at "d2")
 have XR:=a22.d (ps:=["area","writes"]) X G (by walk_at "d2")
 have W4:=a23.d (ps:=["bounds","disk","key"]) X G (by walk_at "d3")
 have V3:=a24.d (ps:=["bounds","disk","key"]) X G (by walk_at "d3")
 have aD:=a25.d (ps:=["bounds","disk","key","amount"]) X G (by walk_at "d4")
 have aA:=a26.d (ps:=["bounds","disk","key"]) X G (by walk_at "d3")
 have aP:=a27.d (ps:=["script","k"]) X G (by walk_at "d2")
 have W3:=a28.d (ps:=["cell"]) X G (by walk_at "d1")
 have bK:=a29.d (ps:=["cell","k"]) X G (by walk_at "d2")
 have Wm:=a30.d (ps:=["cell"]) X G (by walk_at "d1")
 have Yt:=a31.d (ps:=["height"]) X G (by walk_at "d1")
 have ZK:=a32.d (ps:=["bounds","height","cell","many"]) X G (by walk_at "d4")
 have YS:=a33.d (ps:=["cell","k","size","things"]) X G (by walk_at "d4")
 have Zv:=a34.d (ps:=["bounds","height","which","shelf","cell"]) X G (by walk_at "d5")
 have Xp:=a35.d (ps:=["bounds","height"]) X G (by walk_at "d2")
 have YF:=a36.d (ps:=["shelf"]) X G (by walk_at "d1")
 have Xl:=a37.d (ps:=["shelf"]) X G (by walk_at "d1")
 have Xd:=a38.d (ps:=["keys","cell","crowd"]) X G (by walk_at "d3")
 have Ys:=a39.d (ps:=["bounds","disk","model","cell","crowd"]) X G (by walk_at "d5")
 have Xq:=a40.d (ps:=["bounds","disk"]) X G (by walk_at "d2")
 have YL:=a41.d (ps:=["bounds","disk","write","single"]) X G (by walk_at "d4")
 have Vz:=a42.d (ps:=["bounds","disk","writes","rows","due"]) X G (by walk_at "d5")
 have Uu:=a43.d (ps:=["script"]) X G (by walk_at "d1")
 exact AEq Uu hfa fun base _ _=>chain _ _ _ _ _ T hl Yo Xc WK Wa Zr Yh W8 aH Xh aV Zq ZS Z0 ZV Xy Ze WQ W9 Wc X3 aQ Zg XR W4 V3 aD aA aP W3 bK Wm Yt ZK YS Zv Xp YF Xl Xd Ys Xq YL Vz Uu
end S26
set_option hygiene false
local macro_rules | `(tactic| walk_at "pu") => `(tactic| simp only [L2.AAZ, L2.DP, L2.Jo, L2.Py, L2.Il, L2.AGz, L2.ABd, L2.AFw, L2.yD, L2.zO, L2.bT, L2.Ov, L2.Qx, LL.AFR, LL.xT, L2.KQ, L2.KD, L2.Uy, L2.ABw, L2.Ak, L2.M7, L2.vN, L2.Q5, L2.Yx, L2.NZ, L2.Oi, L2.mQ, L2.sG, L2.Y5, L2.uW, L2.jT, L2.pW, L2.b7, L2.uL, L2.c7, L2.Aq, L2.vS, L2.vF, L2.vL, L2.Jv, L2.Hb, L2.Fx, L2.Ab, L2.IV, L2.Aa, L2.Ad, L2.Av, L2.JP, L2.Fo, L2.Jp, L2.DK, L2.QC, L2.Ma, L2.aZ, L2.V8, L2.K6, L2.Ae, L2.Ac, L2.BV, L2.CK, L2.Ax, L2.Am, L2.Az, L2.f9, L2.Bs, L2.El, L2.Je, L2.Vt, L2.CN, L2.CQ, L2.cR, L2.Jh, L2.Ir, L2.uC, L2.Fd, L2.JQ, L2.Ea, L2.G9, L2.Be, L2.bW, L2.Iz, L2.Wk, L2.full, L2.masked, L2.lU,
 List.map_cons,List.map_nil,List.cons_append,List.nil_append,List.length_cons,List.length_nil,List.length_map,Nat.reduceAdd,Nat.reduceSub,Nat.zero_add,List.replicate_succ,List.replicate_zero,List.set_cons_succ,List.set_cons_zero,L2.cH,L2.oF,List.getElem?_cons_zero,List.getElem?_cons_succ,Option.join_some,
 L2.pG,L2.p8,L2.rO,L2.Z4,L2.dM,L2.Xg,L2.Gb,L2.jY,Option.map_some,L2.rH,L2.lK,L2.bO,L2.pB,L2.uZ,L2.kO,L2.cP,L2.kZ,L2.nM,L2.vC,L2.qO,L2.nZ,L2.Nq,L2.dH,L2.tW,L2.uE,L2.mU,L2.iW,L2.dX,L2.d8,L2.wA,L2.rD,L2.fD,L2.uO,L2.fZ,
 L2.uD,L2.dY,L2.gF,L2.fX,L2.uN,L2.tQ,L2.dF,L2.tL,L2.nG,L2.fV,L2.jG,L2.mK,L2.pD,L2.pL,L2.d7,L2.Xf,Bool.and_self,Bool.true_and,L2.lW,L2.uI,if_true,if_false,Bool.not_true,Bool.not_false,Bool.false_eq_true,L2.cY,L2.lD,decide_true,decide_false,Bool.or_true,Bool.true_or,Bool.or_self,Bool.or_false,Bool.false_or,Bool.and_true,Bool.and_false,Bool.false_and,and_self,and_true,true_and,not_true_eq_false,not_false_eq_true,true_or,or_true,L2.Kr,L2.Nx,L2.iC,L2.dW,L2.mW,L2.pM,L2.jW,L2.iM,L2.oK,L2.fW,L2.sI,eq_self,L2.Yz,L2.cL,L2.iT,L2.o7,L2.oR,L2.Ur,L2.PN,L2.uB,L2.cZ,L2.SJ,L2.ZF,L2.YM,L2.Qf,Int.reduceLT,Int.reduceLE,Nat.reduceLT,Nat.reduceLeDiff,Int.reduceNeg,Int.reduceAdd,Int.reduceSub,Int.reduceMul,Nat.lt_irrefl, *])
set_option hygiene true
namespace S26
open PySem L2 LKb LL
theorem AG9 (c:Int):∃ t w st,Zd [.int c]=some (.tuple [.int t,.int w,.int st])∧Bd t w st∧(2≤t→w≤15):=by
 obtain⟨n,hn,_⟩:=Mp c
 have m8:=FJ n (b:=8) (by decide)
 obtain⟨v,hv,ev⟩:=Hx ([.int 0,.int 1,.int 1,.int 2,.int 2,.int 2,.int 3,.int 4]:List D) (i:=n % 8) m8.1 m8.2
 obtain⟨t,rfl,t0,t4⟩:∃ t:Int,v=.int t∧0≤t∧t≤4:=by
  simp only[List.mem_cons,List.mem_nil_iff,or_false] at hv
  rcases hv with e | e | e | e | e | e | e | e<;>exact⟨_,e,by decide,by decide⟩
 obtain⟨x,ex,x1,x9⟩:∃ x:Int,Bj ([.int 9,.int 9,.int 7,.int 3,.int 3]:List D) t=some (.int x)∧3≤x∧(2≤t→(9 / (t+2))*(t+2)+x-1≤15)∧(9 / (t+2))*(t+2)+x-1≤20:=by
  rcases Qu t0 t4 with⟨rfl,e⟩ | ⟨rfl,e⟩ | ⟨rfl,e⟩ | ⟨rfl,e⟩ | ⟨rfl,e⟩<;>exact⟨_,rfl,by decide,by decide⟩
 have d9:0<9 / (t+2)∧9 / (t+2)<1073741824:=by
  have:t=0∨t=1∨t=2∨t=3∨t=4:=by omega
  rcases this with rfl | rfl | rfl | rfl | rfl<;>decide
 have q0:=FJ (n / 8) d9.1
 have m2:=FJ (n / 160) (b:=2) (by decide)
 obtain⟨v,hv,ev2⟩:=Hx ([.int 3,.int x]:List D) (i:=n / 160 % 2) m2.1 m2.2
 obtain⟨y,rfl,y1,y2⟩:∃ y:Int,v=.int y∧3≤y∧y≤x:=by
  simp only[List.mem_cons,List.mem_nil_iff,or_false] at hv
  rcases hv with e | e
  ·exact⟨_,e,by omega,by omega⟩
  ·exact⟨_,e,by omega,by omega⟩
 have y0:0<y:=by omega
 have q1:=FJ (n / 320) (b:=y) y0
 have yx:y<1073741824:=by
  have:=x9.2
  have h0:0≤(9 / (t+2))*(t+2):=Int.mul_nonneg (by omega) (by omega)
  omega
 have s4:0<t+2∧t+2<1073741824:=⟨by omega,by omega⟩
 have h1:(1+n / 8 % (9 / (t+2)))≤9 / (t+2):=by omega
 have h2:(1+n / 8 % (9 / (t+2)))*(t+2)≤(9 / (t+2))*(t+2):=Int.mul_le_mul_of_nonneg_right h1 (by omega)
 have s3:-18446744073709551616<1+n / 8 % (9 / (t+2))∧1+n / 8 % (9 / (t+2))<18446744073709551616:=⟨by omega,by omega⟩
 refine⟨t,(1+n / 8 % (9 / (t+2)))*(t+2)+n / 320 % y,1+n / 8 % (9 / (t+2)),Dl (o:=.rt (.tuple _)) rfl ?_ rfl,⟨t0,t4,by omega,by omega,by omega⟩,?_⟩
 ·clear hv h1 h2 q1 q0 x9 x1
  unfold Rp
  walk_at "pu"
 ·intro z
  have:=x9.1 z
  omega
section
variable {w st n a h t:Nat}{k:Dk}{S:List Thing}
theorem aY (l:Lies w n k a h S)(t:Int)(st:Nat):Lr [.tuple [.int t,.int (w:Int),.int (st:Int)],BK k]=some (S.map encD):=by
 obtain⟨A,B,d⟩:=l.d
 have h4:=l.h4
 obtain⟨e1,e2⟩:=d.sg
 have e4:=Wu d.ar.1
 have e5:Gk (encL (CT k a))=some ((CT k a).map encD):=rfl
 have e6:=oU encD (CT k a) (2 ^ h*w)
 have Gg:=Pq (h:=(h:Int)) (by omega) (by omega)
 rw[O4] at Gg
 have hp:=Tu h4
 have hpe:((2 ^ h:Nat):Int)=(2:Int) ^ h:=Int.natCast_pow 2 h
 rw[← hpe] at hp
 have hmul:((2 ^ h:Nat):Int)*(w:Int)=((2 ^ h*w:Nat):Int):=(Int.natCast_mul _ _).symm
 have hsh:(CT k a).take (2 ^ h*w)=S:=l.sh
 rw[hsh] at e6
 clear hpe hsh l d h4
 generalize 2 ^ h*w=W at *
 generalize ((2 ^ h:Nat):Int)=T at *
 refine FN rfl ?_
 unfold Rc
 refine Aw (ρ':=[.sh (.tuple [.int t,.int (w:Int),.int (st:Int)]),.sh (BK k),.sh (.int (a:Int)),.sh (.int (h:Int))]) (by clear e4 e5 e6 Gg hp hmul;walk_at "pu";rfl) ?_
 clear e1 e2
 walk_at "pu"
theorem AIk (x y z:Int):∃ b,Np false (.int x) (.tuple [.int y,.int z])=some (.bool b):=⟨_,rfl⟩
theorem ADq (l:Lies w n k a h S){one:Bool}{q:Wr}(fr:QQ w st one a h S q)(t:Nat):Ye [.tuple [.int (t:Int),.int (w:Int),.int (st:Int)],BK k,Bl q,.bool one]=some (.bool true):=by
 have e0:=aY l (t:Int) st
 have hlen:=l.len
 have h4:=l.h4
 have ha:=l.a2
 have hcap:=Vr (t:=t) (w:=w) (st:=st) h4
 have hl3:S.length≤320:=by have:=l.fit;have:=l.n3;omega
 obtain⟨A,B,d⟩:=l.d
 obtain⟨e1,e2⟩:=d.sg
 obtain⟨Bo,hBo⟩:∃ Bo:D,Bo=.tuple [.int (t:Int),.int (w:Int),.int (st:Int)]:=⟨_,rfl⟩
 rw[← hBo] at e0 hcap ⊢
 clear hBo
 refine Dl (o:=.rt (.bool true)) rfl ?_ rfl
 unfold R9
 refine Aw (ρ':=[.sh Bo,.sh (BK k),.sh (Bl q),.sh (.bool one),.sh (.int (q.1:Nat)),.sh (.int (q.2.1:Nat)),.sh (encD q.2.2),.no,.no,.no,.no]) (by clear e0 e1 e2 hcap;walk_at "pu";rfl) ?_
 refine Aw (ρ':=[.sh Bo,.sh (BK k),.sh (Bl q),.sh (.bool one),.sh (.int (q.1:Nat)),.sh (.int (q.2.1:Nat)),.sh (encD q.2.2),.sh (.int (a:Int)),.sh (.int (h:Int)),.no,.no]) (by clear e0 hcap;walk_at "pu";rfl) ?_
 refine Aw (ρ':=[.sh Bo,.sh (BK k),.sh (Bl q),.sh (.bool one),.sh (.int (q.1:Nat)),.sh (.int (q.2.1:Nat)),.sh (encD q.2.2),.sh (.int (a:Int)),.sh (.int (h:Int)),.sh (.list (S.map encD)),.no]) (by clear e1 e2 hcap;walk_at "pu") ?_
 rcases fr with⟨rfl,hc⟩ | h1 | ⟨h1,h2,h3⟩
 ·refine Kz (Oz (by clear e0 e1 e2 hcap;walk_at "pu";rfl) ?_)
  have hth:=Mr S (by omega) (fi:=Be (Aa 9)) (ρ:=masked [.sh Bo,.sh (BK k),.sh (Bl (2,0,some (((1-a:Nat):Int),((h+1:Nat):Int)))),.sh (.bool one),.sh (.int ((2:Nat):Int)),.sh (.int ((0:Nat):Int)),.sh (encD (some (((1-a:Nat):Int),((h+1:Nat):Int)))),.sh (.int (a:Int)),.sh (.int (h:Int)),.sh (.list (S.map encD)),.no]) rfl
  rw[Ls] at hth
  simp only[L2.masked,List.map_cons,List.map_nil,L2.Z4,L2.Xg] at hth
  refine Aw (ρ':=[.sh Bo,.sh (BK k),.sh (Bl (2,0,some (((1-a:Nat):Int),((h+1:Nat):Int)))),.sh (.bool one),.sh (.int ((2:Nat):Int)),.sh (.int ((0:Nat):Int)),.sh (encD (some (((1-a:Nat):Int),((h+1:Nat):Int)))),.sh (.int (a:Int)),.sh (.int (h:Int)),.sh (.list (S.map encD)),.sh (.bool true)]) ?_ ?_
  ·refine MP ?_
   generalize BX (Be (Aa 9)) (Bg 0) (Av (Ab BZ (Aa 0) (BV Ae))) (Aa 0) 1 []=CC at *
   clear e0 e1 e2
   walk_at "pu"
  ·have ho:((1-a:Nat):Int)=1-(a:Int):=by omega
   have hh:((h+1:Nat):Int)=(h:Int)+1:=by omega
   have hT:=UT.Bp (by decide) (some (1-(a:Int),(h:Int)+1)) (some (1-(a:Int),(h:Int)+1))
   rw[decide_eq_true rfl] at hT
   have hT':Bp (encD (some (1-(a:Int),(h:Int)+1))) (.tuple [.int (1-(a:Int)),.int ((h:Int)+1)])=some (.bool true):=hT
   rw[ho,hh]
   clear hT hth hcap e0 e1 e2 ho hh
   generalize encD (some (1-(a:Int),(h:Int)+1))=E at *
   walk_at "pu"
 ·have g1:¬ ((q.1:Nat):Int)=2:=by omega
  have g2:¬ ((q.1:Nat):Int)=(a:Int):=by omega
  refine Aw (ρ':=[.sh Bo,.sh (BK k),.sh (Bl q),.sh (.bool one),.sh (.int (q.1:Nat)),.sh (.int (q.2.1:Nat)),.sh (encD q.2.2),.sh (.int (a:Int)),.sh (.int (h:Int)),.sh (.list (S.map encD)),.no]) (N7 (by clear e0 e1 e2 hcap h1 g2;walk_at "pu") rfl) ?_
  refine Kz (Oz (by clear e0 e1 e2 hcap h1 g1;walk_at "pu") rfl)
 ·have g1:¬ ((q.1:Nat):Int)=2:=by omega
  have g2:((q.1:Nat):Int)=(a:Int):=by omega
  refine Aw (ρ':=[.sh Bo,.sh (BK k),.sh (Bl q),.sh (.bool one),.sh (.int (q.1:Nat)),.sh (.int (q.2.1:Nat)),.sh (encD q.2.2),.sh (.int (a:Int)),.sh (.int (h:Int)),.sh (.list (S.map encD)),.no]) (N7 (by clear e0 e1 e2 hcap h1 g2;walk_at "pu") rfl) ?_
  refine Aw (ρ':=[.sh Bo,.sh (BK k),.sh (Bl q),.sh (.bool one),.sh (.int (q.1:Nat)),.sh (.int (q.2.1:Nat)),.sh (encD q.2.2),.sh (.int (a:Int)),.sh (.int (h:Int)),.sh (.list (S.map encD)),.no]) (N7 (by clear e0 e1 e2 hcap h1 g1;walk_at "pu") rfl) ?_
  have hat:=Yc S h2
  have hat':Al (.list (S.map encD)) (.int (q.2.1:Nat))=some (encD (S.getD q.2.1 none)):=hat
  clear e0 e1 e2 hcap h1 g1 g2
  rcases h3 with⟨hx,h3⟩ | ⟨v,hx,h3⟩
  ·rw[hx]
   have hN:=Ur none none
   refine Kz (Oz (by clear h3 hat hat';walk_at "pu") ?_)
   rcases h3 with rfl | h3
   ·clear hat hat'
    walk_at "pu"
   ·have Lq:=AGd S (S.getD q.2.1 none)
    rw[h3] at Lq
    have YJ:N5 (.list (S.map encD)) (encD (S.getD q.2.1 none))=some (.int 2):=Lq
    clear Lq h3 hat
    generalize S.getD q.2.1 none=y at *
    cases one
    ·walk_at "pu"
    ·clear hat' YJ
     walk_at "pu"
  ·rw[hx]
   have hv:¬ some v=none:=by simp
   have hv0:Al (encD (some v)) (.int 0)=some (.int v.1):=rfl
   refine Aw (ρ':=[.sh Bo,.sh (BK k),.sh (Bl q),.sh (.bool one),.sh (.int (q.1:Nat)),.sh (.int (q.2.1:Nat)),.sh (encD (some v)),.sh (.int (a:Int)),.sh (.int (h:Int)),.sh (.list (S.map encD)),.no]) (N7 (by clear h3 hat hat' hv0;walk_at "pu") rfl) ?_
   rcases h3 with h3 | ⟨x,h3⟩
   ·rw[h3] at hat'
    clear h3 hat hv0 hv
    walk_at "pu"
   ·rw[h3] at hat'
    have e2:Al (encD (some (v.1,x))) (.int 0)=some (.int v.1):=rfl
    have hv2:¬ some (v.1,x)=none:=by simp
    clear h3 hat hv
    walk_at "pu"
theorem qU (ad:Addr){a' h':Nat}{S':List Thing}{q:Wr}(l:Lies w n k a h S)(ok:Hm k q){X:List Pr}(U:D)(W:List D){c t:Nat}(s6 s7 s8 s9:Sl)(hW:Bj W (c:Int)=some (Bl q))(fr:QQ w st (decide ((W.length:Int)=1)) a h S q)(l':Lies w n (DW k q) a' h' S')(hrest:((c:Int)<(W.length:Int)-1∧YC X S')∨¬ (c:Int)<(W.length:Int)-1) :
  NB [.sh (.tuple [.int (t:Int),.int (w:Int),.int (st:Int)]),.tr ad (.nst (BW k)),.sh (.list W),.sh (.list (X.map Ay)),.sh U,.sh (.int (c:Int)),s6,s7,s8,s9]=some (.nx [.sh (.tuple [.int (t:Int),.int (w:Int),.int (st:Int)]),.tr ad (.nst (BW (DW k q))),.sh (.list W),.sh (.list (X.map Ay)),.sh U,.sh (.int (c:Int)),.sh (.int (q.1:Nat)),.sh (.int (q.2.1:Nat)),.sh (encD q.2.2),.sh (.list (S'.map encD))]):=by
 have hfree:=ADq l fr t
 have hon:=aY l' (t:Int) st
 have hl3:S'.length≤320:=by have:=l'.fit;have:=l'.n3;have:=l'.len;omega
 obtain⟨o1,o2⟩:=ok
 obtain⟨Bo,hBo⟩:∃ Bo:D,Bo=.tuple [.int (t:Int),.int (w:Int),.int (st:Int)]:=⟨_,rfl⟩
 rw[← hBo] at hfree hon ⊢
 clear hBo
 have l1:(BW k).length=k.length:=by unfold BW;rw[List.length_map]
 have i1:=J6 (n:=k.length) (j:=q.1) o1
 have i2:=J6 (n:=(k.getD q.1 []).length) (j:=q.2.1) o2
 have g1:=cF o1
 have stt:=mF k q
 obtain⟨A,B,d⟩:=l'.d
 obtain⟨e1,e2⟩:=d.sg
 have e3:=cJ (a':Int) (h':Int)
 obtain⟨b,hb⟩:=AIk ((q.1:Nat):Int) 2 (a':Int)
 clear d l l' fr
 unfold NB
 refine Aw (ρ':=[.sh Bo,.tr ad (.nst (BW k)),.sh (.list W),.sh (.list (X.map Ay)),.sh U,.sh (.int (c:Int)),s6,s7,s8,s9]) (by clear hrest hon l1 i1 i2 g1 stt e1 e2 e3 hb;walk_at "pu") ?_
 refine Aw (ρ':=[.sh Bo,.tr ad (.nst (BW k)),.sh (.list W),.sh (.list (X.map Ay)),.sh U,.sh (.int (c:Int)),.sh (.int (q.1:Nat)),.sh (.int (q.2.1:Nat)),.sh (encD q.2.2),s9]) (by clear hfree hrest hon l1 i1 i2 g1 stt e1 e2 e3 hb;walk_at "pu";rfl) ?_
 refine Aw (ρ':=[.sh Bo,.tr ad (.nst (BW (DW k q))),.sh (.list W),.sh (.list (X.map Ay)),.sh U,.sh (.int (c:Int)),.sh (.int (q.1:Nat)),.sh (.int (q.2.1:Nat)),.sh (encD q.2.2),s9]) (by clear hfree hrest hon e1 e2 e3 hb hW;walk_at "pu") ?_
 refine Aw (ρ':=[.sh Bo,.tr ad (.nst (BW (DW k q))),.sh (.list W),.sh (.list (X.map Ay)),.sh U,.sh (.int (c:Int)),.sh (.int (q.1:Nat)),.sh (.int (q.2.1:Nat)),.sh (encD q.2.2),.sh (.list (S'.map encD))]) (by clear hfree hrest l1 i1 i2 g1 stt e1 e2 e3 hb hW;walk_at "pu") ?_
 rcases hrest with⟨hc,Mw,hR,hfew⟩ | hc
 ·have h1:=fQ S' (by omega)
  have h2:=ADP S' (by omega)
  rw[Mw] at h1 h2
  rw[decide_eq_true hR,decide_eq_true hfew,Bool.true_and] at h2
  have hpl:=cV X X
  rw[decide_eq_true rfl,Bool.not_true] at hpl
  clear Mw hR hfew hfree l1 i1 i2 g1 stt hW hon hl3
  cases b
  ·clear h1 h2 hpl
   walk_at "pu"
  ·walk_at "pu"
 ·clear hfree l1 i1 i2 g1 stt hW hon hl3
  cases b<;>walk_at "pu"
end
theorem AAe (ad:Addr){w st n t:Nat}{X:List Pr}(U:D){k k1:Dk}{r:List Wr}(m:Fv w st n X k r k1){q:Wr}{a h a' h':Nat}{S S':List Thing}(l:Lies w n k1 a h S)(ok:Hm k1 q)(l':Lies w n (DW k1 q) a' h' S'):∀ (pre:List D) (W:List D),W=pre++((r++[q]).map Bl)→QQ w st (decide ((W.length:Int)=1)) a h S q→∀ s5 s6 s7 s8 s9,∃ s5' s6' s7' s8' s9',
  Bx (Ek 5) NB (Ci (pre.length:Int) (r.length+1)) [.sh (.tuple [.int (t:Int),.int (w:Int),.int (st:Int)]),.tr ad (.nst (BW k)),.sh (.list W),.sh (.list (X.map Ay)),.sh U,s5,s6,s7,s8,s9]=some (.nx [.sh (.tuple [.int (t:Int),.int (w:Int),.int (st:Int)]),.tr ad (.nst (BW (DW k1 q))),.sh (.list W),.sh (.list (X.map Ay)),.sh U,s5',s6',s7',s8',s9']):=by
 induction m with
 | nil k =>
  intro pre W hW hf s5 s6 s7 s8 s9
  have hat:Bj W (pre.length:Int)=some (Bl q):=by
   rw[G8,hW,List.getElem?_append_right (Nat.le_refl _),Nat.sub_self]
   rfl
  have hWl:¬ (pre.length:Int)<(W.length:Int)-1:=by
   rw[hW]
   simp
  have w1:=qU ad (X:=X) (t:=t) l ok U W (c:=pre.length) s6 s7 s8 s9 hat hf l' (.inr hWl)
  refine⟨.sh (.int (pre.length:Int)),.sh (.int (q.1:Nat)),.sh (.int (q.2.1:Nat)),.sh (encD q.2.2),.sh (.list (S'.map encD)),?_⟩
  rw[show ([]:List Wr).length+1=0+1 from rfl,kW,HY rfl w1]
  rfl
 | @cons k k' p r b g b' g' T T' l0 o0 f0 l1 m0 _ ih =>
  intro pre W hW hf s5 s6 s7 s8 s9
  have hat:Bj W (pre.length:Int)=some (Bl p):=by
   rw[G8,hW,List.getElem?_append_right (Nat.le_refl _),Nat.sub_self]
   rfl
  have hWl:W.length=pre.length+(r.length+2):=by
   rw[hW]
   simp
  have w1:=qU ad (X:=X) (t:=t) l0 o0 U W (c:=pre.length) s6 s7 s8 s9 hat (by rw[decide_eq_false (by omega)];exact f0) l1 (.inl ⟨by omega,m0⟩)
  obtain⟨s5',s6',s7',s8',s9',h⟩:=ih l ok l' (pre++[Bl p]) W (by rw[hW];simp) hf (.sh (.int (pre.length:Int))) (.sh (.int (p.1:Nat))) (.sh (.int (p.2.1:Nat))) (.sh (encD p.2.2)) (.sh (.list (T'.map encD)))
  refine⟨s5',s6',s7',s8',s9',?_⟩
  rw[List.length_cons,kW,HY rfl w1]
  rw[show (pre.length:Int)+1=((pre++[Bl p]).length:Int) by simp]
  exact h
theorem iK {ad:Addr}{w st n t a h:Nat}{k k':Dk}{S:List Thing}{R W:List D}{s5 s6 s7 s8 s9:Sl}(l:Lies w n k' a h S)(hW:W.length≤2000)(hf:Bx (Ek 5) NB (Ci 0 W.length) [.sh (.tuple [.int (t:Int),.int (w:Int),.int (st:Int)]),.tr ad (.nst (BW k)),.sh (.list W),.sh (.list R),.sh (.list ((things S).map Ay)),.no,.no,.no,.no,.no]=some (.nx [.sh (.tuple [.int (t:Int),.int (w:Int),.int (st:Int)]),.tr ad (.nst (BW k')),.sh (.list W),.sh (.list R),.sh (.list ((things S).map Ay)),s5,s6,s7,s8,s9])) :
  Lp ad (.nst (BW k)) [.tuple [.int (t:Int),.int (w:Int),.int (st:Int)]] [.list W,.list R,.list ((things S).map Ay)]=some (.bool true,.nst (BW k')):=by
 have hrg:=J7 ((W.length:Nat):Int) ⟨by omega,by omega⟩
 rw[Int.toNat_natCast] at hrg
 have hon:=aY l (t:Int) st
 have hl3:S.length≤320:=by have:=l.fit;have:=l.n3;have:=l.len;omega
 obtain⟨Bo,hBo⟩:∃ Bo:D,Bo=.tuple [.int (t:Int),.int (w:Int),.int (st:Int)]:=⟨_,rfl⟩
 rw[← hBo] at hf hon ⊢
 clear hBo
 have hpl:=m5 (things S) (things S)
 rw[decide_eq_true rfl] at hpl
 refine eN (ρ:=[.sh Bo,.tr ad (.nst (BW k')),.sh (.list W),.sh (.list R),.sh (.list ((things S).map Ay)),s5,s6,s7,s8,s9]) rfl rfl ?_ rfl
 show QH [.sh Bo,.tr ad (.nst (BW k)),.sh (.list W),.sh (.list R),.sh (.list ((things S).map Ay)),.no,.no,.no,.no,.no]=_
 unfold QH
 refine Aw ((GJ (items:=Ci 0 W.length) (by clear hf hpl hon l;walk_at "pu")).trans hf) ?_
 have hth:=Mr S (by omega) (fi:=Be (Ax (Az Lr (Ac (Aa 0) (Ac (Aa 1) Ae))))) (ρ:=full [.sh Bo,.tr ad (.nst (BW k')),.sh (.list W),.sh (.list R),.sh (.list ((things S).map Ay)),s5,s6,s7,s8,s9]) (by clear hf hpl hrg l;walk_at "pu")
 rw[Ls] at hth
 refine Ui ?_
 generalize BX (Be (Ax (Az Lr (Ac (Aa 0) (Ac (Aa 1) Ae))))) (Bg 0) (Av (Ab BZ (Aa 0) (BV Ae))) (Aa 0) 1 []=CC at *
 have e:Ab Bp (Ax CC) (Aa 4) (full [.sh Bo,.tr ad (.nst (BW k')),.sh (.list W),.sh (.list R),.sh (.list ((things S).map Ay)),s5,s6,s7,s8,s9])=some (.bool true):=by
  unfold Ab Ax
  rw[hth]
  exact hpl
 unfold vF
 rw[e]
 rfl
theorem wD (ad:Addr){w st n t a h:Nat}{k k':Dk}{X:List Pr}{ws:List Wr}{S:List Thing}(d:Q0 w st n k X ws k' a h S)(hl:ws.length≤2000):Lp ad (.nst (BW k)) [.tuple [.int (t:Int),.int (w:Int),.int (st:Int)]] [.list (ws.map Bl),.list (X.map Ay),.list ((things S).map Ay)]=some (.bool true,.nst (BW k')):=by
 obtain⟨pre,q,k1,b,g,T,rfl,m,l1,o1,f1,e1,rfl⟩:=d.ex
 obtain⟨s5,s6,s7,s8,s9,hw⟩:=AAe ad (t:=t) (.list ((things S).map Ay)) m l1 o1 d.l [] ((pre++[q]).map Bl) rfl (by
  have e:decide ((((pre++[q]).map Bl).length:Int)=1)=decide (pre=[]):=by
   refine decide_eq_decide.mpr ?_
   rw[List.length_map,List.length_append]
   show ((pre.length+1:Nat):Int)=1 ↔ _
   rw[← List.length_eq_zero_iff]
   omega
  rw[e]
  exact f1) .no .no .no .no .no
 refine iK (s5:=s5) (s6:=s6) (s7:=s7) (s8:=s8) (s9:=s9) d.l (by rw[List.length_map];exact hl) ?_
 rw[List.length_map,List.length_append]
 exact hw
theorem done_none (ad:Addr){w st n t a h:Nat}{k:Dk}{S:List Thing}(R:List D)(l:Lies w n k a h S):Lp ad (.nst (BW k)) [.tuple [.int (t:Int),.int (w:Int),.int (st:Int)]] [.list [],.list R,.list ((things S).map Ay)]=some (.bool true,.nst (BW k)) :=
 iK (s5:=.no) (s6:=.no) (s7:=.no) (s8:=.no) (s9:=.no) l (by show 0≤2000;decide) rfl
structure Sh (ts:List Thing)(P:List Pr):Prop where
 rise:Dr ts
 nod:(P.map (·.1)).Nodup
 mem:∀ q,q∈things ts ↔ q∈P
theorem Sh.sort {ts:List Thing}{P:List Pr}(h:Sh ts P):sortI P=things ts:=by
 refine wU h.nod ?_ h.mem
 have:=(IK ts).mp h.rise
 exact List.pairwise_map.mp this
theorem Sh.keys {ts:List Thing}{P:List Pr}(h:Sh ts P):(sortI (encM P)).map (fun p=>PyData.int p.1)=(keysOf ts).map PyData.int:=by
 have hp:(keysOf ts).Perm ((encM P).map (·.1)):=by
  rw[jU,Hj,← h.sort]
  exact (sortI_perm P).map _
 have e:=v8 (kvs:=encM P) (by rw[jU];exact h.nod) hp (List.Pairwise.imp (fun h=>Int.le_of_lt h) h.rise)
 rw[e,List.map_map]
 rfl
theorem Sh.cD {ts:List Thing}{P:List Pr}(h:Sh ts P):(keysOf ts).length=P.length:=by
 rw[Hj,← h.sort,List.length_map,Rw]
theorem Sh.AIt {ts:List Thing}{P:List Pr}(h:Sh ts P)(k:Int):k∈P.map (·.1) ↔ k∈keysOf ts:=by
 rw[Hj,← h.sort]
 exact ((sortI_perm P).map (·.1)).mem_iff.symm
theorem Sh.vK {ts:List Thing}{P:List Pr}(h:Sh ts P)(hl:P.length<64){i:Nat}{ρ:Af}{a:Addr}(hi:ρ[i]?=some (.tr a (.dct (encM P)))):Lg i ρ=some (.sh (.list ((keysOf ts).map PyData.int))):=by
 unfold Lg
 rw[M9 hi]
 show (if (encM P).length<64 then some (Sl.sh (.list ((sortI (encM P)).map fun p=>.int p.1))) else none)=_
 rw[lX,if_pos hl,h.keys]
theorem Sh.vI {ts:List Thing}{P:List Pr}(h:Sh ts P)(hl:P.length<64){i:Nat}{ρ:Af}{a:Addr}(hi:ρ[i]?=some (.tr a (.dct (encM P)))):Jt i ρ=some (.sh (.list ((things ts).map Ay))):=by
 unfold Jt
 rw[M9 hi]
 show ((N6 (encM P)).bind fun ps=>if ps.length<64 then some (Sl.sh (.list ((sortI ps).map fun p=>.tuple [.int p.1,.int p.2]))) else none)=_
 rw[qD]
 show (if P.length<64 then some (Sl.sh (.list ((sortI P).map fun p=>.tuple [.int p.1,.int p.2]))) else none)=_
 rw[if_pos hl,h.sort]
 rfl
section
variable (s0 s1 s2 s3 s4 s5 s6:Sl)
theorem qJ (ks:List Int)(c:Int):Fo (Av (Ab Er (Ab Ba (Aa 3) (Ad (.int 10))) (Ad (.int 2)))) (Av (Ab BZ (Aa 5) (Ax (CK Ae)))) (full [s0,s1,s2,.sh (.int c),s4,.sh (.list (ks.map PyData.int)),s6])=some (decide (c % 10<2∧¬ ks=[])):=by
 have hne:BZ (.list (ks.map PyData.int)) (.list [])=some (.bool (!decide (ks=[]))):=(AJt.list).BZ (by decide) ks []
 by_cases h1:c % 10<2
 ·by_cases h2:ks=[]
  ·subst h2
   have hne':BZ (.list []) (.list [])=some (.bool false):=hne
   clear hne
   walk_at "pu"
  ·walk_at "pu"
 ·clear hne
  rw[decide_eq_false (show ¬ (c % 10<2∧¬ ks=[]) from fun z=>h1 z.1)]
  walk_at "pu"
theorem AIX (ks:List Int)(k c:Int)(h0:0<(ks.length:Int))(h1:(ks.length:Int)<1073741824)(hat:Bj (ks.map PyData.int) (c / 10 % (ks.length:Int))=some (.int k)):vS (Ab Al (Aa 5) (Ab Ba (Ab CP (Aa 3) (Ad (.int 10))) (Am Bm (Ac (Aa 5) Ae)))) [s0,s1,s2,.sh (.int c),s4,.sh (.list (ks.map PyData.int)),s6]=some (.sh (.int k)):=by walk_at "pu"
theorem v5 (c:Int):Av (Ab Bp (Ab Ba (Aa 3) (Ad (.int 10))) (Ad (.int 0))) (full [s0,s1,s2,.sh (.int c),s4,s5,s6])=some (decide (c % 10=0)):=by walk_at "pu"
theorem ADt (c:Int):vS (Ab Ba (Ab CP (Aa 3) (Ad (.int 10))) (Ab Fy (Ad (.int 10)) (Ad (.int 50)))) [s0,s1,s2,.sh (.int c),s4,s5,s6]=some (.sh (.int (c / 10 % Cj 50))):=by walk_at "pu"
theorem AJ4 (d0 d1:D)(k b:Int)(h:Io 2 (Aa 6) [.sh d0,.sh d1,s2,s3,s4,s5,.sh (.int k)]=some (.sh (.int b))):DP (vS (Aa 0)) (DP (vS (Aa 1)) (DP (vS (Aa 6)) (DP (Io 2 (Aa 6)) Jo))) [.sh d0,.sh d1,s2,s3,s4,s5,.sh (.int k)]=some [d0,d1,.int k,.int b]:=by walk_at "pu"
theorem AAc (d0 d1:D)(k:Int)(W:List D)(h:Qo [d0,d1,.int k]=some W):Fx (Az Qo (Ac (Aa 0) (Ac (Aa 1) (Ac (Aa 6) Ae)))) [.sh d0,.sh d1,s2,s3,s4,s5,.sh (.int k)]=some (.sh (.list W)):=by walk_at "pu"
theorem ACc (d5:D)(c k:Int)(cr:Bool)(h:J4 [d5,.int (c / 10),.bool cr]=some (.int k)):vS (Am J4 (Ac (Aa 5) (Ac (Ab CP (Aa 3) (Ad (.int 10))) (Ac (Aa 4) Ae)))) [s0,s1,s2,.sh (.int c),.sh (.bool cr),.sh d5,s6]=some (.sh (.int k)):=by walk_at "pu"
theorem zG (t w st:Nat)(ks:List Int)(t4:t≤4):Av (Ab Ih (Am Bm (Ac (Aa 5) Ae)) (Am Ly (Ac (Aa 0) (Ac (Ab Al (Aa 0) (Ad (.int 0))) Ae)))) (full [.sh (.tuple [.int (t:Int),.int (w:Int),.int (st:Int)]),s1,s2,s3,s4,.sh (.list (ks.map PyData.int)),s6])=some (decide (Cu w st t≤(ks.length:Int))):=by
 have hc:=Vr (t:=t) (w:=w) (st:=st) t4
 walk_at "pu"
theorem ACx (c b:Int)(h:Bj ([.int (c / 11 % Cj 50-3),.int 0,.int 1,.int (-1)]:List D) (c / 17 % 4)=some (.int b)):vS (Ab Al (Ax (CK (Ac (Ab Cr (Ab Ba (Ab CP (Aa 3) (Ad (.int 11))) (Ab Fy (Ad (.int 10)) (Ad (.int 50)))) (Ad (.int 3))) (Ac (Ad (.int 0)) (Ac (Ad (.int 1)) (Ac (IV Jx (Ad (.int 1))) Ae)))))) (Ab Ba (Ab CP (Aa 3) (Ad (.int 17))) (Ad (.int 4)))) [s0,s1,s2,.sh (.int c),s4,s5,s6]=some (.sh (.int b)):=by walk_at "pu"
end
structure K8 (w st n t:Nat)(k:Dk)(P:List Pr)(X:List Pr):Prop where
 ex:∃ a h S,Lies w n k a h S∧h≤t∧((things S).length:Int)≤Cu w st h∧Sh S P∧things S=X
theorem ADz {k:Dk}{P X:List Pr}{t w st n:Nat}(bd:Bd (t:Int) (w:Int) (st:Int))(hn:n=2 ^ t*w)(okk:K8 w st n t k P X)(h64:P.length<64)(c:Int)(crowd:Bool):∃ (ws:List Wr) (k':Dk) (P' X':List Pr),(∀ ad:Addr,T7 ad (.dct (encM P)) [.tuple [.int (t:Int),.int (w:Int),.int (st:Int)],BK k] [.int c,.bool crowd]=some (.list (ws.map Bl),.dct (encM P'))) ∧
  K8 w st n t k' P' X'∧∀ ad:Addr,Lp ad (.nst (BW k)) [.tuple [.int (t:Int),.int (w:Int),.int (st:Int)]] [.list (ws.map Bl),.list (X.map Ay),.list (X'.map Ay)]=some (.bool true,.nst (BW k')):=by
 obtain⟨a,h,S,l,ht,hcap,sh,rfl⟩:=okk.ex
 obtain⟨w1,w20,Eh,s1,t4⟩:=Ml bd (hh:=t) (Int.le_refl _)
 have hR:=sh.rise
 have hkl:=sh.cD
 obtain⟨Bo,hBo⟩:∃ Bo:D,Bo=.tuple [.int (t:Int),.int (w:Int),.int (st:Int)]:=⟨_,rfl⟩
 have hrun:∀ {ad:Addr}{r:D}{ρ:Af}{P':List Pr},VR [.sh Bo,.sh (BK k),.tr ad (.dct (encM P)),.sh (.int c),.sh (.bool crowd),.no,.no]=some (.ro r ρ)→ρ[2]?=some (.tr ad (.dct (encM P')))→T7 ad (.dct (encM P)) [Bo,BK k] [.int c,.bool crowd]=some (r,.dct (encM P')):=fun {ad r ρ P'} h h'=>eN rfl rfl h h'
 have first:∀ {ad:Addr}{o:Option Out}{F:Ai},F [.sh Bo,.sh (BK k),.tr ad (.dct (encM P)),.sh (.int c),.sh (.bool crowd),.sh (.list ((keysOf S).map PyData.int)),.no]=o→Ak (Aq 5 (Lg 2)) F [.sh Bo,.sh (BK k),.tr ad (.dct (encM P)),.sh (.int c),.sh (.bool crowd),.no,.no]=o:=fun {ad o F} h=>Aw (ρ':=[.sh Bo,.sh (BK k),.tr ad (.dct (encM P)),.sh (.int c),.sh (.bool crowd),.sh (.list ((keysOf S).map PyData.int)),.no]) (MP (sh.vK h64 (a:=ad) rfl)) h
 have kin:∀ k,(Dw (encM P) k).isSome=decide (k∈keysOf S):=fun k=>by
  rw[Vm,Option.isSome_map,zR]
  exact decide_eq_decide.mpr (sh.AIt k)
 have ADV:∀ k b,Dw (encM (Dh P k b)) k=some (.int b):=fun k b=>by
  rw[Vm,ABU (b:=b) (nT sh.nod) (eO.mpr (.inl rfl))]
  rfl
 have aJ:(encM P).length<1000:=by rw[lX];omega
 have put:∀ {ad:Addr}{s5:Sl}{key b:Int}{vf:Af→Option Sl}{W:List D},(∀ s5 s6,vf [.sh Bo,.sh (BK k),.tr ad (.dct (encM P)),.sh (.int c),.sh (.bool crowd),s5,s6]=some (.sh (.int b)))→Jj [Bo,BK k,.int key,.int b]=some W →
   Ak (Kh 2 (Aa 6) vf) (FZ (Ks Jj (DP (vS (Aa 0)) (DP (vS (Aa 1)) (DP (vS (Aa 6)) (DP (Io 2 (Aa 6)) Jo)))))) [.sh Bo,.sh (BK k),.tr ad (.dct (encM P)),.sh (.int c),.sh (.bool crowd),s5,.sh (.int key)]=some (.ro (.list W) [.sh Bo,.sh (BK k),.tr ad (.dct (encM (Dh P key b))),.sh (.int c),.sh (.bool crowd),s5,.sh (.int key)]):=fun {ad s5 key b vf W} hv hW=>by
  refine Aw (ρ':=[.sh Bo,.sh (BK k),.tr ad (.dct (encM (Dh P key b))),.sh (.int c),.sh (.bool crowd),s5,.sh (.int key)]) ?_ (Ui (ABc (AJ4 (h:=AGD (a:=ad) (kvs:=encM (Dh P key b)) (k:=key) rfl rfl (ADV key b)) ..) hW))
  rw[AFx (a:=ad) (kvs:=encM P) (k:=key) (hv _ _) rfl rfl aJ,tR]
  rfl
 have behind:∀ (key b:Int),key∈keysOf S∨h<t∨((things S).length:Int)<Cu w st h→∃ (ws:List Wr) (k':Dk) (X':List Pr),Jj [Bo,BK k,.int key,.int b]=some (ws.map Bl)∧K8 w st n t k' (Dh P key b) X'∧∀ ad:Addr,Lp ad (.nst (BW k)) [Bo] [.list (ws.map Bl),.list ((things S).map Ay),.list (X'.map Ay)]=some (.bool true,.nst (BW k')):=fun key b hno=>by
  obtain⟨gs,ws,k',a',h',S',_,e2,dk,e3,e4,e5,e6⟩:=AGM bd hn l ht hR hcap key b hno
  rw[← hBo] at e2
  refine⟨_,k',_,e2,⟨a',h',S',dk.l,e3,e4,⟨dk.r,nT sh.nod,fun q=>?_⟩,rfl⟩,fun ad=>?_⟩
  ·rw[e5,eO,sh.mem]
  ·rw[hBo]
   exact wD ad dk (by rw[List.length_append,List.length_map];omega)
 rw[← hBo]
 by_cases Z8:c % 10<2∧¬ keysOf S=[]
 ·have h0:=Z8.2
  have hpos:0<((keysOf S).length:Int):=by
   have:=List.length_pos_iff.mpr h0
   omega
  have hm:=FJ (c / 10) hpos
  obtain⟨v,hv,hat⟩:=Hx ((keysOf S).map PyData.int) (i:=c / 10 % ((keysOf S).length:Int)) hm.1 (by rw[List.length_map];exact hm.2)
  obtain⟨key,hk,rfl⟩:=List.mem_map.mp hv
  have AGC:((keysOf S).length:Int)<1073741824:=by omega
  have second:∀ {ad:Addr}{r:D}{ρ':Af}{F G:Ai},F [.sh Bo,.sh (BK k),.tr ad (.dct (encM P)),.sh (.int c),.sh (.bool crowd),.sh (.list ((keysOf S).map PyData.int)),.sh (.int key)]=some (.ro r ρ')→Ak (CN (Fo (Av (Ab Er (Ab Ba (Aa 3) (Ad (.int 10))) (Ad (.int 2)))) (Av (Ab BZ (Aa 5) (Ax (CK Ae))))) (Ak (Aq 6 (vS (Ab Al (Aa 5) (Ab Ba (Ab CP (Aa 3) (Ad (.int 10))) (Am Bm (Ac (Aa 5) Ae)))))) F) CQ) G [.sh Bo,.sh (BK k),.tr ad (.dct (encM P)),.sh (.int c),.sh (.bool crowd),.sh (.list ((keysOf S).map PyData.int)),.no]=some (.ro r ρ'):=fun {ad r ρ' F G} h =>
   Xx (Oz (by rw[qJ,decide_eq_true Z8]) (Aw (ρ':=[.sh Bo,.sh (BK k),.tr ad (.dct (encM P)),.sh (.int c),.sh (.bool crowd),.sh (.list ((keysOf S).map PyData.int)),.sh (.int key)]) (MP (AIX (ks:=keysOf S) (h0:=hpos) (h1:=AGC) (hat:=hat) ..)) h))
  by_cases hc1:c % 10=0
  ·obtain⟨ws,k',X',e1,e2,e3⟩:=behind key (c / 10 % Cj 50) (.inl hk)
   exact⟨ws,k',_,X',fun ad=>hrun (first (second (Xx (Oz (by rw[v5,decide_eq_true hc1]) (put (b:=c / 10 % Cj 50) (fun _ _=>ADt ..) e1))))) rfl,e2,e3⟩
  ·obtain⟨p,y,e1,e2,e3,dk,e4,e5⟩:=AGK (t:=t) l hR hk st
   rw[← hBo] at e1
   refine⟨_,_,GZ P key,_,fun ad=>hrun (ρ:=[.sh Bo,.sh (BK k),.tr ad (.dct (encM (GZ P key))),.sh (.int c),.sh (.bool crowd),.sh (.list ((keysOf S).map PyData.int)),.sh (.int key)]) (first (second (Aw (ρ':=[.sh Bo,.sh (BK k),.tr ad (.dct (encM P)),.sh (.int c),.sh (.bool crowd),.sh (.list ((keysOf S).map PyData.int)),.sh (.int key)]) (N7 (by rw[v5,decide_eq_false hc1]) rfl) (Aw (ρ':=[.sh Bo,.sh (BK k),.tr ad (.dct (encM (GZ P key))),.sh (.int c),.sh (.bool crowd),.sh (.list ((keysOf S).map PyData.int)),.sh (.int key)]) ?_ (Ui (AAc (h:=e1) ..)))))) rfl,⟨a,h,S.set p none,dk.l,ht,by omega,⟨dk.r,AJx sh.nod,fun q=>?_⟩,rfl⟩,fun ad=>?_⟩
   ·rw[AGT (a:=ad) (kvs:=encM P) (k:=key) rfl rfl (by rw[kin,decide_eq_true hk]),zK]
    rfl
   ·rw[e4,AHw,sh.mem]
   ·rw[hBo]
    exact wD ad dk (by show 1≤2000;decide)
 ·obtain⟨key,hkey⟩:=LKb.AJh (keysOf S) (by omega) (c / 10) crowd
  have m4:=FJ (c / 17) (b:=4) (by decide)
  obtain⟨b,hb⟩:∃ b:Int,Bj ([.int (c / 11 % Cj 50-3),.int 0,.int 1,.int (-1)]:List D) (c / 17 % 4)=some (.int b):=by
   obtain⟨v,hv,e⟩:=Hx ([.int (c / 11 % Cj 50-3),.int 0,.int 1,.int (-1)]:List D) (i:=c / 17 % 4) m4.1 m4.2
   simp only[List.mem_cons,List.not_mem_nil,or_false] at hv
   rcases hv with rfl | rfl | rfl | rfl<;>exact⟨_,e⟩
  have second:∀ {ad:Addr}{o:Option Out}{F G:Ai},F [.sh Bo,.sh (BK k),.tr ad (.dct (encM P)),.sh (.int c),.sh (.bool crowd),.sh (.list ((keysOf S).map PyData.int)),.sh (.int key)]=o→Ak (CN (Fo (Av (Ab Er (Ab Ba (Aa 3) (Ad (.int 10))) (Ad (.int 2)))) (Av (Ab BZ (Aa 5) (Ax (CK Ae))))) G CQ) (Ak (Aq 6 (vS (Am J4 (Ac (Aa 5) (Ac (Ab CP (Aa 3) (Ad (.int 10))) (Ac (Aa 4) Ae)))))) F) [.sh Bo,.sh (BK k),.tr ad (.dct (encM P)),.sh (.int c),.sh (.bool crowd),.sh (.list ((keysOf S).map PyData.int)),.no]=o:=fun {ad o F G} h =>
   Aw (ρ':=[.sh Bo,.sh (BK k),.tr ad (.dct (encM P)),.sh (.int c),.sh (.bool crowd),.sh (.list ((keysOf S).map PyData.int)),.no]) (N7 (by rw[qJ,decide_eq_false Z8]) rfl) (Aw (ρ':=[.sh Bo,.sh (BK k),.tr ad (.dct (encM P)),.sh (.int c),.sh (.bool crowd),.sh (.list ((keysOf S).map PyData.int)),.sh (.int key)]) (MP (ACc (h:=hkey) ..)) h)
  have cap:∀ ad:Addr,Ov (Og 2 (Aa 6)) (bT (Av (Ab Ih (Am Bm (Ac (Aa 5) Ae)) (Am Ly (Ac (Aa 0) (Ac (Ab Al (Aa 0) (Ad (.int 0))) Ae)))))) [.sh Bo,.sh (BK k),.tr ad (.dct (encM P)),.sh (.int c),.sh (.bool crowd),.sh (.list ((keysOf S).map PyData.int)),.sh (.int key)]=some (decide (key ∉ keysOf S) && decide (Cu w st t≤((keysOf S).length:Int))):=fun ad=>by
   unfold Ov bT
   rw[ACS (a:=ad) (kvs:=encM P) (k:=key) rfl rfl,kin]
   by_cases hk:key∈keysOf S
   ·rw[decide_eq_true hk,decide_eq_false (show ¬ key ∉ keysOf S from fun z=>z hk)]
    rfl
   ·rw[decide_eq_false hk,decide_eq_true hk]
    show Av _ _=some (true && _)
    rw[Bool.true_and,hBo]
    exact zG _ _ _ _ _ t w st (keysOf S) t4
  by_cases Sw:key ∉ keysOf S∧Cu w st t≤((keysOf S).length:Int)
  ·exact⟨[],k,P,things S,fun ad=>hrun (first (second (Xx (ACd (by rw[cap,decide_eq_true Sw.1,decide_eq_true Sw.2,Bool.true_and]) (Ui rfl))))) rfl,⟨a,h,S,l,ht,hcap,sh,rfl⟩,fun ad=>by rw[hBo];exact done_none ad _ l⟩
  ·obtain⟨ws,k',X',e1,e2,e3⟩:=behind key b (by
    by_cases hk:key∈keysOf S
    ·exact .inl hk
    ·have:¬ Cu w st t≤((keysOf S).length:Int):=fun z=>Sw ⟨hk,z⟩
     rw[Qz] at this
     by_cases hht:h=t
     ·subst hht
      exact .inr (.inr (by omega))
     ·exact .inr (.inl (by omega)))
   exact⟨ws,k',_,X',fun ad=>hrun (first (second (Aw (ρ':=[.sh Bo,.sh (BK k),.tr ad (.dct (encM P)),.sh (.int c),.sh (.bool crowd),.sh (.list ((keysOf S).map PyData.int)),.sh (.int key)]) (ADm (by rw[cap,← Bool.decide_and,decide_eq_false Sw]) rfl) (put (b:=b) (fun _ _=>ACx (h:=hb) ..) e1)))) rfl,e2,e3⟩
theorem AJ5 {fi:BJ}{bd:D→BR→Option BR}{pt:PB}{fe:BJ}{n:Nat}{js:List Nat}{ρ:BR}{items:List D}(h:fi ρ=some items)(hl:items.length<16777216):Fi fi bd pt fe n js ρ=KZ bd pt fe (L2.compEnv n js ρ) items:=by
 unfold Fi
 rw[h]
 exact if_pos (Ym hl)
theorem AGQ {t w st:Nat}(c:Int)(h a:Nat)(ts:List Thing)(bd:Bd (t:Int) (w:Int) (st:Int))(ha:a<2)(hl:ts.length≤2 ^ t*w) :
  ∃ A B:List Thing,Nm [.tuple [.int (t:Int),.int (w:Int),.int (st:Int)],.int (h:Int),.int (a:Int),encL ts,.int c]=some (BW [A,B,[some ((a:Int),(h:Int))]])∧A.length=2 ^ t*w∧B.length=2 ^ t*w∧(CT [A,B,[some ((a:Int),(h:Int))]] a).take ts.length=ts:=by
 obtain⟨w1,w20,Eh,s1,t4⟩:=Ml bd (hh:=t) (Int.le_refl _)
 have hN:=(Ia t4 w1 w20).2
 have hth:(things ts).length≤320:=by have:=R8 ts;omega
 obtain⟨A0,hA,lA⟩:=j6 c 0 (2 ^ t*w) (things ts) hN hth
 obtain⟨B0,hB,lB⟩:=j6 c 1 (2 ^ t*w) (things ts) hN hth
 have Gg:=Pq (h:=(t:Int)) (by omega) (by omega)
 rw[O4] at Gg
 have hmul:((2 ^ t:Nat):Int)*(w:Int)=((2 ^ t*w:Nat):Int):=(Int.natCast_mul _ _).symm
 have hsm:=Tu t4
 rw[show (2:Int) ^ t=((2 ^ t:Nat):Int) from (Int.natCast_pow 2 t).symm] at hsm
 generalize hz:((2 ^ t:Nat):Int)=z at Gg hmul hsm
 generalize hz2:2 ^ t*w=N at *
 have Oe:=Mr ts (by omega) (fi:=Be (Aa 3)) (ρ:=masked (Gr 7 [.tuple [.int (t:Int),.int (w:Int),.int (st:Int)],.int (h:Int),.int (a:Int),encL ts,.int c])) rfl
 rw[Ls] at Oe
 have Ex:Fi (Az Dn (Ac (Ad (.int 2)) Ae)) (Bg 0) DK (Az Lw (Ac (Aa 1) (Ac (Aa 0) (Ac (Ab CZ (Am Hu (Ac (Ab Al (Aa 3) (Ad (.int 0))) Ae)) (Ab Al (Aa 3) (Ad (.int 1)))) (Ac (Aa 2) Ae))))) 1 [4,5,0]
   (masked [.sh (.tuple [.int (t:Int),.int (w:Int),.int (st:Int)]),.sh (.int (h:Int)),.sh (.int (a:Int)),.sh (encL ts),.sh (.int c),.sh (.list ((things ts).map Ay)),.no])=some [A0.map encD,B0.map encD]:=by
  have hr:Dn [.int 2]=some [.int 0,.int 1]:=by
   rw[show (PyData.int 2:D)=.int ((2:Nat):Int) from rfl,J7 _ ⟨by decide,by decide⟩]
   rfl
  rw[AJ5 (items:=[.int 0,.int 1]) (by clear Oe hA hB hz hz2 bd;walk_at "pu") (by decide)]
  have hA':Lw [.int c,.int 0,.int (N:Int),.list ((things ts).map Ay)]=some (A0.map encD):=hA
  have hB':Lw [.int c,.int 1,.int (N:Int),.list ((things ts).map Ay)]=some (B0.map encD):=hB
  clear Oe hA hB hz hz2 bd hr
  simp only[KZ,L2.compEnv,Bg,List.map_cons,List.map_nil,masked]
  walk_at "pu"
 have run:∀ (A B:List Thing),(KD 6 (Aa 2) (Jv (G9 (Aa 3) (Ax (Fd (Ab Al (Aa 6) (Aa 2)) (Ea (Am Bm (Ac (Aa 3) Ae))) JQ))))) [.sh (.tuple [.int (t:Int),.int (w:Int),.int (st:Int)]),.sh (.int (h:Int)),.sh (.int (a:Int)),.sh (encL ts),.sh (.int c),.sh (.list ((things ts).map Ay)),.on [A0.map encD,B0.map encD]]
   = some (.nx [.sh (.tuple [.int (t:Int),.int (w:Int),.int (st:Int)]),.sh (.int (h:Int)),.sh (.int (a:Int)),.sh (encL ts),.sh (.int c),.sh (.list ((things ts).map Ay)),.on [A.map encD,B.map encD]]) →
   Nm [.tuple [.int (t:Int),.int (w:Int),.int (st:Int)],.int (h:Int),.int (a:Int),encL ts,.int c]=some (BW [A,B,[some ((a:Int),(h:Int))]]):=by
  intro A B hs
  refine ABR rfl ?_
  unfold Mj
  refine Aw (ρ':=[.sh (.tuple [.int (t:Int),.int (w:Int),.int (st:Int)]),.sh (.int (h:Int)),.sh (.int (a:Int)),.sh (encL ts),.sh (.int c),.sh (.list ((things ts).map Ay)),.no]) ?_ ?_
  ·refine MP ?_
   unfold vS Ax
   rw[Oe]
   rfl
  ·refine Aw (ρ':=[.sh (.tuple [.int (t:Int),.int (w:Int),.int (st:Int)]),.sh (.int (h:Int)),.sh (.int (a:Int)),.sh (encL ts),.sh (.int c),.sh (.list ((things ts).map Ay)),.on [A0.map encD,B0.map encD]]) ?_ ?_
   ·refine MP ?_
    unfold vN
    rw[Ex]
    rfl
   ·refine Aw hs ?_
    clear hs Ex Oe hA hB
    walk_at "pu"
    rfl
 have eL:∀ A:List Thing,Gk (.list (A.map encD))=some (A.map encD):=fun A=>rfl
 have eln:Bm [encL ts]=some (.int (ts.length:Int)):=by show some (PyData.int ((ts.map encD).length:Int))=_;rw[List.length_map]
 have eLt:Gk (encL ts)=some (ts.map encD):=rfl
 have step:∀ C0:List Thing,C0.length=N→∀ (A0 B0:List Thing) (u:Nat),[A0,B0][u]?=some C0→u=a→(KD 6 (Aa 2) (Jv (G9 (Aa 3) (Ax (Fd (Ab Al (Aa 6) (Aa 2)) (Ea (Am Bm (Ac (Aa 3) Ae))) JQ))))) [.sh (.tuple [.int (t:Int),.int (w:Int),.int (st:Int)]),.sh (.int (h:Int)),.sh (.int (a:Int)),.sh (encL ts),.sh (.int c),.sh (.list ((things ts).map Ay)),.on [A0.map encD,B0.map encD]]
   = some (.nx [.sh (.tuple [.int (t:Int),.int (w:Int),.int (st:Int)]),.sh (.int (h:Int)),.sh (.int (a:Int)),.sh (encL ts),.sh (.int c),.sh (.list ((things ts).map Ay)),.on ([A0.map encD,B0.map encD].set a ((ts++C0.drop ts.length).map encD))]):=by
  intro C0 hC A0 B0 u hu e
  subst e
  have e1:=AHs encD C0 ts.length
  have e2:ts.length+(C0.drop ts.length).length<16777216:=by rw[List.length_drop];omega
  have e3:=Qf (ts++C0.drop ts.length)
  rw[List.map_append] at e3 ⊢
  have hu2:u<2:=ha
  have e4:Al (.list [.list (A0.map encD),.list (B0.map encD)]) (.int (u:Int))=some (.list (C0.map encD)):=by
   show Bj [PyData.list (A0.map encD),.list (B0.map encD)] (u:Int)=_
   have:=sO (xs:=[A0,B0]) hu
   have e:=tV (fun A:List Thing=>(PyData.list (A.map encD):D)) [A0,B0] (u:Int)
   rw[this] at e
   exact e
  have e5:Ei 2 (u:Int)=some u:=J6 hu2
  clear run Ex Oe hA hB eL hu hz hz2 bd hmul Gg hsm
  walk_at "pu"
 match a,ha with
 | 0,_=>exact⟨ts++A0.drop ts.length,B0,run _ _ (step A0 lA A0 B0 0 rfl rfl),by rw[List.length_append,List.length_drop];omega,lB,List.take_left' rfl⟩
 | 1,_=>exact⟨A0,ts++B0.drop ts.length,run _ _ (step B0 lB A0 B0 1 rfl rfl),lA,by rw[List.length_append,List.length_drop];omega,List.take_left' rfl⟩
theorem oO:∀ X:List Pr,Ol (X.map Ay)=some X
 | []=>rfl
 | x::X=>by
  rw[List.map_cons]
  show (Ol (X.map Ay)).bind _=_
  rw[oO X]
  rfl
theorem yQ {t w st h:Nat}{t0:Int}(bd:Bd (t:Int) (w:Int) (st:Int))(ht:h≤t)(h2:(t:Int)=min 2 t0)(hw:2≤t0→(w:Int)≤15):Cu w st h<64:=by
 have h1:=bd.hi
 have h3:=bd.s1
 have hlt:h=0∨h=1∨(h=2∧2≤t0):=by omega
 unfold Cu
 rcases hlt with rfl | rfl | ⟨rfl,hz⟩
 ·show (2:Int) ^ 0*((w:Int)-0*(st:Int))<64
  omega
 ·show (2:Int) ^ 1*((w:Int)-1*(st:Int))<64
  omega
 ·have:=hw hz
  show (2:Int) ^ 2*((w:Int)-2*(st:Int))<64
  omega
theorem AFP (t w st h:Nat):Cu w st h≤((2 ^ h*w:Nat):Int):=by
 unfold Cu
 rw[Int.natCast_mul,Int.natCast_pow]
 refine Int.mul_le_mul_of_nonneg_left ?_ (Int.le_of_lt (Int.pow_pos (by decide)))
 have:0≤(h:Int)*(st:Int):=Int.mul_nonneg (by omega) (by omega)
 omega
theorem AFV {k:Dk}{P X:List Pr}{t w st n:Nat}(bd:Bd (t:Int) (w:Int) (st:Int))(hn:n=2 ^ t*w)(okk:K8 w st n t k P X)(hc:∀ h,h≤t→Cu w st h<64)(s0:D)(z hh:Int)(s4:D)(a b:Addr)(c:Int)(s8 s9:Sl):∃ (k':Dk) (P' X':List Pr) (s8' s9':Sl),Lj [.sh s0,.sh (.tuple [.int (t:Int),.int (w:Int),.int (st:Int)]),.sh (.int z),.sh (.int hh),.sh s4,.tr a (.nst (BW k)),.tr b (.dct (encM P)),.sh (.int c),s8,s9]=some (.nx [.sh s0,.sh (.tuple [.int (t:Int),.int (w:Int),.int (st:Int)]),.sh (.int z),.sh (.int hh),.sh s4,.tr a (.nst (BW k')),.tr b (.dct (encM P')),.sh (.int c),s8',s9'])∧K8 w st n t k' P' X':=by
 have hP:∀ {k:Dk}{P X:List Pr},K8 w st n t k P X→P.length<64∧∀ {i:Nat}{ρ:Af}{a:Addr},ρ[i]?=some (.tr a (.dct (encM P)))→Jt i ρ=some (.sh (.list (X.map Ay))):=fun {k P X} o=>by
  obtain⟨a,h,S,l,ht,hcap,sh,rfl⟩:=o.ex
  have:=hc h ht
  have h2:=sh.cD
  rw[Qz] at h2
  have h3:P.length<64:=by omega
  exact⟨h3,fun hi=>sh.vI h3 hi⟩
 obtain⟨ws,k',P',X',h1,ok',h3⟩:=ADz bd hn okk (hP okk).1 c (decide (z / 60 % 2=1))
 have hk3:k.length=3:=by
  obtain⟨a,h,S,l,_⟩:=okk.ex
  exact l.k3
 refine⟨k',P',X',.sh (.list (X.map Ay)),.sh (.list (ws.map Bl)),?_,ok'⟩
 unfold Lj
 obtain⟨Bo,hBo⟩:∃ Bo:D,Bo=.tuple [.int (t:Int),.int (w:Int),.int (st:Int)]:=⟨_,rfl⟩
 rw[← hBo] at h1 h3 ⊢
 clear hBo
 refine Aw (ρ':=[.sh s0,.sh Bo,.sh (.int z),.sh (.int hh),.sh s4,.tr a (.nst (BW k)),.tr b (.dct (encM P)),.sh (.int c),.sh (.list (X.map Ay)),s9]) (MP ((hP okk).2 rfl)) ?_
 refine Aw (ρ':=[.sh s0,.sh Bo,.sh (.int z),.sh (.int hh),.sh s4,.tr a (.nst (BW k)),.tr b (.dct (encM P')),.sh (.int c),.sh (.list (X.map Ay)),.sh (.list (ws.map Bl))]) (ADJ (a:=b) (c:=.dct (encM P)) (xs:=[Bo,BK k]) (ys:=[.int c,.bool (decide (z / 60 % 2=1))]) rfl ?_ (h1 b)) ?_
 ·have hcp:=sH (fi:=Be (Aa 5)) (dss:=BW k) (ρ:=full [.sh s0,.sh Bo,.sh (.int z),.sh (.int hh),.sh s4,.tr a (.nst (BW k)),.tr b (.dct (encM P)),.sh (.int c),.sh (.list (X.map Ay)),s9]) rfl (by unfold BW;rw[List.length_map];omega)
  have hfl:(BW k).all Em=true:=by
   unfold BW
   rw[List.all_map,List.all_eq_true]
   exact fun A _=>Qf A
  have hns:KQ (Fi (Be (Aa 5)) (Bg 0) DK (Az G4 (Ac (Aa 0) Ae)) 1 []) [.sh s0,.sh Bo,.sh (.int z),.sh (.int hh),.sh s4,.tr a (.nst (BW k)),.tr b (.dct (encM P)),.sh (.int c),.sh (.list (X.map Ay)),s9]=some (.sh (BK k)):=by
   unfold KQ
   rw[hcp]
   show (if (BW k).all Em=true then _ else _)=_
   rw[if_pos hfl,T6]
  clear h1 h3 hP ok' okk bd hcp hfl
  generalize KQ (Fi (Be (Aa 5)) (Bg 0) DK (Az G4 (Ac (Aa 0) Ae)) 1 [])=V at *
  walk_at "pu"
 ·have hs:Jt 6 [.sh s0,.sh Bo,.sh (.int z),.sh (.int hh),.sh s4,.tr a (.nst (BW k)),.tr b (.dct (encM P')),.sh (.int c),.sh (.list (X.map Ay)),.sh (.list (ws.map Bl))]=some (.sh (.list (X'.map Ay))):=(hP ok').2 rfl
  rw[AJX (a:=a) (c:=.nst (BW k)) (c':=.nst (BW k')) (xs:=[Bo]) (ys:=[.list (ws.map Bl),.list (X.map Ay),.list (X'.map Ay)]) rfl ?_ (h3 a)]
  ·rfl
  ·clear h1 h3 hP ok' okk bd
   walk_at "pu"
theorem holds (ns:List Int)(hns:ns.length≤63):R4 [.list (ns.map PyData.int)]=some (.bool true):=by
 obtain⟨c0,hc0⟩:=o9 ns (k:=0) (by decide)
 obtain⟨t0,w',st',hb,bd0,hsm⟩:=AG9 c0
 obtain⟨c1,hc1⟩:=o9 ns (k:=1) (by decide)
 obtain⟨z,hz,z0⟩:=Mp c1
 have b1:=bd0.t0
 have b2:=bd0.w1
 have b3:=bd0.s1
 have b4:=bd0.lo
 obtain⟨t,hte⟩:∃ t:Nat,min 2 t0=(t:Int):=⟨(min 2 t0).toNat,by omega⟩
 obtain⟨w,rfl⟩:∃ w:Nat,w'=(w:Int):=⟨w'.toNat,by omega⟩
 obtain⟨st,rfl⟩:∃ st:Nat,st'=(st:Int):=⟨st'.toNat,by omega⟩
 have bd:Bd (t:Int) (w:Int) (st:Int):=by
  refine⟨by omega,by omega,b3,?_,bd0.hi⟩
  have:(st:Int)*((t:Int)+2)≤st*(t0+2):=Int.mul_le_mul_of_nonneg_left (by omega) (by omega)
  omega
 obtain⟨w1,w20,Eh,s1,t4⟩:=Ml bd (hh:=t) (Int.le_refl _)
 have t1:0<min 2 (t:Int)+1:=by omega
 have hm:=FJ z t1
 obtain⟨hh,hhe⟩:∃ hh:Nat,z % (min 2 (t:Int)+1)=(hh:Int):=⟨(z % (min 2 (t:Int)+1)).toNat,by omega⟩
 have hht:hh≤t:=by omega
 have ma:=FJ (z / 27) (b:=2) (by decide)
 obtain⟨a,hae⟩:∃ a:Nat,z / 27 % 2=(a:Int):=⟨(z / 27 % 2).toNat,by omega⟩
 have ha2:a<2:=by omega
 have hcl:=Vr (t:=t) (w:=w) (st:=st) (h:=hh) (by omega)
 have hcp:=nJ bd hht
 have hcle:=AFP t w st hh
 have m3:=FJ (z / 9) (b:=3) (by decide)
 obtain⟨many,Fb,hmn⟩:∃ many:Int,Bj ([.int 0,.int 1,.int (Cu w st hh)]:List D) (z / 9 % 3)=some (.int many)∧0≤many∧many≤Cu w st hh:=by
  obtain⟨v,hv,e⟩:=Hx ([.int 0,.int 1,.int (Cu w st hh)]:List D) (i:=z / 9 % 3) m3.1 m3.2
  simp only[List.mem_cons,List.not_mem_nil,or_false] at hv
  rcases hv with rfl | rfl | rfl
  ·exact⟨_,e,by omega,by omega⟩
  ·exact⟨_,e,by omega,by omega⟩
  ·exact⟨_,e,by omega,by omega⟩
 obtain⟨ts,hfi,hR,hlen,Lq⟩:=AIV (hh:=hh) z many bd (by omega)
 have YJ:((things ts).length:Int)≤Cu w st hh:=by rw[← Qz,Lq];omega
 have hpow:2 ^ hh*w≤2 ^ t*w:=Nat.mul_le_mul_right w (Nat.pow_le_pow_right (by decide) hht)
 obtain⟨A,B,hdk,lA,lB,hpre⟩:=AGQ (h:=hh) (a:=a) z ts bd ha2 (by omega)
 have hN:=(Ia t4 w1 w20).2
 have l0:Lies w (2 ^ t*w) [A,B,[some ((a:Int),(hh:Int))]] a hh ts:=⟨⟨A,B,rfl,lA,lB,ha2⟩,by omega,hpow,hN,by unfold CW;rw[← hlen];exact hpre⟩
 generalize hkk:([A,B,[some ((a:Int),(hh:Int))]]:Dk)=k at *
 have b8:((things ts).map (·.1)).Nodup:=by
  have:=(IK ts).mp hR
  exact List.Pairwise.imp (fun {a b} h=>by omega) this
 have ok0:K8 w st (2 ^ t*w) t k (things ts) (things ts):=⟨a,hh,ts,l0,hht,YJ,⟨hR,b8,fun q=>Iff.rfl⟩,rfl⟩
 have h64:∀ h,h≤t→Cu w st h<64:=fun h h1=>yQ bd h1 hte.symm hsm
 obtain⟨cs,hcs,AKT⟩:=AFo ns (some 2) (some 47)
 obtain⟨Bo,hBo⟩:∃ Bo:D,Bo=.tuple [.int (t:Int),.int (w:Int),.int (st:Int)]:=⟨_,rfl⟩
 have loop:∀ ad bd':Addr,∃ (ρ':Af) (zs:List Int),Be (Ax (BX (Be (Ax (Fd (Aa 0) (Ea (Ad (.int 2))) (Ea (Ad (.int 47)))))) (Bg 0) DK (Am JX (Ac (Aa 0) Ae)) 1 [])) (masked [.sh (.list (ns.map PyData.int)),.sh Bo,.sh (.int z),.sh (.int (hh:Int)),.sh (.list (ts.map encD)),.tr ad (.nst (BW k)),.tr bd' (.dct (encM (things ts))),.no,.no,.no])=some (zs.map PyData.int)∧Bx (Ek 7) Lj (zs.map PyData.int) [.sh (.list (ns.map PyData.int)),.sh Bo,.sh (.int z),.sh (.int (hh:Int)),.sh (.list (ts.map encD)),.tr ad (.nst (BW k)),.tr bd' (.dct (encM (things ts))),.no,.no,.no]=some (.nx ρ'):=fun ad bd'=>by
  obtain⟨zs,hzs,hzl,_⟩:=AEx cs (by omega) (fi:=Be (Ax (Fd (Aa 0) (Ea (Ad (.int 2))) (Ea (Ad (.int 47)))))) (ρ:=masked [.sh (.list (ns.map PyData.int)),.sh Bo,.sh (.int z),.sh (.int (hh:Int)),.sh (.list (ts.map encD)),.tr ad (.nst (BW k)),.tr bd' (.dct (encM (things ts))),.no,.no,.no]) (by clear hc0 hb hz hc1 hdk hfi ok0 l0 bd hsm hm hcl hcle Fb;walk_at "pu")
  have hl:=vQ (bs:=Ek 7) (F:=Lj) PyData.int (fun m ρ=>∃ (k:Dk) (P X:List Pr) (s7 s8 s9:Sl),ρ=[.sh (.list (ns.map PyData.int)),.sh Bo,.sh (.int z),.sh (.int (hh:Int)),.sh (.list (ts.map encD)),.tr ad (.nst (BW k)),.tr bd' (.dct (encM P)),s7,s8,s9]∧K8 w st (2 ^ t*w) t k P X) zs 0 [.sh (.list (ns.map PyData.int)),.sh Bo,.sh (.int z),.sh (.int (hh:Int)),.sh (.list (ts.map encD)),.tr ad (.nst (BW k)),.tr bd' (.dct (encM (things ts))),.no,.no,.no] (fun m ρ c hcm hmm ⟨k,P,X,s7,s8,s9,e,ok⟩=>?_) ⟨k,things ts,things ts,.no,.no,.no,rfl,ok0⟩
  ·obtain⟨ρ',h,_⟩:=hl
   refine⟨ρ',zs,?_,h⟩
   generalize BX (Be (Ax (Fd (Aa 0) (Ea (Ad (.int 2))) (Ea (Ad (.int 47)))))) (Bg 0) DK (Am JX (Ac (Aa 0) Ae)) 1 []=CC at *
   unfold Be Ax
   rw[hzs]
   rfl
  ·subst e
   obtain⟨k',P',X',s8',s9',h1,h2⟩:=AFV bd rfl ok h64 (.list (ns.map PyData.int)) z (hh:Int) (.list (ts.map encD)) ad bd' c s8 s9
   rw[← hBo] at h1
   exact⟨_,_,rfl,h1,k',P',X',_,_,_,rfl,h2⟩
 have hth:∀ {ρ:BR},Be (Aa 4) ρ=some (ts.map encD)→BX (Be (Aa 4)) (Bg 0) (Av (Ab BZ (Aa 0) (BV Ae))) (Aa 0) 1 [] ρ=some ((things ts).map Ay):=fun {ρ} h=>by
  have h2:=Mr ts (by omega) h
  rw[Ls] at h2
  exact h2
 rw[← hBo] at hcl hfi hdk
 refine Dl (o:=.rt (.bool true)) rfl ?_ rfl
 unfold SN
 refine Aw (ρ':=[.sh (.list (ns.map PyData.int)),.sh (.tuple [.int t0,.int (w:Int),.int (st:Int)]),.no,.no,.no,.no,.no,.no,.no,.no]) (by clear loop hcs hz hc1 hdk hfi ok0 l0 bd hsm hm hcl hcle Fb hth hhe hae;walk_at "pu") ?_
 refine Aw (ρ':=[.sh (.list (ns.map PyData.int)),.sh Bo,.no,.no,.no,.no,.no,.no,.no,.no]) (by rw[hBo];clear loop hcs hz hc1 hdk hfi ok0 l0 bd hsm hm hcl hcle Fb hth hhe hae hc0 hb;walk_at "pu") ?_
 refine Aw (ρ':=[.sh (.list (ns.map PyData.int)),.sh Bo,.sh (.int z),.no,.no,.no,.no,.no,.no,.no]) (by clear loop hcs hdk hfi ok0 l0 bd hsm hm hcl hcle Fb hth hhe hae hc0 hb hBo;walk_at "pu") ?_
 refine Aw (ρ':=[.sh (.list (ns.map PyData.int)),.sh Bo,.sh (.int z),.sh (.int (hh:Int)),.no,.no,.no,.no,.no,.no]) (by rw[hBo];clear loop hcs hdk hfi ok0 l0 bd hsm hm hcl hcle Fb hth hae hc0 hb hc1 hz hte;walk_at "pu") ?_
 refine Aw (ρ':=[.sh (.list (ns.map PyData.int)),.sh Bo,.sh (.int z),.sh (.int (hh:Int)),.sh (.list (ts.map encD)),.no,.no,.no,.no,.no]) (by clear loop hcs hdk ok0 l0 bd hsm hm hcle hth hae hc0 hb hc1 hz hte hBo hhe;walk_at "pu") ?_
 refine Aw (ρ':=[.sh (.list (ns.map PyData.int)),.sh Bo,.sh (.int z),.sh (.int (hh:Int)),.sh (.list (ts.map encD)),.on (BW k),.no,.no,.no,.no]) ?_ ?_
 ·have AKm:Nm [Bo,.int (hh:Int),.int (a:Int),.list (ts.map encD),.int z]=some (BW k):=hdk
  clear loop hcs hdk ok0 l0 bd hsm hm hcle hth hc0 hb hc1 hz hte hBo hhe hfi Fb hcl
  walk_at "pu"
 ·show Kw _=_
  refine wB fun ad=>?_
  have e1:=hth (ρ:=full [.sh (.list (ns.map PyData.int)),.sh Bo,.sh (.int z),.sh (.int (hh:Int)),.sh (.list (ts.map encD)),.tr ad (.nst (BW k)),.no,.no,.no,.no]) rfl
  have aJ:(things ts).length<1000:=by have:=R8 ts;omega
  have e2:QX 6 (Ax (BX (Be (Aa 4)) (Bg 0) (Av (Ab BZ (Aa 0) (BV Ae))) (Aa 0) 1 [])) (Ak (Eu (Be (Ax (BX (Be (Ax (Fd (Aa 0) (Ea (Ad (.int 2))) (Ea (Ad (.int 47)))))) (Bg 0) DK (Am JX (Ac (Aa 0) Ae)) 1 []))) (Ek 7) Lj) (Bs (Ad (.bool true)))) [.sh (.list (ns.map PyData.int)),.sh Bo,.sh (.int z),.sh (.int (hh:Int)),.sh (.list (ts.map encD)),.tr ad (.nst (BW k)),.no,.no,.no,.no]=some (.rt (.bool true)):=by
   unfold QX
   generalize hCC:BX (Be (Aa 4)) (Bg 0) (Av (Ab BZ (Aa 0) (BV Ae))) (Aa 0) 1 []=CC at *
   have e3:Ax CC (full [.sh (.list (ns.map PyData.int)),.sh Bo,.sh (.int z),.sh (.int (hh:Int)),.sh (.list (ts.map encD)),.tr ad (.nst (BW k)),.no,.no,.no,.no])=some (.list ((things ts).map Ay)):=by
    unfold Ax
    rw[e1]
    rfl
   rw[e3,Gb,bO,Gb,oO,Gb,if_pos aJ,dU _ [] (by simpa using b8),List.nil_append]
   refine wB fun bd'=>?_
   obtain⟨ρ',zs,h1,h2⟩:=loop ad bd'
   exact Aw ((GJ h1).trans h2) rfl
  exact e2
end S26
open PySem PySem.W PyProof.Rows
theorem PySem.W.Fast.tw3397202290686028277:True:=trivial
theorem PySem.W.Fast.tw4645400743514565516:True:=trivial
theorem PySem.W.Fast.tw6418961322540467100:True:=trivial
theorem PySem.W.Fast.tw4857893474709392753:True:=trivial
theorem PySem.W.Fast.tw8653592685810999376:True:=trivial
theorem PySem.W.Fast.tw11237482226492929891:True:=trivial
theorem PySem.W.Fast.tw12553082405401611790:True:=trivial
theorem PySem.W.Fast.tw14932866486989689019:True:=trivial
theorem PySem.W.Fast.tw7904951790127150192:True:=trivial
theorem PySem.W.Fast.tw6437984130493065312:True:=trivial
theorem PySem.W.Fast.tw10213375997271399833:True:=trivial
theorem PySem.W.Fast.tw3453478361224003771:True:=trivial
theorem PySem.W.Fast.tw3069112533769647419:True:=trivial
theorem PySem.W.Fast.tw650064686516999104:True:=trivial
theorem PySem.W.Fast.tw8760204416571468510:True:=trivial
theorem PySem.W.Fast.tw7303972973463684915:True:=trivial
theorem PySem.W.Fast.tw10326563905801179783:True:=trivial
theorem PySem.W.Fast.tw6917963721714353337:True:=trivial
theorem PySem.W.Fast.tw14905625308712974212:True:=trivial
theorem PySem.W.Fast.tw13174383549892621240:True:=trivial
theorem PySem.W.Fast.tw1143315534445725473:True:=trivial
theorem PySem.W.Fast.tw9622545636150077604:True:=trivial
theorem PySem.W.Fast.tw12844981982826931577:True:=trivial
theorem PySem.W.Fast.tw10285169932596540929:True:=trivial
theorem PySem.W.Fast.tw12304661602288641809:True:=trivial
theorem PySem.W.Fast.tw8647360801078317987:True:=trivial
theorem PySem.W.Fast.tw9325113873908478816:True:=trivial
theorem PySem.W.Fast.tw2616222616367513773:True:=trivial
theorem PySem.W.Fast.tw5756423089065772601:True:=trivial
theorem PySem.W.Fast.tw6921899881398803977:True:=trivial
theorem PySem.W.Fast.tw6579115592550495044:True:=trivial
theorem PySem.W.Fast.tw1077212505930036304:True:=trivial
theorem PySem.W.Fast.tw12081666081089205524:True:=trivial
theorem PySem.W.Fast.tw18393919066251934483:True:=trivial
theorem PySem.W.Fast.tw6666303316866683239:True:=trivial
theorem PySem.W.Fast.tw10339617894310220512:True:=trivial
theorem PySem.W.Fast.tw16994669943554337063:True:=trivial
theorem PySem.W.Fast.tw157998662520897485:True:=trivial
theorem PySem.W.Fast.tw6385114684976028225:True:=trivial
theorem PySem.W.Fast.tw8263313189365752416:True:=trivial
theorem PySem.W.Fast.tw4680007896799410390:True:=trivial
theorem PySem.W.Fast.tw6789466589339860898:True:=trivial
set_option maxRecDepth 100000 in
set_option maxHeartbeats 0 in
theorem PySem.Challenge.cw_gapshelf_k26_whole_disks_write_by_write_holds : PySem.Challenge.rw_gapshelf_k26_whole_disks_write_by_write.Holds := by
 w_on;o_law;k_head;(case hw=>w_witness2)
 k_fill
 refine L2.AEo (l:=PySem.Challenge.rw_gapshelf_k26_whole_disks_write_by_write) (n:=63) (k:=8) (x:="script") (CX:=L2.Hd) (sp:=L2.RP) rfl (by decide) rfl ⟨rfl,by decide,by decide⟩ (fun w h Y=>PySem.W.kIn_of Y) ?F ?S ?C
 case S=>exact fun K H a ns hl hO hS=>⟨a,ns,rfl,hS,hl,fun _=>rfl⟩
 case C=>exact fun _ _ _ _ z=>z
 case F =>
  intro w mg fa h KX G hmg
  refine' S26.all_mk S26.holds KX G hmg ?a0 ?a1 ?a2 ?a3 ?a4 ?a5 ?a6 ?a7 ?a8 ?a9 ?a10 ?a11 ?a12 ?a13 ?a14 ?a15 ?a16 ?a17 ?a18 ?a19 ?a20 ?a21 ?a22 ?a23 ?a24 ?a25 ?a26 ?a27 ?a28 ?a29 ?a30 ?a31 ?a32 ?a33 ?a34 ?a35 ?a36 ?a37 ?a38 ?a39 ?a40 ?a41 ?a42 ?a43 ?Vq ?XS ?Vx ?YX ?Y4 ?V1 ?ZD ?aB ?Zu ?Y8 ?XJ ?Z1
  case a0 | a1 | a2 | a3 | a4 | a5 | a6 | a7 | a8 | a9 | a10 | a11 | a12 | a13 | a14 | a15 | a16 | a17 | a18 | a19 | a20 | a21 | a22 | a23 | a24 | a25 | a26 | a27 | a28 | a29 | a30 | a31 | a32 | a33 | a34 | a35 | a36 | a37 | a38 | a39 | a40 | a41 | a42 | a43=>refine' L2.fnAt ?a ?l ?c ?k;case a | l | c | k=>k_is
  case Vq | XS | Vx | YX | Y4 | V1 | ZD | aB | Zu | Y8 | XJ | Z1=>k_is
#print axioms PySem.Challenge.cw_gapshelf_k26_whole_disks_write_by_write_holds
