import PyProof.Rows.All
import Wide.All
import OpenK.AllK
import Wide.FinOn
import Lean
import PyProof.EqAt
import PyProof.EqKinds
import PyProof.TupleCall
import PySem.Challenge.RW_wallspace_k21_whole_ladder
set_option Elab.async false
set_option linter.all false
set_option maxRecDepth 100000
section
open PySem PySem.Spec PyProof.Rows
abbrev q0a:=@List.length_map
abbrev q0b:=@List.getElem?_eq_getElem
abbrev q0c:=@List.getD_eq_getElem?_getD
abbrev q0d:=@Heap.get?_push_of_some
abbrev q0e:=@List.mem_map
abbrev q0f:=@List.mem_cons_of_mem
abbrev q0g:=@List.mem_singleton
abbrev q0h:=@List.size_toArray
abbrev q0i:=@List.mem_cons_self
abbrev q0j:=@List.getElem?_map
abbrev q0k:=@Nat.le_refl
abbrev q0l:=@Heap.get?_push_size
abbrev q0m:=@List.map_append
abbrev q0n:=@List.mem_map_of_mem
abbrev q0o:=@List.mem_cons
abbrev q0p:=@Heap.lt_size
abbrev q0q:=@Nat.le_trans
abbrev q0r:=@List.mem_append
abbrev q0s:=@List.mem_of_getElem?
abbrev q0t:=@List.map_cons
abbrev q0u:=@Nat.ne_of_lt
abbrev q0v:=@Option.map_eq_some_iff
abbrev q0w:=@List.map_map
abbrev q0x:=@List.length_append
abbrev q0y:=@Bool.false_ne_true
abbrev q0z:=@List.mem_append_right
abbrev q0A:=@Nat.zero_le
abbrev q0B:=@Nat.lt_of_lt_of_le
abbrev q0C:=@Decidable.byContradiction
abbrev q0D:=@List.length_cons
abbrev q0E:=@List.getElem?_eq_some_iff
abbrev q0F:=@List.getElem_mem
abbrev q0G:=@Int.toNat_natCast
abbrev q0H:=@PySem.W.mg_of
abbrev q0I:=@List.length_singleton
abbrev q0J:=@List.length_eq_zero_iff
abbrev q0K:=@Array.length_toList
abbrev q0L:=@List.take_add_one
abbrev q0M:=@List.pairwise_map
abbrev q0N:=@List.mem_append_left
abbrev q0O:=@List.length_take
abbrev q0P:=@Heap.get?_update_other
abbrev q0Q:=@List.mem_iff_getElem
abbrev q0R:=@PySem.W.mg_none_of
abbrev q0S:=@List.take_length
abbrev q0T:=@List.map_congr_left
abbrev q0U:=@Nat.lt_succ_of_lt
abbrev q0V:=@List.getElem?_append_right
abbrev q0W:=@List.getElem?_append_left
abbrev q0X:=@List.pairwise_cons
abbrev q0Y:=@List.filter_append
abbrev q0Z:=@Bool.false_eq_true
abbrev q1a:=@List.mem_range
abbrev q1b:=@List.filter_cons_of_pos
abbrev q1c:=@List.filter_cons_of_neg
abbrev q1d:=@List.mem_filter
abbrev q1e:=@List.length_range
abbrev q1f:=@List.length_filter_le
abbrev q1g:=@PySem.W.kia_one
abbrev q1h:=@List.map_inj_right
abbrev q1i:=@List.any_eq_true
abbrev q1j:=@Bool.and_eq_true
abbrev q1k:=@List.toList_toArray
abbrev q1l:=@Nat.lt_irrefl
abbrev q1m:=@List.getElem?_eq_none
abbrev q1n:=@List.append_nil
abbrev q1o:=@Int.mul_ne_zero
abbrev q1p:=@Bool.eq_iff_iff
abbrev q1q:=@Nat.lt_of_le_of_lt
abbrev q1r:=@Nat.le_succ
abbrev q1s:=@Heap.size_push
abbrev q1t:=@Nat.not_lt_zero
abbrev q1u:=@List.replicate_succ
abbrev q1v:=@List.of_mem_zip
abbrev q1w:=@Nat.ne_of_gt
abbrev q1x:=@List.set_set
abbrev q1y:=@List.map_singleton
abbrev q1z:=@Array.forIn_toList
abbrev q1A:=@List.drop_eq_getElem_cons
abbrev q1B:=@Int.eq_of_mul_eq_mul_left
abbrev q1C:=@Int.mul_zero
end
namespace L2
open PySem PySem.Spec PyProof.Rows
abbrev Key:=Sum Int Str
def z7W:Key→Value→Bool
 | .inl k,v=>Value.isInt k v
 | .inr x,v=>Value.isStrOf x v
def keyH (w:World):Key→Int
 | .inl k=>hashInt k
 | .inr x=>hashStr w x
theorem z0M:∀{k:Key}{v:Value},z7W k v=true→(∃i t,k=Sum.inl i∧v=Value.int i t)∨(∃x t,k=Sum.inr x∧v=Value.str x t)
 | .inl i,v,h=>by
   obtain⟨t,e⟩:=Value.isInt_shape (k:=i) (v:=v) h
   exact .inl ⟨i,t,rfl,e⟩
 | .inr x,v,h=>by
   obtain⟨t,e⟩:=Value.isStrOf_shape (x:=x) (v:=v) h
   exact .inr ⟨x,t,rfl,e⟩
theorem z9z (i:Int) (t:Tok):z7W (.inl i) (.int i t)=true:=by simp[z7W,Value.isInt]
theorem z9y (x:Str) (t:Tok):z7W (.inr x) (.str x t)=true:=by simp[z7W,Value.isStrOf]
theorem y3N (a b:Int):decide ((Sum.inl a:Key)=Sum.inl b)=(a==b):=by
 by_cases e:a=b
 ·subst e;simp
 ·have h:¬(Sum.inl a:Key)=Sum.inl b:=fun q=>e (Sum.inl.inj q)
  rw[decide_eq_false h]
  exact (beq_eq_false_iff_ne.mpr e).symm
theorem y3K (a b:Str):decide ((Sum.inr a:Key)=Sum.inr b)=decide (a=b):=by
 by_cases e:a=b
 ·subst e;simp
 ·have h:¬(Sum.inr a:Key)=Sum.inr b:=fun q=>e (Sum.inr.inj q)
  rw[decide_eq_false h,decide_eq_false e]
theorem y3M (a:Int) (b:Str):decide ((Sum.inl a:Key)=Sum.inr b)=false:=decide_eq_false (fun q=>nomatch q)
theorem y3L (a:Str) (b:Int):decide ((Sum.inr a:Key)=Sum.inl b)=false:=decide_eq_false (fun q=>nomatch q)
def z0K (prog:Program) (w:World):PySem.KeyKind prog w Key where
 is:=z7W
 hash:=keyH w
 inj:=fun v a b ha hb=>by
    rcases z0M ha with⟨i,t,rfl,rfl⟩|⟨x,t,rfl,rfl⟩
    ·rcases z0M hb with⟨j,u,rfl,e⟩|⟨y,u,rfl,e⟩
     ·injection e with e1 _;rw[e1]
     ·exact nomatch e
    ·rcases z0M hb with⟨j,u,rfl,e⟩|⟨y,u,rfl,e⟩
     ·exact nomatch e
     ·injection e with e1 _;rw[e1]
 byValue:=fun k v h=>by
    rcases z0M h with⟨i,t,rfl,rfl⟩|⟨x,t,rfl,rfl⟩<;>rfl
 pyHash:=fun hv h=>by
    rcases z0M hv with⟨i,t,rfl,rfl⟩|⟨x,t,rfl,rfl⟩
    ·exact wpAny_pyHash_int h
    ·exact wpAny_pyHash_str h
 eqBool:=fun hu hv h=>by
    rcases z0M hu with⟨i,t,rfl,rfl⟩|⟨x,t,rfl,rfl⟩
    ·rcases z0M hv with⟨j,u,rfl,rfl⟩|⟨y,u,rfl,rfl⟩
     ·rw[y3N] at h;exact wpAny_eqBool_int h
     ·rw[y3M] at h;exact SeqAt.EqAt.int_str i t y u _ _ _ _ h
    ·rcases z0M hv with⟨j,u,rfl,rfl⟩|⟨y,u,rfl,rfl⟩
     ·rw[y3L] at h;exact SeqAt.EqAt.str_int x t j u _ _ _ _ h
     ·rw[y3K] at h;exact wpAny_eqBool_str h
 «strs»:=fun k x t v h=>by
    rcases z0M h with⟨i,u,rfl,e⟩|⟨y,u,rfl,e⟩
    ·exact nomatch e
    ·injection e with e1 _
     subst e1
     cases v<;>rfl
theorem z6j (prog:Program) (w:World) (i:Int) (t:Tok):(z0K prog w).is (.inl i) (.int i t)=true:=z9z i t
theorem z6i (prog:Program) (w:World) (x:Str) (t:Tok):(z0K prog w).is (.inr x) (.str x t)=true:=z9y x t
end L2
namespace L2
open PySem PySem.Spec PyProof.Rows
inductive V where
 |non|bl (b:Bool)|int (i:Int)|str (x:Str)|byt (b:Array UInt8)|flt (b:UInt64)|ref (a:Addr)|ty (n:String)
 deriving DecidableEq
def RelV:V→Value→Prop
 | .non,u=>u=Value.none
 | .bl b,u=>u=Value.bool b
 | .int i,u=>∃t,u=Value.int i t
 | .str x,u=>∃t,u=Value.str x t
 | .byt b,u=>∃t,u=Value.bytes b t
 | .flt b,u=>∃t,u=Value.float b t
 | .ref a,u=>u=Value.ref a
 | .ty n,u=>u=Value.type n
abbrev Vals:List V→List Value→Prop:=Paired RelV
theorem Vals.length {xs:List V}{us:List Value} (r:Vals xs us):xs.length=us.length:=Paired.length r
theorem Vals.get:∀{xs:List V}{us:List Value}{i:Nat}{x:V},Vals xs us→xs[i]? =some x→∃u,us[i]? =some u∧RelV x u
 |_,_,_,_,.nil,e=>by simp at e
 |_,_,0,_,.cons r _,e=>by simp at e;subst e;exact⟨_,rfl,r⟩
 |_,_,i+1,x,.cons _ t,e=>by
  obtain⟨u,h1,h2⟩:=Vals.get (i:=i) (x:=x) t (by simpa using e)
  exact⟨u,by simpa using h1,h2⟩
theorem Vals.set {x:V}{u:Value} (r:RelV x u):∀{xs:List V}{us:List Value} (i:Nat),Vals xs us→Vals (xs.set i x) (us.set i u)
 |_,_,_,.nil => .nil
 |_,_,0,.cons _ t=> .cons r t
 |_,_,i+1,.cons q t=> .cons q (Vals.set r i t)
theorem Vals.append:∀{xs ys:List V}{us ws:List Value},Vals xs us→Vals ys ws→Vals (xs++ys) (us++ws)
 |_,_,_,_,.nil,s=>s
 |_,_,_,_,.cons r t,s=> .cons r (Vals.append t s)
theorem Vals.take:∀{xs:List V}{us:List Value} (n:Nat),Vals xs us→Vals (xs.take n) (us.take n)
 |_,_,0,_=> .nil
 |_,_,_+1,.nil => .nil
 |_,_,n+1,.cons r t=> .cons r (Vals.take n t)
theorem Vals.drop:∀{xs:List V}{us:List Value} (n:Nat),Vals xs us→Vals (xs.drop n) (us.drop n)
 |_,_,0,r=>r
 |_,_,_+1,.nil => .nil
 |_,_,n+1,.cons _ t=>Vals.drop n t
def RelO:Option V→Option Value→Prop
 |some v,some u=>RelV v u
 |none,none=>True
 |_,_=>False
def KV {κ:Type}:List (κ×V)→List (κ×Value)→Prop:=Paired fun (p:κ×V) (q:κ×Value)=>p.1=q.1∧RelV p.2 q.2
def kV:Key→V
 | .inl i=> .int i
 | .inr x=> .str x
inductive HO where
 /-- a list -/
 |lst (xs:List V)
 /-- a tuple (never changes) -/
 |tup (xs:List V)
 /-- a dict whose keys are ints and texts;one whose keys are tuples of ints and texts (the empty one is both) -/
 |dK (kvs:List (Key×V))|dT (kvs:List (List Key×V))
 /-- a set of ints:its members,its size -/
 |set (S:Int→Bool) (n:Nat)
 /-- an instance of the class at C,its dict at dx,its attributes -/
 |ins (C dx:Addr) (fs:List (Str×V))
 /-- the dict of the instance at x -/
 |own (x:Addr)
 /-- the dict of an exception -/
 |xd (fs:List (Str×V))
 /-- a bound method,f of x -/
 |met (f x:Addr)
 /-- a range object lo,lo+1,.. below hi -/
 |rng (lo hi:Int)
 /-- a thing that is known to the object (the script;a dict while a loop walks it):read,never written while it is so -/
 |frz (o:Obj) (u:HO)
 /-- a code object's table -/
 |tbl (ps:Array Value)
 /-- any other thing,by what is true of its one object (a def of one's own:SetO a S n:=HO.ext fun h=> ..) -/
 |ext (φ:Heap→Prop)
abbrev Hp:=Addr→Option HO
def upd (H:Hp) (a:Addr) (o:HO):Hp:=fun b=>if b=a then some o else H b
theorem z0b {H:Hp}{a:Addr}{o:HO}:upd H a o a=some o:=by unfold upd;rw[if_pos rfl]
theorem z0h {H:Hp}{a b:Addr}{o:HO} (h:b≠a):upd H a o b=H b:=by unfold upd;rw[if_neg h]
theorem z3d {H:Hp}{a:Addr}{o u:HO}:upd (upd H a o) a u=upd H a u:=by
 funext b;unfold upd;split<;>rfl
theorem ne_of {H:Hp}{a b:Addr}{o u:HO} (h:H a=some o) (h':H b=some u) (d:o≠u):a≠b:=by
 intro e;subst e;rw[h] at h';exact d (Option.some.inj h')
theorem z0f {H:Hp}{a b:Addr}{o:HO} (h:H a=some o) (h':H b=none):a≠b:=by
 intro e;subst e;rw[h] at h';cases h'
section
variable (P:Program) (w:World)
def ObjOk (H:Hp) (h:Heap) (a:Addr):HO→Prop
 | .lst xs=>xs.length≤sizeLine∧∃(its:List Value) (n:Nat),Vals xs its∧h.get? a=some {cls:= .type "list",data:= .seq its.toArray n}
 | .tup xs=>xs.length≤sizeLine∧∃its:List Value,Vals xs its∧IsTup h a its.toArray
 | .dK kvs=>kvs.length≤sizeLine∧(a==sysModules)=false∧∃vs,KV kvs vs∧h.DictOf (z0K P w) a vs
 | .dT kvs=>kvs.length≤sizeLine∧(a==sysModules)=false∧∃xs:List (List Key×Addr×Value),
  Paired (fun (p:List Key×V) (q:List Key×Addr×Value)=>p.1=q.1∧H q.2.1=some (.tup (p.1.map kV))∧RelV p.2 q.2.2) kvs xs∧
  ∃o es ep,h.get? a=some o∧o.ExactDict∧o.data= .dict es ep∧es.toList=xs.map (entryOfKey (tupleKind (z0K P w)))∧(xs.map (·.1)).Nodup
 | .set S n=>h.SetOf (intKind P w) a S n
 | .ins C dx fs=>H dx=some (.own a)∧fs.length≤1000∧dx≠a∧h.get? a=some (PySem.W.instObj C dx)∧
  ∃mA,h.Ns1 dx mA∧(∀f,RelO (fs.lookup f) (mA f))∧PySem.Within mA (fs.map (·.1))
 | .own _=>∃o,h.get? a=some o
 | .xd fs=>∃mA,h.Ns1 a mA∧∀f,RelO (fs.lookup f) (mA f)
 | .rng lo hi=>∃t u v,h.get? a=some {cls:= .type "range",data:= .fields #[.int lo t,.int hi u,.int 1 v]}
 | .frz o u=>h.get? a=some o∧ObjOk H h a u
 | .tbl ps=>h.get? a=some {cls:= .none,data:= .fields ps}
 | .met f x=>h.get? a=some (PySem.W.methodObj (.ref f) (.ref x))
 | .ext φ=>φ h∧(∃o,h.get? a=some o)∧∀h1 h2:Heap,φ h1→(∀o,h1.get? a=some o→h2.get? a=some o)→φ h2
def HOk (H:Hp) (h:Heap):Prop:=∀a o,H a=some o→ObjOk P w H h a o
end
section
variable {P:Program}{w:World}{H H':Hp}{h h':Heap}{a:Addr}{o:HO}
theorem ObjOk.lt (x:ObjOk P w H h a o):a<h.objs.size:=by
 cases o with
 |lst xs=>obtain⟨_,_,_,_,e⟩:=x;exact Heap.lt_size e
 |tup xs=>obtain⟨_,_,_,p⟩:=x;exact p.lt
 |dK kvs=>obtain⟨_,_,_,_,o,_,_,e,_⟩:=x;exact Heap.lt_size e
 |dT kvs=>obtain⟨_,_,_,_,o,_,_,e,_⟩:=x;exact Heap.lt_size e
 |set S n=>obtain⟨o,_,_,_,e,_⟩:=x;exact Heap.lt_size e
 |ins C dx fs=>obtain⟨_,_,_,e,_⟩:=x;exact Heap.lt_size e
 |own y=>obtain⟨_,e⟩:=x;exact Heap.lt_size e
 |xd fs=>obtain⟨_,⟨_,_,_,e,_⟩,_⟩:=x;exact Heap.lt_size e
 |rng lo hi=>obtain⟨_,_,_,e⟩:=x;exact Heap.lt_size e
 |frz ob u=>obtain⟨e,_⟩:=x;exact Heap.lt_size e
 |tbl ps=>exact Heap.lt_size (show h.get? a=some _ from x)
 |met f y=>exact Heap.lt_size (show h.get? a=some _ from x)
 |ext φ=>obtain⟨_,⟨_,e⟩,_⟩:=x;exact Heap.lt_size e
theorem Paired.mapP {α β:Type}{F G:α→β→Prop}:∀{l₁:List α}{l₂:List β},Paired F l₁ l₂→(∀a b,F a b→G a b)→Paired G l₁ l₂
 |_,_,.nil,_=> .nil
 |_,_,.cons r t,f=> .cons (f _ _ r) (Paired.mapP t f)
theorem ObjOk.stay (x:ObjOk P w H h a o) (k:∀b u,(b=a∨H b=some (.own a))→h.get? b=some u→h'.get? b=some u)
 (ho:∀b,H b=some (.own a)→H' b=some (.own a)) (ht:∀b xs,H b=some (.tup xs)→H' b=some (.tup xs)):ObjOk P w H' h' a o:=by
 induction o with
 |lst xs=>obtain⟨z,its,n,r,e⟩:=x;exact⟨z,its,n,r,k _ _ (.inl rfl) e⟩
 |tup xs=>obtain⟨z,its,r,ob,e,c⟩:=x;exact⟨z,its,r,ob,k _ _ (.inl rfl) e,c⟩
 |dK kvs=>obtain⟨z,y,vs,r,ob,es,ep,e,c⟩:=x;exact⟨z,y,vs,r,ob,es,ep,k _ _ (.inl rfl) e,c⟩
 |dT kvs=>
  obtain⟨z,y,xs,r,ob,es,ep,e,c⟩:=x
  exact⟨z,y,xs,Paired.mapP r fun p q z=>⟨z.1,ht _ _ z.2.1,z.2.2⟩,ob,es,ep,k _ _ (.inl rfl) e,c⟩
 |set S n=>obtain⟨ob,es,ep,t,e,c⟩:=x;exact⟨ob,es,ep,t,k _ _ (.inl rfl) e,c⟩
 |ins C dx fs=>
  obtain⟨d,z,ne,e,mA,⟨od,es,ep,e2,c⟩,r⟩:=x
  exact⟨ho _ d,z,ne,k _ _ (.inl rfl) e,mA,⟨od,es,ep,k _ _ (.inr d) e2,c⟩,r⟩
 |own y=>obtain⟨ob,e⟩:=x;exact⟨ob,k _ _ (.inl rfl) e⟩
 |xd fs=>obtain⟨mA,⟨od,es,ep,e,c⟩,r⟩:=x;exact⟨mA,⟨od,es,ep,k _ _ (.inl rfl) e,c⟩,r⟩
 |rng lo hi=>obtain⟨t,u,v,e⟩:=x;exact⟨t,u,v,k _ _ (.inl rfl) e⟩
 |frz ob u ih=>obtain⟨e,q⟩:=x;exact⟨k _ _ (.inl rfl) e,ih q⟩
 |tbl ps=>
  have e:h.get? a=some {cls:= .none,data:= .fields ps}:=x
  show h'.get? a=some {cls:= .none,data:= .fields ps}
  exact k a _ (.inl rfl) e
 |met f y=>
  have e:h.get? a=some (PySem.W.methodObj (.ref f) (.ref y)):=x
  show h'.get? a=some (PySem.W.methodObj (.ref f) (.ref y))
  exact k a _ (.inl rfl) e
 |ext φ=>obtain⟨p,⟨o,e⟩,st⟩:=x;exact⟨st _ _ p fun o q=>k _ _ (.inl rfl) q,⟨o,k _ _ (.inl rfl) e⟩,st⟩
theorem HOk.lt (x:HOk P w H h) (e:H a=some o):a<h.objs.size:=(x a o e).lt
theorem HOk.fresh (x:HOk P w H h) (e:h.objs.size≤a):H a=none:=by
 cases q:H a with
 |none=>rfl
 |some u=>exact absurd (Nat.lt_of_lt_of_le (x.lt q) e) (Nat.lt_irrefl _)
theorem HOk.kept (x:HOk P w H h) (k:∀b u,h.get? b=some u→h'.get? b=some u):HOk P w H h':=fun a o e=>
 (x a o e).stay (fun b u _ q=>k b u q) (fun _ q=>q) fun _ _ q=>q
theorem HOk.laid (x:HOk P w H h) (k:∀b u,h.get? b=some u→h'.get? b=some u) (hp:h.objs.size≤a) (new:ObjOk P w (upd H a o) h' a o):HOk P w (upd H a o) h':=fun b u e=>by
 have hn:=x.fresh hp
 by_cases hb:b=a
 ·subst hb;rw[z0b] at e;cases e;exact new
 ·rw[z0h hb] at e
  exact (x b u e).stay (fun c v _ q=>k c v q) (fun c q=>by rw[z0h (z0f q hn)];exact q) fun c xs q=>by rw[z0h (z0f q hn)];exact q
end
def Rd (H:Hp) (a:Addr) (u:HO):Prop:=H a=some u∨∃o,H a=some (.frz o u)
theorem Rd.ok {P:Program}{w:World}{H:Hp}{h:Heap}{a:Addr}{u:HO} (r:Rd H a u) (x:HOk P w H h):ObjOk P w H h a u:=by
 rcases r with r|⟨o,r⟩
 ·exact x a u r
 ·obtain⟨_,q⟩:=x a _ r
  exact q
def Mut:Option HO→Prop
 |some (.lst _)=>True
 |some (.dK _)=>True
 |some (.dT _)=>True
 |some (.set _ _)=>True
 |some (.ins _ _ _)=>True
 |some (.ext _)=>True
 |_=>False
section
variable {P:Program}{w:World}{H:Hp}{h h':Heap}{x e:Addr}{o':HO}
theorem HOk.write (ok:HOk P w H h) (mu:Mut (H x)) (he:e=x∨H e=some (.own x)) (k:∀b u,b≠e→h.get? b=some u→h'.get? b=some u) (heo:∃u,h'.get? e=some u)
 (new:ObjOk P w (upd H x o') h' x o'):HOk P w (upd H x o') h':=fun b u q=>by
 have nown:∀c y,H c=some (.own y)→c≠x:=fun c y r z=>by subst z;rw[r] at mu;exact mu
 have ntup:∀c xs,H c=some (.tup xs)→c≠x:=fun c xs r z=>by subst z;rw[r] at mu;exact mu
 by_cases hb:b=x
 ·subst hb;rw[z0b] at q;cases q;exact new
 ·rw[z0h hb] at q
  by_cases hbe:b=e
  ·have q':H b=some (.own x):=by
     rcases he with z|z
     ·exact absurd (hbe.trans z) hb
     ·rw[hbe];exact z
   rw[q] at q';cases q'
   obtain⟨v,hv⟩:=heo
   exact⟨v,by rw[hbe];exact hv⟩
  ·refine (ok b u q).stay (fun c v hc r=>k c v ?_ r) (fun c r=>by rw[z0h (nown c b r)];exact r) fun c xs r=>by rw[z0h (ntup c xs r)];exact r
   rcases hc with rfl|hc
   ·exact hbe
   ·rintro rfl
    rcases he with z|z
    ·exact nown c b hc z
    ·rw[hc] at z;cases z;exact hb rfl
end
structure Un (fs ex:List Addr) (H H':Hp) (h h':Heap):Prop where
 keep:∀b o,h.get? b=some o→H b=none→b∉fs→b∉ex→h'.get? b=some o
 slot:∀b o,h.get? b=some o→H b=none→b∈fs→b∉ex→∃sl,h'.get? b=some {o with slots:=sl}
 free:∀b o,h.get? b=some o→H b=none→b∉ex→H' b=none
 there:∀b o,h.get? b=some o→b∉ex→∃o',h'.get? b=some o'
 tups:∀b xs,H b=some (.tup xs)→H' b=some (.tup xs)
 frzs:∀b o u,H b=some (.frz o u)→H' b=some (.frz o u)
 tbls:∀b ps,H b=some (.tbl ps)→∃more,H' b=some (.tbl (ps++more))
section
variable {fs fs' ex ex':List Addr}{H H1 H2:Hp}{h h1 h2 h':Heap}{a x e:Addr}{o:HO}
theorem Un.any (u:Un fs ex H H1 h h1) {b:Addr}{ob:Obj} (q:h.get? b=some ob) (n:H b=none) (hx:b∉ex):∃sl,h1.get? b=some {ob with slots:=sl}:=by
 by_cases hb:b∈fs
 ·exact u.slot b ob q n hb hx
 ·exact⟨ob.slots,u.keep b ob q n hb hx⟩
theorem Un.kept (k:∀b u,h.get? b=some u→h'.get? b=some u):Un fs ex H H h h':=
 ⟨fun b ob q _ _ _=>k b ob q,fun b ob q _ _ _=>⟨ob.slots,k b ob q⟩,fun _ _ _ n _=>n,fun b ob q _=>⟨ob,k b ob q⟩,fun _ _ q=>q,fun _ _ _ q=>q,fun _ ps q=>⟨#[],by rw[q];simp⟩⟩
theorem Un.refl:Un fs ex H H h h:=Un.kept fun _ _ q=>q
theorem Un.laid (k:∀b u,h.get? b=some u→h'.get? b=some u) (hp:h.objs.size≤a) (hn:H a=none):Un fs ex H (upd H a o) h h' where
 keep:=fun b u q _ _ _=>k b u q
 slot:=fun b u q _ _ _=>⟨u.slots,k b u q⟩
 free:=fun b u q n _=>by rw[z0h (q0u (q0B (q0p q) hp))];exact n
 there:=fun b u q _=>⟨u,k b u q⟩
 tups:=fun b xs q=>by rw[z0h (z0f q hn)];exact q
 frzs:=fun b u xs q=>by rw[z0h (z0f q hn)];exact q
 tbls:=fun b ps q=>⟨#[],by rw[z0h (z0f q hn),q];simp⟩
theorem Un.write (mu:Mut (H x)) (he:e=x∨H e=some (.own x)) (k:∀b u,b≠e→h.get? b=some u→h'.get? b=some u) (heo:∃u,h'.get? e=some u):Un fs ex H (upd H x o) h h':=by
 have hx:∀b,H b=none→b≠x:=fun b n z=>by subst z;rw[n] at mu;exact mu
 have hb:∀b,H b=none→b≠e:=fun b n z=>by
  subst z
  rcases he with r|r
  ·exact hx b n r
  ·rw[n] at r;cases r
 have hm:∀b u,H b=some u→¬Mut (some u)→b≠x:=fun b u q nm z=>by subst z;rw[q] at mu;exact nm mu
 refine⟨fun b u q n _ _=>k b u (hb b n) q,fun b u q n _ _=>⟨u.slots,k b u (hb b n) q⟩,fun b u q n _=>by rw[z0h (hx b n)];exact n,fun b u q _=>?_,
  fun b xs q=>by rw[z0h (hm b _ q fun z=>z)];exact q,fun b u xs q=>by rw[z0h (hm b _ q fun z=>z)];exact q,fun b ps q=>⟨#[],by rw[z0h (hm b _ q fun z=>z),q];simp⟩⟩
 by_cases hbe:b=e
 ·subst hbe;exact heo
 ·exact⟨u,k b u hbe q⟩
end
def trk (h:Heap) (H:Hp):List Addr:=(List.range h.objs.size).filter fun a=>(H a).isSome
def z9M (h:Heap) (H:Hp):Heap:=PySem.W.hideAll h (trk h H)
theorem z9L (h:Heap) (H:Hp):(z9M h H).objs.size =h.objs.size:=PySem.W.hideAll_size _ _
theorem y1c {h:Heap}{H:Hp}{b:Addr}{o:Obj} (e:h.get? b=some o) (n:H b=none):(z9M h H).get? b=some o:=
 PySem.W.hideAll_get _ e fun hm=>by
  have q:(H b).isSome =true:=(q1d.mp hm).2
  rw[n] at q;simp at q
theorem y2t {h:Heap}{H:Hp}{b:Addr}{o:Obj} (e:(z9M h H).get? b=some o):h.get? b=some o∧H b=none:=by
 have e':h.get? b=some o:=PySem.W.of_hideAll (trk h H) e
 refine⟨e',?_⟩
 cases q:H b with
 |none=>rfl
 |some x=>
  have hm:b∈trk h H:=q1d.mpr ⟨q1a.mpr (q0p e'),by simp[q]⟩
  have z:(z9M h H).get? b=none:=PySem.W.hideAll_none (trk h H) hm
  rw[z] at e;cases e
end L2
namespace L2
open PySem PySem.Spec PyProof.Rows
structure Mod (K:PySem.W.Frag) (mg:Str→Option Value) (base:Heap):Prop where
 kin:K.In base
 glob:base.Ns mainGlobals mg
 blt:∃mb,base.Ns builtinsNs mb∧∀x:Str,x≠"__name__"→mb x=bootBuiltins x
 nolimit:base.NoLimit
structure Cx where
 prog:Program
 w:World
 K:PySem.W.Frag
 mg:Str→Option Value
 base:Heap
 A:Around
 N:List Str
 s₀:Shared
 H₀:Hp
 env:Env
 outer:List Env
 stack:List Env
 ex:List Addr
 fn:Str→Bool
 calm:Bool
 pn:List (Addr×Obj)
 xe:Value→Shared→Prop
def frs (l:List Env):List Addr:=l.filterMap (·.frame)
abbrev Cx.fs (X:Cx):List Addr:=frs X.outer
def Vis (sc:Scope) (x:Str):Prop:=sc.names.lookup x=some .local ∨sc.names.lookup x=some .cell ∨sc.names.lookup x=some .free
def Loc (sc:Scope) (x:Str):Prop:=sc.names.lookup x=some .local ∨sc.names.lookup x=some .cell
def Look (env:Env) (h:Heap) (m:Str→Option Value) (x:Str) (u:Value):Prop:=
 (env.kindOf x=some .local ∧m x=some u)∨((env.kindOf x=some .cell ∨env.kindOf x=some .free)∧∃c,env.cells.lookup x=some c∧h.IsCell c (some u))
structure Cx.Ok (X:Cx):Prop where
 mod:Mod X.K X.mg X.base
 kind:X.env.scope.kind= .function
 glob:X.env.globals=mainGlobals
 blt:X.env.builtins=builtinsNs
 above:X.s₀.heap.objs.size≤X.env.locals
 inj:∀x y c,X.env.cells.lookup x=some c→X.env.cells.lookup y=some c→x=y
 has:∀x,(X.env.kindOf x=some .cell ∨X.env.kindOf x=some .free)→∃c,X.env.cells.lookup x=some c
 cab:∀x c,X.fn x=true→X.env.cells.lookup x=some c→X.s₀.heap.objs.size≤c
 hd:X.calm=true→X.A.handled=none
 frames:X.A.frames=some X.stack
 stk:X.stack=X.outer∨(X.stack=X.env::X.outer∧X.env.frame=some X.env.locals)
 exf:∀b∈X.ex,b≠X.env.locals∧∀x c,X.env.cells.lookup x=some c→c≠b
 bs:∀b o,X.base.get? b=some o→X.s₀.heap.get? b=some o∧X.H₀ b=none
 bsz:X.base.objs.size≤X.s₀.heap.objs.size
 noex:∀b o,X.base.get? b=some o→b∉X.ex
 exfs:∀b∈X.ex,b∉X.fs
 funs:X.s₀.heap.FunFrames X.base X.outer
 frf:∀b∈X.fs,X.H₀ b=none
structure Inv (X:Cx) (pins:List (Addr×Obj)) (σ:List (Option V)) (H:Hp) (s:Shared):Prop where
 ok:X.Ok
 os:s.os=X.s₀.os
 bare:AllBare s.gens
 base:Un X.fs X.ex X.H₀ H X.s₀.heap s.heap
 loc:∃m,s.heap.Ns X.env.locals m∧∀(i:Nat) (x:Str) (v:V),X.N[i]? =some x→σ[i]? =some (some v)→Vis X.env.scope x→∃u,RelV v u∧Look X.env s.heap m x u
 cell:∀x c,X.env.cells.lookup x=some c→∃v,s.heap.IsCell c v
 free:H X.env.locals=none
 freeC:∀x c,X.env.cells.lookup x=some c→H c=none
 pin:∀p∈X.pn++pins,s.heap.get? p.1=some p.2∧H p.1=none∧p.1≠X.env.locals∧p.1∉X.fs∧∀v,p.2.data≠ .cell v
 hok:HOk X.prog X.w H s.heap
 len:σ.length=X.N.length
section
variable {X:Cx}{pins:List (Addr×Obj)}{σ:List (Option V)}{H H':Hp}{s:Shared}{h':Heap}
theorem Cx.Ok.nofr (ok:X.Ok) {b:Addr}{o:Obj} (e:X.base.get? b=some o):b∉X.fs:=fun hb=>by
 have:=(ok.funs.mem hb).1
 rw[e] at this;cases this
theorem Inv.bs (I:Inv X pins σ H s):∀b o,X.base.get? b=some o→s.heap.get? b=some o∧H b=none:=fun b o e=>
 ⟨I.base.keep b o (I.ok.bs b o e).1 (I.ok.bs b o e).2 (I.ok.nofr e) (I.ok.noex b o e),I.base.free b o (I.ok.bs b o e).1 (I.ok.bs b o e).2 (I.ok.noex b o e)⟩
theorem Inv.bk (I:Inv X pins σ H s):∀b o,X.base.get? b=some o→s.heap.get? b=some o:=fun b o e=>(I.bs b o e).1
theorem Inv.mod (I:Inv X pins σ H s):Mod X.K X.mg X.base:=I.ok.mod
theorem Inv.kIn (I:Inv X pins σ H s):X.K.In s.heap:=I.ok.mod.kin.keeps I.bk
theorem Inv.lt (I:Inv X pins σ H s):X.env.locals<s.heap.objs.size:=let ⟨_,hn,_⟩:=I.loc;hn.lt
theorem Inv.sz (I:Inv X pins σ H s):X.s₀.heap.objs.size≤s.heap.objs.size:=q0q I.ok.above (Nat.le_of_lt I.lt)
theorem Inv.nofs (I:Inv X pins σ H s) {a:Addr} (h:s.heap.objs.size≤a):a∉X.fs:=fun hb=>by
 obtain⟨_,o,ho,_⟩:=I.ok.funs.mem hb
 exact absurd (q0B (q0p ho) (q0q I.sz h)) (q1l _)
theorem Inv.cne (I:Inv X pins σ H s):∀x c,X.env.cells.lookup x=some c→c≠X.env.locals:=fun x c e z=>by
 obtain⟨v,o,ho,hd⟩:=I.cell x c e
 obtain⟨m,⟨o',es,ep,ho',hd',_⟩,_⟩:=I.loc
 rw[z,ho'] at ho;cases ho;rw[hd'] at hd;cases hd
theorem Inv.funs (I:Inv X pins σ H s):s.heap.FunFrames X.base X.outer:=by
 have all:∀(l:List Env),(∀b∈frs l,b∈X.fs)→X.s₀.heap.FunFrames X.base l→s.heap.FunFrames X.base l:=by
  intro l
  induction l with
  |nil=>intro _ _;trivial
  |cons env r ih=>
   intro hs hl
   obtain⟨hk,⟨L,o,hf,hn,ho,hd⟩,hr⟩:=hl
   have hL:L∈X.fs:=hs L (by unfold frs;rw[List.filterMap_cons,hf];exact List.mem_cons_self)
   obtain⟨sl,e⟩:=I.base.slot L o ho (I.ok.frf L hL) hL fun z=>I.ok.exfs L z hL
   exact⟨hk,⟨L,_,hf,hn,e,hd⟩,ih (fun b hb=>hs b (by unfold frs;rw[List.filterMap_cons,hf];exact List.mem_cons_of_mem _ hb)) hr⟩
 exact all X.outer (fun _ hb=>hb) I.ok.funs
theorem Inv.stack (I:Inv X pins σ H s):s.heap.FunFrames X.base X.stack:=by
 rcases I.ok.stk with e|⟨e,hf⟩
 ·rw[e];exact I.funs
 ·rw[e]
  obtain⟨m,hn,_⟩:=I.loc
  refine .cons (by rw[I.ok.kind];decide) hf hn ?_ I.funs
  exact Heap.get?_none_of_le (q0q I.ok.bsz I.ok.above)
theorem Inv.stkSub (I:Inv X pins σ H s):∀b∈frs X.stack,b∈X.env.locals::X.fs:=fun b hb=>by
 rcases I.ok.stk with e|⟨e,hf⟩
 ·rw[e] at hb;exact q0f _ hb
 ·rw[e] at hb
  unfold frs at hb
  rw[List.filterMap_cons,hf] at hb
  exact hb
theorem Inv.stkFree (I:Inv X pins σ H s):∀b∈frs X.stack,H b=none:=fun b hb=>by
 rcases q0o.mp (I.stkSub b hb) with e|hb
 ·rw[e];exact I.free
 ·obtain⟨_,o,ho,_⟩:=I.ok.funs.mem hb
  exact I.base.free b o ho (I.ok.frf b hb) fun z=>I.ok.exfs b z hb
theorem Inv.step {g':Array GenState}{t':Nat}{d':Drawn}{ch:List Addr} (I:Inv X pins σ H s)
 (hch:∀b∈ch,(b∈X.ex∨X.s₀.heap.objs.size≤b)∧b≠X.env.locals∧(∀x c,X.env.cells.lookup x=some c→c≠b)∧∀p∈X.pn++pins,p.1≠b)
 (keep:∀b o,b≠X.env.locals→b∉X.fs→b∉ch→s.heap.get? b=some o→H b=none→h'.get? b=some o)
 (slot:∀b o,b≠X.env.locals→b∈X.fs→b∉ch→s.heap.get? b=some o→H b=none→∃sl,h'.get? b=some {o with slots:=sl}) (free:∀b o,b∉ch→s.heap.get? b=some o→H b=none→H' b=none)
 (there:∀b o,b∉ch→s.heap.get? b=some o→∃o',h'.get? b=some o')
 (tups:∀b xs,H b=some (.tup xs)→H' b=some (.tup xs)) (frzs:∀b o u,H b=some (.frz o u)→H' b=some (.frz o u)) (tbls:∀b ps,H b=some (.tbl ps)→∃more,H' b=some (.tbl (ps++more)))
 (ns:∀m,s.heap.Ns X.env.locals m→h'.Ns X.env.locals m) (hok:HOk X.prog X.w H' h') (hg:AllBare g'):
 Inv X pins σ H' {s with heap:=h',gens:=g',drawn:=d',toks:=t'}:=by
 have neL:∀b o,X.s₀.heap.get? b=some o→b≠X.env.locals:=fun b o e=>q0u (q0B (q0p e) I.ok.above)
 have neC:∀b o,X.s₀.heap.get? b=some o→b∉X.ex→b∉ch:=fun b o e hx hb=>by
  rcases (hch b hb).1 with z|z
  ·exact hx z
  ·exact absurd (q0B (q0p e) z) (q1l _)
 have cellK:∀x c,X.env.cells.lookup x=some c→∀v,s.heap.IsCell c v→h'.IsCell c v:=fun x c e v ⟨o,ho,hd⟩=>by
  have nch:c∉ch:=fun z=>(hch c z).2.2.1 x c e rfl
  by_cases hc:c∈X.fs
  ·obtain⟨sl,q⟩:=slot c o (I.cne x c e) hc nch ho (I.freeC x c e)
   exact⟨_,q,hd⟩
  ·exact⟨o,keep c o (I.cne x c e) hc nch ho (I.freeC x c e),hd⟩
 refine⟨I.ok,I.os,hg,⟨fun b o e n hb hx=>?_,fun b o e n hb hx=>?_,fun b o e n hx=>?_,fun b o e hx=>?_,fun b xs e=>tups b xs (I.base.tups b xs e),fun b o xs e=>frzs b o xs (I.base.frzs b o xs e),fun b ps e=>?_⟩,?_,fun x c e=>?_,?_,fun x c e=>?_,fun p hp=>?_,hok,I.len⟩
 ·exact keep b o (neL b o e) hb (neC b o e hx) (I.base.keep b o e n hb hx) (I.base.free b o e n hx)
 ·obtain⟨sl,e1⟩:=I.base.slot b o e n hb hx
  obtain⟨sl',e2⟩:=slot b _ (neL b o e) hb (neC b o e hx) e1 (I.base.free b o e n hx)
  exact⟨sl',e2⟩
 ·obtain⟨o',e1⟩:=I.base.there b o e hx
  exact free b o' (neC b o e hx) e1 (I.base.free b o e n hx)
 ·obtain⟨o',e1⟩:=I.base.there b o e hx
  exact there b o' (neC b o e hx) e1
 ·obtain⟨m1,e1⟩:=I.base.tbls b ps e
  obtain⟨m2,e2⟩:=tbls b _ e1
  exact⟨m1++m2,by rw[e2,Array.append_assoc]⟩
 ·obtain⟨m,hn,hl⟩:=I.loc
  refine⟨m,ns m hn,fun i x v e1 e2 e3=>?_⟩
  obtain⟨u,r,l⟩:=hl i x v e1 e2 e3
  refine⟨u,r,?_⟩
  rcases l with l|⟨k,c,e,z⟩
  ·exact .inl l
  ·exact .inr ⟨k,c,e,cellK x c e _ z⟩
 ·obtain⟨v,z⟩:=I.cell x c e
  exact⟨v,cellK x c e v z⟩
 ·obtain⟨m,⟨o,_,_,ho,_⟩,_⟩:=I.loc
  exact free _ o (fun z=>(hch _ z).2.1 rfl) ho I.free
 ·obtain⟨v,o,ho,hd⟩:=I.cell x c e
  exact free c o (fun z=>(hch c z).2.2.1 x c e rfl) ho (I.freeC x c e)
 ·obtain⟨e,n,ne,nf,d⟩:=I.pin p hp
  have nch:p.1∉ch:=fun z=>(hch p.1 z).2.2.2 p hp rfl
  exact⟨keep p.1 p.2 ne nf nch e n,free p.1 p.2 nch e n,ne,nf,d⟩
theorem Inv.un {t':Nat} (I:Inv X pins σ H s) (u:Un X.fs [] H H' s.heap h') (hok:HOk X.prog X.w H' h'):Inv X pins σ H' {s with heap:=h',toks:=t'}:=by
 obtain⟨m,⟨o,es,ep,ho,r⟩,_⟩:=id I.loc
 obtain⟨sl,hL⟩:=u.any ho I.free (by simp)
 exact I.step (g':=s.gens) (d':=s.drawn) (ch:=[]) (fun _ z=>nomatch z) (fun b o _ hb _ e n=>u.keep b o e n hb (by simp)) (fun b o _ hb _ e n=>u.slot b o e n hb (by simp)) (fun b o _ e n=>u.free b o e n (by simp)) (fun b o _ e=>u.there b o e (by simp)) u.tups u.frzs u.tbls (fun m' hm=>by
  obtain⟨o',es',ep',ho',r'⟩:=hm
  rw[ho] at ho';cases ho'
  exact⟨_,es',ep',hL,r'⟩) hok I.bare
theorem Inv.call {g':Array GenState}{t':Nat}{d':Drawn}{ch:List Addr} (I:Inv X pins σ H s) (u:Un (frs X.stack) ch H H' s.heap h') (hok:HOk X.prog X.w H' h') (hg:AllBare g')
 (hch:∀b∈ch,(b∈X.ex∨X.s₀.heap.objs.size≤b)∧b≠X.env.locals∧(∀x c,X.env.cells.lookup x=some c→c≠b)∧∀p∈X.pn++pins,p.1≠b):
 Inv X pins σ H' {s with heap:=h',gens:=g',drawn:=d',toks:=t'}:=by
 obtain⟨m,⟨o,es,ep,ho,r⟩,_⟩:=id I.loc
 obtain⟨sl,hL⟩:=u.any ho I.free fun z=>(hch _ z).2.1 rfl
 exact I.step (ch:=ch) hch (fun b o hL hb hc e n=>u.keep b o e n (fun z=>(q0o.mp (I.stkSub b z)).elim hL hb) hc) (fun b o _ _ hc e n=>u.any e n hc) (fun b o hc e n=>u.free b o e n hc) (fun b o hc e=>u.there b o e hc) u.tups u.frzs u.tbls (fun m' hm=>by
  obtain⟨o',es',ep',ho',r'⟩:=hm
  rw[ho] at ho';cases ho'
  exact⟨_,es',ep',hL,r'⟩) hok hg
theorem Inv.turned {t':Nat}{it:Addr} (I:Inv X pins σ H s) (k:∀b o,b≠it→s.heap.get? b=some o→h'.get? b=some o) (hn:H it=none) (hL:it≠X.env.locals)
 (h1:it∈X.ex∨X.s₀.heap.objs.size≤it) (h2:∀x c,X.env.cells.lookup x=some c→c≠it) (h3:∀p∈X.pn++pins,p.1≠it):Inv X pins σ H {s with heap:=h',toks:=t'}:=by
 have nit:∀b u,H b=some u→b≠it:=fun b u e z=>by rw[z,hn] at e;cases e
 refine I.step (g':=s.gens) (d':=s.drawn) (ch:=[it]) (fun b hb=>?_) (fun b o _ _ hc e _=>k b o (fun z=>hc (by simp[z])) e) (fun b o _ _ hc e _=>⟨o.slots,k b o (fun z=>hc (by simp[z])) e⟩) (fun _ _ _ _ n=>n)
  (fun b o hc e=>⟨o,k b o (fun z=>hc (by simp[z])) e⟩) (fun _ _ e=>e) (fun _ _ _ e=>e) (fun b ps e=>⟨#[],by rw[e];simp⟩) (fun m hm=>?_) (fun b u e=>?_) I.bare
 ·have e:b=it:=by simpa using hb
  subst e
  exact⟨h1,hL,h2,h3⟩
 ·obtain⟨o,es,ep,ho,r⟩:=hm
  exact⟨o,es,ep,k _ o (Ne.symm hL) ho,r⟩
 ·refine (I.hok b u e).stay (fun c v hc q=>k c v ?_ q) (fun _ q=>q) fun _ _ q=>q
  rcases hc with z|z
  ·rw[z];exact nit b u e
  ·exact nit c _ z
theorem Inv.tok (I:Inv X pins σ H s) (t:Nat):Inv X pins σ H {s with toks:=t}:=I.un (h':=s.heap) (t':=t) Un.refl I.hok
theorem Inv.kept {t':Nat} (I:Inv X pins σ H s) (k:∀b u,s.heap.get? b=some u→h'.get? b=some u):Inv X pins σ H {s with heap:=h',toks:=t'}:=I.un (Un.kept k) (I.hok.kept k)
theorem Inv.laid {a:Addr}{o:HO}{t':Nat} (I:Inv X pins σ H s) (k:∀b u,s.heap.get? b=some u→h'.get? b=some u) (hp:s.heap.objs.size≤a) (new:ObjOk X.prog X.w (upd H a o) h' a o):
 Inv X pins σ (upd H a o) {s with heap:=h',toks:=t'}:=I.un (Un.laid k hp (I.hok.fresh hp)) (I.hok.laid k hp new)
theorem Inv.write {x e:Addr}{o:HO}{t':Nat} (I:Inv X pins σ H s) (mu:Mut (H x)) (he:e=x∨H e=some (.own x)) (k:∀b u,b≠e→s.heap.get? b=some u→h'.get? b=some u) (heo:∃u,h'.get? e=some u)
 (new:ObjOk X.prog X.w (upd H x o) h' x o):Inv X pins σ (upd H x o) {s with heap:=h',toks:=t'}:=I.un (Un.write mu he k heo) (I.hok.write mu he k heo new)
theorem Inv.pins_of {pins':List (Addr×Obj)} (I:Inv X pins σ H s) (h:∀p∈pins',s.heap.get? p.1=some p.2∧H p.1=none∧p.1≠X.env.locals∧p.1∉X.fs∧∀v,p.2.data≠ .cell v):Inv X pins' σ H s:=
 ⟨I.ok,I.os,I.bare,I.base,I.loc,I.cell,I.free,I.freeC,fun p hp=>(q0r.mp hp).elim (fun z=>I.pin p (q0N _ z)) (h p),I.hok,I.len⟩
theorem z6K {N:List Str} (hN:N.Nodup) {i j:Nat}{x:Str} (a:N[i]? =some x) (b:N[j]? =some x):i=j:=by
 obtain⟨h1,e1⟩:=q0E.mp a
 obtain⟨h2,e2⟩:=q0E.mp b
 exact (List.getElem_inj hN).mp (e1.trans e2.symm)
theorem z4W {M:Model}{A:Around}{E:Value→Shared→Prop}{i:Nat}{x:Str}{v:V}{u:Value}{Q:Unit→Shared→Prop} (I:Inv X pins σ H s) (hN:X.N.Nodup) (hi:X.N[i]? =some x) (hx:Loc X.env.scope x) (r:RelV v u)
 (h:∀s',Inv X pins (σ.set i (some v)) H s'→(∃a,Heap.SameBut a s.heap s'.heap∧(a=X.env.locals∨X.env.cells.lookup x=some a))→Q () s') (hf:X.fn x=true∨X.env.scope.names.lookup x=some .local :=by first|exact .inl rfl|exact .inr rfl|assumption):wpAny M A (storeName X.env x u) Q E s:=by
 obtain⟨m,hn,hl⟩:=id I.loc
 have hcls:(X.env.scope.kind== .class || (X.env.scope.kind== .module &&X.env.locals != X.env.globals))=false:=by rw[I.ok.kind];rfl
 have hiσ:i<σ.length:=by rw[I.len];exact (q0E.mp hi).1
 have cne:=I.cne
 have tracked:∀{a:Addr}{h':Heap},(∃o,s.heap.get? a=some o∧H a=none)→Heap.SameBut a s.heap h'→HOk X.prog X.w H h':=fun {a h'} ha hs b ob e=>by
  obtain⟨_,_,hfree⟩:=ha
  refine (I.hok b ob e).stay (fun c w' hc q=>(hs.2 c ?_).trans q) (fun _ q=>q) fun _ _ q=>q
  rintro rfl
  rcases hc with rfl|hc
  ·rw[hfree] at e;cases e
  ·rw[hfree] at hc;cases hc
 rcases hx with hk|hk
 ·refine wpAny_storeName_local hk hn (fun h' hn' hs=>?_) hcls
  obtain⟨oL,_,_,hoL,_⟩:=id hn
  refine h _ ⟨I.ok,I.os,I.bare,⟨fun b o e n hb hx=>?_,fun b o e n hb hx=>?_,I.base.free,fun b o e hx=>?_,I.base.tups,I.base.frzs,I.base.tbls⟩,⟨_,hn',fun j y v' e1 e2 e3=>?_⟩,fun y c e=>?_,I.free,I.freeC,fun p hp=>?_,tracked ⟨oL,hoL,I.free⟩ hs,by simpa using I.len⟩ ⟨_,hs,.inl rfl⟩
  ·exact (hs.2 b (q0u (q0B (q0p e) I.ok.above))).trans (I.base.keep b o e n hb hx)
  ·obtain⟨sl,e1⟩:=I.base.slot b o e n hb hx
   exact⟨sl,(hs.2 b (q0u (q0B (q0p e) I.ok.above))).trans e1⟩
  ·obtain⟨o',e1⟩:=I.base.there b o e hx
   exact⟨o',(hs.2 b (q0u (q0B (q0p e) I.ok.above))).trans e1⟩
  ·by_cases hj:j=i
   ·subst hj
    rw[hi] at e1;cases e1
    rw[List.getElem?_set_self hiσ] at e2
    cases e2
    exact⟨u,r,.inl ⟨hk,by simp⟩⟩
   ·rw[List.getElem?_set_ne (Ne.symm hj)] at e2
    obtain⟨u',r',q⟩:=hl j y v' e1 e2 e3
    refine⟨u',r',?_⟩
    rcases q with⟨k,e⟩|⟨k,c,e,z⟩
    ·refine .inl ⟨k,?_⟩
     have:y≠x:=fun e=>hj (z6K hN e1 (e▸hi))
     simp[this,e]
    ·exact .inr ⟨k,c,e,z.sameBut hs (cne y c e)⟩
  ·obtain⟨w',z⟩:=I.cell y c e
   exact⟨w',z.sameBut hs (cne y c e)⟩
  ·obtain⟨e,n,ne,nf,d⟩:=I.pin p hp
   exact⟨(hs.2 p.1 ne).trans e,n,ne,nf,d⟩
 ·have hfn:X.fn x=true:=by
   rcases hf with z|z
   ·exact z
   ·rw[z] at hk;cases hk
  obtain⟨c,hc⟩:=I.ok.has x (.inl hk)
  obtain⟨w',z⟩:=I.cell x c hc
  refine wpAny_storeName_cell I.ok.kind hk hc z (fun h' hc' hs=>?_)
  obtain⟨oc,hoc,hocd⟩:=id z
  refine h {s with heap:=h'} ⟨I.ok,I.os,I.bare,⟨fun b o e n hb hx=>?_,fun b o e n hb hx=>?_,I.base.free,fun b o e hx=>?_,I.base.tups,I.base.frzs,I.base.tbls⟩,⟨m,hn.sameBut hs (Ne.symm (cne x c hc)),fun j y v' e1 e2 e3=>?_⟩,fun y c' e=>?_,I.free,I.freeC,fun p hp=>?_,tracked ⟨oc,hoc,I.freeC x c hc⟩ hs,by simpa using I.len⟩ ⟨c,hs,.inr hc⟩
  ·exact (hs.2 b (q0u (q0B (q0p e) (I.ok.cab x c hfn hc)))).trans (I.base.keep b o e n hb hx)
  ·obtain⟨sl,e1⟩:=I.base.slot b o e n hb hx
   exact⟨sl,(hs.2 b (q0u (q0B (q0p e) (I.ok.cab x c hfn hc)))).trans e1⟩
  ·obtain⟨o',e1⟩:=I.base.there b o e hx
   exact⟨o',(hs.2 b (q0u (q0B (q0p e) (I.ok.cab x c hfn hc)))).trans e1⟩
  ·by_cases hj:j=i
   ·subst hj
    rw[hi] at e1;cases e1
    rw[List.getElem?_set_self hiσ] at e2
    cases e2
    exact⟨u,r,.inr ⟨.inl hk,c,hc,hc'⟩⟩
   ·rw[List.getElem?_set_ne (Ne.symm hj)] at e2
    obtain⟨u',r',q⟩:=hl j y v' e1 e2 e3
    refine⟨u',r',?_⟩
    rcases q with q|⟨k,c',e,z'⟩
    ·exact .inl q
    ·refine .inr ⟨k,c',e,z'.sameBut hs ?_⟩
     rintro rfl
     exact hj (z6K hN e1 (I.ok.inj _ _ _ e hc▸hi))
  ·by_cases hcc:c'=c
   ·subst hcc;exact⟨_,hc'⟩
   ·obtain⟨w2,z2⟩:=I.cell y c' e
    exact⟨w2,z2.sameBut hs hcc⟩
  ·obtain⟨e,n,ne,nf,d⟩:=I.pin p hp
   refine⟨(hs.2 p.1 ?_).trans e,n,ne,nf,d⟩
   intro q
   rw[q,hoc] at e
   have q':oc=p.2:=Option.some.inj e
   exact d w' (by rw[←q'];exact hocd)
theorem z2V {M:Model}{A:Around}{E:Value→Shared→Prop}{i:Nat}{x:Str}{v:V}{u:Value}{Q:Unit→Shared→Prop} (I:Inv X pins σ H s) (hN:X.N.Nodup) (hi:X.N[i]? =some x) (hx:Loc X.env.scope x) (r:RelV v u)
 (h:∀s',Inv X pins (σ.set i (some v)) H s'→Q () s') (hf:X.fn x=true∨X.env.scope.names.lookup x=some .local :=by first|exact .inl rfl|exact .inr rfl|assumption):wpAny M A (storeName X.env x u) Q E s:=
 z4W I hN hi hx r (fun s' I' _=>h s' I') hf
theorem Inv.call' {s':Shared}{ch:List Addr} (I:Inv X pins σ H s) (ho:s'.os=s.os) (u:Un (frs X.stack) ch H H' s.heap s'.heap) (hok:HOk X.prog X.w H' s'.heap) (hg:AllBare s'.gens)
 (hch:∀b∈ch,(b∈X.ex∨X.s₀.heap.objs.size≤b)∧b≠X.env.locals∧(∀x c,X.env.cells.lookup x=some c→c≠b)∧∀p∈X.pn++pins,p.1≠b):Inv X pins σ H' s':=by
 obtain⟨h',g',d',t',o'⟩:=s'
 have e:o'=s.os:=ho
 subst e
 exact I.call (g':=g') (t':=t') (d':=d') u hok hg hch
end
abbrev XK:=Value→Option Addr→Hp→Prop
abbrev St:=List (Option V)
abbrev VK:=V→Hp→Prop
abbrev TE:=St→Hp→VK→Prop
abbrev TT:=St→Hp→(Bool→Hp→Prop)→Prop
abbrev TA:=St→Hp→(List V→Hp→Prop)→Prop
structure y1W where
 nx:St→Hp→Prop
 rt:VK
 bk:St→Hp→Prop:=fun _ _=>False
 ct:St→Hp→Prop:=fun _ _=>False
abbrev TS:=y1W→St→Hp→Prop
def EP (X:Cx) (pins:List (Addr×Obj)) (σ:St) (Q:VK) (u:Value) (s':Shared):Prop:=∃v H',Inv X pins σ H' s'∧RelV v u∧Q v H'
def TP (X:Cx) (pins:List (Addr×Obj)) (σ:St) (Q:Bool→Hp→Prop) (b:Bool) (s':Shared):Prop:=∃H',Inv X pins σ H' s'∧Q b H'
def AP (X:Cx) (pins:List (Addr×Obj)) (σ:St) (Q:List V→Hp→Prop) (us:List Value) (s':Shared):Prop:=∃vs H',Inv X pins σ H' s'∧Vals vs us∧Q vs H'
def SP (X:Cx) (pins:List (Addr×Obj)) (D:y1W) (f:Flow) (s':Shared):Prop:=
 match f with
 | .next =>∃σ' H',Inv X pins σ' H' s'∧D.nx σ' H'
 | .brk =>∃σ' H',Inv X pins σ' H' s'∧D.bk σ' H'
 | .cont =>∃σ' H',Inv X pins σ' H' s'∧D.ct σ' H'
 | .ret u=>∃v σ' H',Inv X pins σ' H' s'∧RelV v u∧D.rt v H'
def PE (X:Cx) (e:Expr) (t:TE):Prop:=
 ∀(pins:List (Addr×Obj)) (s:Shared) (σ:St) (H:Hp) (Q:VK),Inv X pins σ H s→t σ H Q→wpAny (model X.prog X.w) X.A (eval e X.env) (EP X pins σ Q) X.xe s
def PT (X:Cx) (e:Expr) (t:TT):Prop:=
 ∀(pins:List (Addr×Obj)) (s:Shared) (σ:St) (H:Hp) (Q:Bool→Hp→Prop),Inv X pins σ H s→t σ H Q→wpAny (model X.prog X.w) X.A (isTrue e X.env (eval e X.env)) (TP X pins σ Q) X.xe s
def PW (X:Cx) (e:Expr) (t:TT):Prop:=
 ∀(whole:Sem Value) (pins:List (Addr×Obj)) (s:Shared) (σ:St) (H:Hp) (Q:Bool→Hp→Prop),Inv X pins σ H s→t σ H Q→wpAny (model X.prog X.w) X.A (isTrue e X.env whole) (TP X pins σ Q) X.xe s
theorem PW.pt {X:Cx}{e:Expr}{t:TT} (h:PW X e t):PT X e t:=h _
def PA (X:Cx) (es:List Expr) (t:TA):Prop:=
 ∀(pos:Pos) (pins:List (Addr×Obj)) (s:Shared) (σ:St) (H:Hp) (Q:List V→Hp→Prop),Inv X pins σ H s→t σ H Q→wpAny (model X.prog X.w) X.A (spliced (backTo pos (starEach es X.env))) (AP X pins σ Q) X.xe s
def PS (X:Cx) (st:Stmt) (t:TS):Prop:=
 ∀(pins:List (Addr×Obj)) (s:Shared) (σ:St) (H:Hp) (D:y1W),Inv X pins σ H s→t D σ H→wpAny (model X.prog X.w) X.A (exec st X.env) (SP X pins D) X.xe s
def PSs (X:Cx) (st:List Stmt) (t:TS):Prop:=
 ∀(pins:List (Addr×Obj)) (s:Shared) (σ:St) (H:Hp) (D:y1W),Inv X pins σ H s→t D σ H→wpAny (model X.prog X.w) X.A (execs st X.env) (SP X pins D) X.xe s
theorem thn {α:Type}{t:Sem α}{Q Q':α→Shared→Prop}{M:Model}{A:Around}{E:Value→Shared→Prop}{s:Shared} (h:wpAny M A t Q E s) (hQ:∀a s,Q a s→Q' a s):wpAny M A t Q' E s:=wpAny_mono h hQ fun _ _ x=>x
end L2
namespace L2
open PySem PySem.Spec PyProof.Rows
section
variable {X:Cx}
def tVar (i:Nat):TE:=fun σ H Q=>∃v,σ[i]? =some (some v)∧Q v H
def tC (v:V):TE:=fun _ H Q=>Q v H
theorem y3o {i:Nat}{x:Str}{pos:Pos} (hN:X.N[i]? =some x) (hv:Vis X.env.scope x) (hd:(x==("__debug__":Str))=false:=by decide) (hcd:(x==("__classdict__":Str))=false:=by decide):PE X (.Name x pos) (tVar i):=by
 intro pins s σ H Q I h
 obtain⟨v,e,h⟩:=h
 obtain⟨m,hn,hl⟩:=I.loc
 obtain⟨u,r,l⟩:=hl i x v hN e hv
 have fin:EP X pins σ Q u s:=⟨v,H,I,r,h⟩
 rcases l with⟨hk,hm⟩|⟨hk,c,hc,hcell⟩
 ·exact wpAny_Name (wpAny_loadName_local I.ok.kind hk hn hm fin) hd
 ·rcases hk with hk|hk
  ·exact wpAny_Name (wpAny_loadName_cell I.ok.kind hk hc hcell fin) hd
  ·exact wpAny_Name (wpAny_loadName_free I.ok.kind hk hc hcell fin hcd) hd
theorem z0g {i j pos}:PE X (.Constant (.int i) j pos) (tC (.int i)):=fun _ _ _ H _ I h=>wpAny_Constant_int ⟨.int i,H,I.tok _,⟨_,rfl⟩,h⟩
theorem z1W {b j pos}:PE X (.Constant (.bool b) j pos) (tC (.bl b)):=fun _ _ _ H _ I h=>Constant_bool ⟨.bl b,H,I,rfl,h⟩
theorem z9d {j pos}:PE X (.Constant .none j pos) (tC .non):=fun _ _ _ H _ I h=>Constant_none ⟨.non,H,I,rfl,h⟩
def Gl (X:Cx) (x:Str):Prop:=X.env.kindOf x=some .globalImplicit
theorem z9u {E:Value→Shared→Prop}{pins:List (Addr×Obj)}{s:Shared}{σ:St}{H:Hp}{x:Str}{u:Value}{pos:Pos}{Q:Value→Shared→Prop} (I:Inv X pins σ H s) (hg:Gl X x) (hm:X.mg x=some u) (h:Q u s)
 (hd:(x==("__debug__":Str))=false:=by decide):wpAny (model X.prog X.w) X.A (eval (.Name x pos) X.env) Q E s:=
 Calls.Name_function_global I.ok.kind hg (Calls.loadGlobal_global (by rw[I.ok.glob];exact I.mod.glob.keeps I.bk) hm h) hd
theorem z2N {E:Value→Shared→Prop}{pins:List (Addr×Obj)}{s:Shared}{σ:St}{H:Hp}{x:Str}{u:Value}{pos:Pos}{Q:Value→Shared→Prop} (I:Inv X pins σ H s) (hg:Gl X x) (hm:X.mg x=none) (hv:bootBuiltins x=some u) (h:Q u s)
 (hn:x≠"__name__":=by decide) (hd:(x==("__debug__":Str))=false:=by decide):wpAny (model X.prog X.w) X.A (eval (.Name x pos) X.env) Q E s:=by
 obtain⟨mb,h1,h2⟩:=I.mod.blt
 exact Calls.Name_function_global I.ok.kind hg (Calls.loadGlobal_builtin (by rw[I.ok.glob];exact I.mod.glob.keeps I.bk) hm (by rw[I.ok.blt];exact h1.keeps I.bk) ((h2 x hn).trans hv) h) hd
theorem y2n {x:Str}{v:V}{u:Value}{pos:Pos} (hg:Gl X x) (hm:X.mg x=some u) (r:RelV v u) (hd:(x==("__debug__":Str))=false:=by decide):PE X (.Name x pos) (tC v):=
 fun _ _ _ H _ I h=>z9u I hg hm ⟨v,H,I,r,h⟩ hd
theorem z2e {x:Str}{v:V}{u:Value}{pos:Pos} (hg:Gl X x) (hm:X.mg x=none) (hv:bootBuiltins x=some u) (r:RelV v u) (hn:x≠"__name__":=by decide) (hd:(x==("__debug__":Str))=false:=by decide):PE X (.Name x pos) (tC v):=
 fun _ _ _ H _ I h=>z2N I hg hm hv ⟨v,H,I,r,h⟩ hn hd
variable {a b:Expr}{ta tb:TE}{pos:Pos}
def PC (X:Cx) (op:CmpOp) (a b:Expr) (t:TE):Prop:=
 ∀(pins:List (Addr×Obj)) (s:Shared) (σ:St) (H:Hp) (Q:VK),Inv X pins σ H s→t σ H Q→
  wpAny (model X.prog X.w) X.A (eval a X.env) (fun v s₁=>wpAny (model X.prog X.w) X.A (eval b X.env) (fun u s₂=>wpAny (model X.prog X.w) X.A (compareOp op v u) (EP X pins σ Q) X.xe s₂) X.xe s₁) X.xe s
theorem y0Y (b:Expr) {op:CmpOp} (h:op≠ .In) (h2:op≠ .NotIn):behindInMarks op b=false:=by
 have e1:(op==CmpOp.In)=false:=by cases op<;>first|rfl|exact absurd rfl h
 have e2:(op==CmpOp.NotIn)=false:=by cases op<;>first|rfl|exact absurd rfl h2
 cases b<;>simp[behindInMarks,e1,e2]
def tIsN (ta:TE):TE:=fun σ H Q=>ta σ H fun x H1=>Q (.bl (decide (x= .non))) H1
def tNotN (ta:TE):TE:=fun σ H Q=>ta σ H fun x H1=>Q (.bl (!decide (x= .non))) H1
theorem RelV.none_iff {x:V}{v:Value} (r:RelV x v):(v==Value.none)=decide (x= .non):=by
 cases x with
 |non=>cases r;rfl
 |bl _=>cases r;rfl
 |int _=>obtain⟨t,rfl⟩:=r;rfl
 |str _=>obtain⟨t,rfl⟩:=r;rfl
 |byt _=>obtain⟨t,rfl⟩:=r;rfl
 |flt _=>obtain⟨t,rfl⟩:=r;rfl
 |ref _=>cases r;rfl
 |ty _=>cases r;rfl
theorem y3t {j pos'} (ha:PE X a ta):PC X .Is a (.Constant .none j pos') (tIsN ta):=by
 intro pins s σ H Q I h
 refine thn (ha pins s σ H _ I h) fun v s1 ⟨x,H1,I1,r1,q1⟩=>?_
 exact Constant_none (is_none_gen ⟨.bl _,H1,I1,by rw[r1.none_iff];rfl,q1⟩)
theorem z9f {j pos'} (ha:PE X a ta):PC X .IsNot a (.Constant .none j pos') (tNotN ta):=by
 intro pins s σ H Q I h
 refine thn (ha pins s σ H _ I h) fun v s1 ⟨x,H1,I1,r1,q1⟩=>?_
 exact Constant_none (isnot_none_gen ⟨.bl _,H1,I1,by rw[r1.none_iff];rfl,q1⟩)
def tB (t:TE):TT:=fun σ H Q=>t σ H fun x H1=>∃c,x= .bl c∧Q c H1
theorem z8W {op:CmpOp}{t:TE} (h:PC X op a b t) (h1:behindInMarks op b=false:=by first|exact y0Y _ (by decide) (by decide)|rfl):PT X (.Compare a [op] [b] pos) (tB t):=by
 intro pins s σ H Q I hw
 refine wpAny_isTrue_Compare1 (thn (h pins s σ H _ I hw) fun v s1 h1=>thn h1 fun u s2 h2=>thn h2 fun c s3 ⟨x,H1,I1,r1,q1⟩=>?_) h1
 obtain⟨d,rfl,q⟩:=q1
 cases r1
 exact wpAny_truthy_bool ⟨H1,I1,q⟩
theorem z1y {e:Expr}{t:TE} (h:PE X e t) (he:∀whole,isTrue e X.env whole=(do let v ←whole;standAt e.pos;holding [v] (truthy v)):=by intro _;rfl):PT X e (tB t):=by
 intro pins s σ H Q I hw
 refine isTrue_plain (thn (h pins s σ H _ I hw) fun v s1 ⟨x,H1,I1,r1,q1⟩=>?_) (he _)
 obtain⟨d,rfl,q⟩:=q1
 cases r1
 exact wpAny_truthy_bool ⟨H1,I1,q⟩
variable {tA tB':TT}{rest:List Expr}
def tAnd (t u:TT):TT:=fun σ H Q=>t σ H fun c H1=>if c=true then u σ H1 Q else Q false H1
def tOr (t u:TT):TT:=fun σ H Q=>t σ H fun c H1=>if c=true then Q true H1 else u σ H1 Q
def tNot (t:TT):TT:=fun σ H Q=>t σ H fun c H1=>Q (!c) H1
theorem y2i (ha:PT X a tA):PW X (.BoolOp .And [a] pos) tA:=by
 intro wh pins s σ H Q I h
 refine isTrue_and (thn (ha pins s σ H Q I h) fun c s1 e=>?_)
 cases c with
 |true=>exact isTrue_and_nil e
 |false=>exact e
theorem z8T (ha:PT X a tA):PW X (.BoolOp .Or [a] pos) tA:=by
 intro wh pins s σ H Q I h
 refine isTrue_or (thn (ha pins s σ H Q I h) fun c s1 e=>?_)
 cases c with
 |false=>exact isTrue_or_nil e
 |true=>exact e
theorem y3j (ha:PT X a tA) (hb:PW X (.BoolOp .And (b::rest) pos) tB'):PW X (.BoolOp .And (a::b::rest) pos) (tAnd tA tB'):=by
 intro wh pins s σ H Q I h
 refine isTrue_and (thn (ha pins s σ H _ I h) fun c s1 ⟨H1,I1,q1⟩=>?_)
 cases c with
 |true=>exact hb wh pins s1 σ H1 Q I1 q1
 |false=>exact⟨H1,I1,q1⟩
theorem z8U (ha:PT X a tA) (hb:PW X (.BoolOp .Or (b::rest) pos) tB'):PW X (.BoolOp .Or (a::b::rest) pos) (tOr tA tB'):=by
 intro wh pins s σ H Q I h
 refine isTrue_or (thn (ha pins s σ H _ I h) fun c s1 ⟨H1,I1,q1⟩=>?_)
 cases c with
 |true=>exact⟨H1,I1,q1⟩
 |false=>exact hb wh pins s1 σ H1 Q I1 q1
theorem z1M (ha:PT X a tA):PT X (.UnaryOp .Not a pos) (tNot tA):=by
 intro pins s σ H Q I h
 exact isTrue_not (ha pins s σ H (fun c H1=>Q (!c) H1) I h)
def tAndV (ta tb:TE):TE:=fun σ H Q=>ta σ H fun x H1=>∃c,x= .bl c∧if c=true then tb σ H1 Q else Q (.bl false) H1
def tNotV (ta:TE):TE:=fun σ H Q=>ta σ H fun x H1=>∃c,x= .bl c∧Q (.bl (!c)) H1
theorem y3p {op}{t:TE} (h:PE X a t):PE X (.BoolOp op [a] pos) t:=fun pins s σ H Q I hw=>BoolOp_one (h pins s σ H Q I hw)
theorem y3s (ha:PE X a ta) (hb:PE X (.BoolOp .And (b::rest) pos) tb):PE X (.BoolOp .And (a::b::rest) pos) (tAndV ta tb):=by
 intro pins s σ H Q I h
 refine BoolOp_and (thn (ha pins s σ H _ I h) fun v s1 ⟨x,H1,I1,r1,q1⟩=>?_)
 obtain⟨c,rfl,q1⟩:=q1
 cases r1
 refine wpAny_truthy_bool ?_
 cases c with
 |true=>exact hb pins s1 σ H1 Q I1 q1
 |false=>exact⟨.bl false,H1,I1,rfl,q1⟩
theorem y3q (ha:PE X a ta):PE X (.UnaryOp .Not a pos) (tNotV ta):=by
 intro pins s σ H Q I h
 refine UnaryOp_ (thn (ha pins s σ H _ I h) fun v s1 ⟨x,H1,I1,r1,q1⟩=>?_)
 obtain⟨c,rfl,q1⟩:=q1
 cases r1
 exact not_of (wpAny_truthy_bool ⟨.bl (!c),H1,I1,rfl,q1⟩)
end
end L2
namespace L2
open PySem PySem.Spec PyProof.Rows
def SqL (K:PySem.W.Frag) (H:Hp) (a:Addr) (xs:List V):Prop:=
 Rd H a (.lst xs)∨
    ∃(o:Obj) (its:Array Value) (n:Nat),K.lookup a=some o∧o.cls= .type "list"∧o.dict=none∧o.data= .seq its n∧its.size≤sizeLine∧Vals xs its.toList
def SqT (K:PySem.W.Frag) (H:Hp) (a:Addr) (xs:List V):Prop:=
 Rd H a (.tup xs)∨
    ∃(o:Obj) (its:Array Value) (n:Nat),K.lookup a=some o∧o.cls= .type "tuple"∧o.data= .seq its n∧its.size≤sizeLine∧Vals xs its.toList
def absV:Value→Option V
 | .none =>some .non
 | .bool b=>some (.bl b)
 | .int i _=>some (.int i)
 | .str x _=>some (.str x)
 | .bytes b _=>some (.byt b)
 | .float b _=>some (.flt b)
 | .ref a=>some (.ref a)
 | .type n=>some (.ty n)
 |_=>none
theorem RelV.abs {x:V}{u:Value} (r:RelV x u):absV u=some x:=by
 cases x with
 |non=>cases r;rfl
 |bl _=>cases r;rfl
 |int _=>obtain⟨t,rfl⟩:=r;rfl
 |str _=>obtain⟨t,rfl⟩:=r;rfl
 |byt _=>obtain⟨t,rfl⟩:=r;rfl
 |flt _=>obtain⟨t,rfl⟩:=r;rfl
 |ref _=>cases r;rfl
 |ty _=>cases r;rfl
theorem RelV.inj {x y:V}{u:Value} (r:RelV x u) (q:RelV y u):x=y:=Option.some.inj (r.abs.symm.trans q.abs)
theorem Vals.inj:∀{xs ys:List V}{us:List Value},Vals xs us→Vals ys us→xs=ys
 |_,_,_,.nil,.nil =>rfl
 |_,_,_,.cons r t,.cons r' t'=>by rw[r.inj r',Vals.inj t t']
section
variable {X:Cx}{pins:List (Addr×Obj)}{σ:St}{H:Hp}{s:Shared}{a:Addr}{xs ys:List V}
theorem SqL.of {K:PySem.W.Frag} (h:H a=some (.lst xs)):SqL K H a xs:= .inl (.inl h)
theorem SqT.of {K:PySem.W.Frag} (h:H a=some (.tup xs)):SqT K H a xs:= .inl (.inl h)
theorem Inv.list (I:Inv X pins σ H s) (h:SqL X.K H a xs):∃its:List Value,Vals xs its∧PlainL s.heap a its.toArray∧xs.length≤sizeLine:=by
 rcases h with h|⟨o,its,n,hk,hc,hd,hs,hz,r⟩
 ·obtain⟨z,its,n,r,e⟩:=h.ok I.hok
  exact⟨its,r,⟨_,n,e,rfl,rfl,rfl⟩,z⟩
 ·refine⟨its.toList,r,⟨o,n,I.kIn a o hk,hc,hd,by simpa using hs⟩,?_⟩
  have e:=r.length
  simp only[q0K] at e
  lia
theorem Inv.tuple (I:Inv X pins σ H s) (h:SqT X.K H a xs):∃its:List Value,Vals xs its∧IsTup s.heap a its.toArray∧xs.length≤sizeLine:=by
 rcases h with h|⟨o,its,n,hk,hc,hs,hz,r⟩
 ·obtain⟨z,its,r,p⟩:=h.ok I.hok
  exact⟨its,r,p,z⟩
 ·refine⟨its.toList,r,⟨o,I.kIn a o hk,hc,n,by simpa using hs⟩,?_⟩
  have e:=r.length
  simp only[q0K] at e
  lia
theorem Inv.list_inj (I:Inv X pins σ H s) (h:SqL X.K H a xs) (h':SqL X.K H a ys):xs=ys:=by
 obtain⟨its,r,⟨o,n,e,_,_,d⟩,_⟩:=I.list h
 obtain⟨its',r',⟨o',n',e',_,_,d'⟩,_⟩:=I.list h'
 rw[e] at e';cases e'
 rw[d] at d'
 injection d' with d1 _
 have:its=its':=by simpa using congrArg Array.toList d1
 subst this
 exact r.inj r'
theorem Inv.tuple_inj (I:Inv X pins σ H s) (h:SqT X.K H a xs) (h':SqT X.K H a ys):xs=ys:=by
 obtain⟨its,r,⟨o,e,_,n,d⟩,_⟩:=I.tuple h
 obtain⟨its',r',⟨o',e',_,n',d'⟩,_⟩:=I.tuple h'
 rw[e] at e';cases e'
 rw[d] at d'
 injection d' with d1 _
 have:its=its':=by simpa using congrArg Array.toList d1
 subst this
 exact r.inj r'
end
abbrev Cx.wish (X:Cx) (E:Value→Shared→Prop):Cx:={X with xe:=E}
abbrev Cx.nox (X:Cx):Cx:=X.wish fun _ _=>False
theorem Cx.Ok.wish {X:Cx} (ok:X.Ok) (E:Value→Shared→Prop):(X.wish E).Ok :=
 ⟨ok.mod,ok.kind,ok.glob,ok.blt,ok.above,ok.inj,ok.has,ok.cab,ok.hd,ok.frames,ok.stk,ok.exf,ok.bs,ok.bsz,ok.noex,ok.exfs,ok.funs,ok.frf⟩
theorem Cx.Ok.unwish {X:Cx}{E:Value→Shared→Prop} (ok:(X.wish E).Ok):X.Ok:=
 ⟨ok.mod,ok.kind,ok.glob,ok.blt,ok.above,ok.inj,ok.has,ok.cab,ok.hd,ok.frames,ok.stk,ok.exf,ok.bs,ok.bsz,ok.noex,ok.exfs,ok.funs,ok.frf⟩
section
variable {X:Cx}{pins:List (Addr×Obj)}{σ:St}{H:Hp}{s:Shared}{E:Value→Shared→Prop}
theorem Inv.wish (I:Inv X pins σ H s) (E:Value→Shared→Prop):Inv (X.wish E) pins σ H s:=⟨I.ok.wish E,I.os,I.bare,I.base,I.loc,I.cell,I.free,I.freeC,I.pin,I.hok,I.len⟩
theorem Inv.unwish (I:Inv (X.wish E) pins σ H s):Inv X pins σ H s:=⟨I.ok.unwish,I.os,I.bare,I.base,I.loc,I.cell,I.free,I.freeC,I.pin,I.hok,I.len⟩
theorem SP.unwish {D:y1W}{f:Flow}{s':Shared} (h:SP (X.wish E) pins D f s'):SP X pins D f s':=by
 cases f with
 |next=>obtain⟨σ',H',I,q⟩:=h;exact⟨σ',H',I.unwish,q⟩
 |brk=>obtain⟨σ',H',I,q⟩:=h;exact⟨σ',H',I.unwish,q⟩
 |cont=>obtain⟨σ',H',I,q⟩:=h;exact⟨σ',H',I.unwish,q⟩
 |ret u=>obtain⟨v,σ',H',I,r,q⟩:=h;exact⟨v,σ',H',I.unwish,r,q⟩
theorem PSs.nox {st:List Stmt}{t:TS} (h:PSs X.nox st t):PSs X st t:=fun pins s σ H D I hw=>
 wpAny_mono (h pins s σ H D (I.wish _) hw) (fun _ _ q=>q.unwish) fun _ _ z=>False.elim z
end
section
variable {X:Cx}{st:Stmt}{rest:List Stmt}{t u:TS}{e:Expr}{te:TE}{pos:Pos}
def tNext:TS:=fun D σ H=>D.nx σ H
def tSeq (t u:TS):TS:=fun D σ H=>t {D with nx:=u D} σ H
theorem z0v:PSs X [] tNext:=fun _ _ σ H _ I h=>wpAny_execs_nil ⟨σ,H,I,h⟩
theorem z0c (h1:PS X st t) (h2:PSs X rest u):PSs X (st::rest) (tSeq t u):=by
 intro pins s σ H D I h
 refine wpAny_execs_cons (thn (h1 pins s σ H {D with nx:=u D} I h) fun f s1 q=>?_)
 cases f with
 |next=>
  obtain⟨σ',H',I',q⟩:=q
  exact h2 pins s1 σ' H' D I' q
 |ret v=>exact q
 |brk=>exact q
 |cont=>exact q
theorem z0i (h1:PS X st t):PSs X [st] t:=by
 intro pins s σ H D I h
 refine wpAny_execs_cons (thn (h1 pins s σ H D I h) fun f s1 q=>?_)
 cases f with
 |next=>exact wpAny_execs_nil q
 |ret v=>exact q
 |brk=>exact q
 |cont=>exact q
theorem Inv.quiet {pins:List (Addr×Obj)}{σ:St}{H:Hp}{s:Shared} (I:Inv X pins σ H s):interactive X.env=false:=by simp[interactive,I.ok.kind]
def tDrop (te:TE):TS:=fun D σ H=>te σ H fun _ H1=>D.nx σ H1
theorem z1C (he:PE X e te) (hs:swapsWith e none pos.line X.env=pure false:=by rfl):PS X (.Expr e pos) (tDrop te):=by
 intro pins s σ H D I h
 exact wpAny_Expr_any (thn (he pins s σ H _ I h) fun v s1 ⟨x,H1,I1,r1,q1⟩=>⟨σ,H1,I1,q1⟩) I.quiet hs
def tRet (te:TE):TS:=fun D σ H=>te σ H D.rt
theorem z0y (he:PE X e te):PS X (.Return (some e) pos) (tRet te):=by
 intro pins s σ H D I h
 exact wpAny_Return_some (thn (he pins s σ H _ I h) fun v s1 ⟨x,H1,I1,r1,q1⟩=>⟨x,σ,H1,I1,r1,q1⟩)
def tIfS (c:TT) (t u:TS):TS:=fun D σ H=>c σ H fun b H1=>if b=true then t D σ H1 else u D σ H1
theorem z0O {c:Expr}{a b:List Stmt}{tc:TT} (hc:PT X c tc) (ha:PSs X a t) (hb:PSs X b u):PS X (.If c a b pos) (tIfS tc t u):=by
 intro pins s σ H D I h
 refine wpAny_If (thn (hc pins s σ H _ I h) fun d s1 ⟨H1,I1,q1⟩=>?_)
 cases d with
 |true=>exact ha pins s1 σ H1 D I1 q1
 |false=>exact hb pins s1 σ H1 D I1 q1
def y2T:TS:=fun _ _ _=>False
theorem y0G:PS X st y2T:=fun _ _ _ _ _ _ h=>h.elim
end
abbrev TG:=V→St→Hp→(St→Hp→Prop)→Prop
abbrev TGs:=List V→St→Hp→(St→Hp→Prop)→Prop
def PG (X:Cx) (target:Expr) (t:TG):Prop:=
 ∀(pins:List (Addr×Obj)) (s:Shared) (σ:St) (H:Hp) (v:V) (u:Value) (Q:St→Hp→Prop),Inv X pins σ H s→RelV v u→t v σ H Q→
  wpAny (model X.prog X.w) X.A (assign target X.env u) (fun _ s'=>∃σ' H',Inv X pins σ' H' s'∧Q σ' H') X.xe s
def PGs (X:Cx) (ts:List Expr) (t:TGs):Prop:=
 ∀(pins:List (Addr×Obj)) (s:Shared) (σ:St) (H:Hp) (vs:List V) (us:List Value) (Q:St→Hp→Prop),Inv X pins σ H s→Vals vs us→t vs σ H Q→
  wpAny (model X.prog X.w) X.A (assignInOrder ((assignEach ts X.env).map (·.2)) us) (fun _ s'=>∃σ' H',Inv X pins σ' H' s'∧Q σ' H') X.xe s
abbrev TSet:=V→V→V→Hp→(Hp→Prop)→Prop
def PSet (X:Cx) (t:TSet):Prop:=
 ∀(pins:List (Addr×Obj)) (s:Shared) (σ:St) (H:Hp) (o i v:V) (ov iv u:Value) (Q:Hp→Prop),Inv X pins σ H s→RelV o ov→RelV i iv→RelV v u→t o i v H Q→
  wpAny (model X.prog X.w) X.A (setItem ov iv u) (fun _ s'=>∃H',Inv X pins σ H' s'∧Q H') X.xe s
section
variable {X:Cx}{pos:Pos}
def z8b (i:Nat):TG:=fun v σ H Q=>Q (σ.set i (some v)) H
theorem z0k {i:Nat}{x:Str} (hN:X.N.Nodup) (hi:X.N[i]? =some x) (hx:Loc X.env.scope x) (hf:X.fn x=true∨X.env.scope.names.lookup x=some .local :=by first|exact .inl rfl|exact .inr rfl|assumption):PG X (.Name x pos) (z8b i):=by
 intro pins s σ H v u Q I r h
 exact wpAny_assign_Name (z2V I hN hi hx r (fun s' I'=>⟨_,H,I',h⟩) hf)
def gNil:TGs:=fun vs σ H Q=>vs=[]∧Q σ H
def gCons (t:TG) (u:TGs):TGs:=fun vs σ H Q=>∃v r,vs=v::r∧t v σ H fun σ' H'=>u r σ' H' Q
theorem z1g:PGs X [] gNil:=by
 intro pins s σ H vs us Q I r h
 obtain⟨e,h⟩:=h
 subst e
 cases r
 exact assignInOrder_nil ⟨σ,H,I,h⟩
theorem z0t {e:Expr}{es:List Expr}{t:TG}{u:TGs} (h1:PG X e t) (h2:PGs X es u)
 (hs:(assignEach (e::es) X.env).map (·.2)=assign e X.env::(assignEach es X.env).map (·.2):=by rfl):PGs X (e::es) (gCons t u):=by
 intro pins s σ H vs us Q I r h
 obtain⟨v,vr,e1,h⟩:=h
 subst e1
 cases r with
 |cons r rr=>
  rw[hs]
  refine assignInOrder_cons (thn (h1 pins s σ H _ _ _ I r h) fun _ s1 ⟨σ1,H1,I1,q1⟩=>?_)
  exact h2 pins s1 σ1 H1 _ _ Q I1 rr q1
def gTup (K:PySem.W.Frag) (n:Nat) (t:TGs):TG:=fun v σ H Q=>∃a xs,v= .ref a∧SqT K H a xs∧xs.length=n∧t xs σ H Q
theorem y3n {es:List Expr}{k:Nat}{t:TGs}{n:Nat} (hc:X.calm=true) (h:PGs X es t)
 (hn:(assignEach es X.env).length =n:=by rfl) (hst:(assignEach es X.env).findIdx? (·.1)=none:=by rfl):PG X (.Tuple es k pos) (gTup X.K n t):=by
 intro pins s σ H v u Q I r hw
 obtain⟨a,xs,e1,hq,hl,hw⟩:=hw
 subst e1
 cases r
 obtain⟨its,rv,ht,hz⟩:=I.tuple hq
 refine assign_Tuple_tuple (I.ok.hd hc) ht (by simp[hn,←hl,rv.length]) hst fun h' hx=>?_
 have I1:Inv X pins σ H {s with heap:=h'}:=I.kept (t':=s.toks) fun b o e=>hx b o (q0u (q0p e)) e
 exact h pins _ σ H xs _ Q I1 (by simpa using rv) hw
def gSub (to ti:TE) (t:TSet):TG:=fun v σ H Q=>to σ H fun o H1=>ti σ H1 fun i H2=>t o i v H2 fun H3=>Q σ H3
theorem z4e {o i:Expr}{to ti:TE}{t:TSet} (ho:PE X o to) (hi:PE X i ti) (hs:PSet X t)
 (ha:∀v,assign (.Subscript o i pos) X.env v=(do
  let ov ←holding [v] (eval o X.env)
  let iv ←holding [v,ov] (eval i X.env)
  standAt pos
  holding [v,ov,iv] (setItem ov iv v)
  release [v,ov,iv] []):=by intro _;rfl):PG X (.Subscript o i pos) (gSub to ti t):=by
 intro pins s σ H v u Q I r h
 rw[ha]
 refine wpAny_bind (wpAny_holding (thn (ho pins s σ H _ I h) fun ov s1 ⟨x,H1,I1,r1,q1⟩=>?_))
 refine wpAny_bind (wpAny_holding (thn (hi pins s1 σ H1 _ I1 q1) fun iv s2 ⟨y,H2,I2,r2,q2⟩=>?_))
 refine wpAny_bind (wpAny_standAt (wpAny_bind (wpAny_holding (thn (hs pins s2 σ H2 x y v ov iv u _ I2 r1 r2 r q2) fun _ s3 ⟨H3,I3,q3⟩=>?_))))
 exact wpAny_release ⟨σ,H3,I3,q3⟩
def tAsg (te:TE) (g:TG):TS:=fun D σ H=>te σ H fun x H1=>g x σ H1 D.nx
theorem z2K {tg e:Expr}{te:TE}{g:TG} (he:PE X e te) (hg:PG X tg g) (hs:swapsWithSole [tg] e pos.line X.env=pure false:=by rfl) (hw:swappedStores [tg] e X.env=pure none:=by rfl)
 (h1:(assignEach [tg] X.env).map (·.2)=[assign tg X.env]:=by rfl):PS X (.Assign [tg] e pos) (tAsg te g):=by
 intro pins s σ H D I h
 refine wpAny_Assign_stores (thn (he pins s σ H _ I h) fun v s1 ⟨x,H1,I1,r1,q1⟩=>?_) hs hw
 rw[h1]
 exact thn (hg pins s1 σ H1 x v _ I1 r1 q1) fun _ s2 q=>q
theorem z0p {i:Nat}{x:Str}{e:Expr}{te:TE}{pos':Pos} (hN:X.N.Nodup) (hi:X.N[i]? =some x) (hx:Loc X.env.scope x) (he:PE X e te) (hs:swapsWith e (some (.Name x pos')) pos.line X.env=pure false:=by rfl) (hf:X.fn x=true∨X.env.scope.names.lookup x=some .local :=by first|exact .inl rfl|exact .inr rfl|assumption):
 PS X (.Assign [.Name x pos'] e pos) (tAsg te (z8b i)):=by
 intro pins s σ H D I h
 refine wpAny_Assign_Name (thn (he pins s σ H _ I h) fun v s1 ⟨y,H1,I1,r1,q1⟩=>?_) hs
 exact z2V I1 hN hi hx r1 (fun s2 I2=>⟨_,H1,I2,q1⟩) hf
def tPar (i j:Nat) (ta:TA):TS:=fun D σ H=>ta σ H fun vs H1=>∃v w,vs=[v,w]∧D.nx ((σ.set i (some v)).set j (some w)) H1
theorem y3l {i j:Nat}{x y:Str}{a b:Expr}{ta:TA}{px py pt:Pos} {kt k2 pt2} (hc:X.calm=true) (hN:X.N.Nodup) (hi:X.N[i]? =some x) (hj:X.N[j]? =some y) (hij:i≠j)
 (hx:X.env.scope.names.lookup x=some .local) (hy:X.env.scope.names.lookup y=some .local) (ha:PA X [a,b] ta)
 (hw:swappedStores [.Tuple [.Name x px,.Name y py] kt pt] (.Tuple [a,b] k2 pt2) X.env=pure (some [x,y]))
 (hs:swapsWithSole [.Tuple [.Name x px,.Name y py] kt pt] (.Tuple [a,b] k2 pt2) pos.line X.env=pure false:=by rfl):
 PS X (.Assign [.Tuple [.Name x px,.Name y py] kt pt] (.Tuple [a,b] k2 pt2) pos) (tPar i j ta):=by
 intro pins s σ H D I h
 rw[exec_Assign_arm]
 refine wpAny_bind (wpAny_standAt ?_)
 rw[hs]
 refine wpAny_bind (wpAny_pure ?_)
 rw[if_neg (by decide)]
 refine wpAny_bind (Tuple_ (thn (ha _ pins s σ H _ I h) fun us s1 ⟨vs,H1,I1,r1,q1⟩=>?_))
 obtain⟨v,w,e1,q1⟩:=q1
 subst e1
 obtain⟨u1,u2,rfl,rv,rw'⟩:∃u1 u2,us=[u1,u2]∧RelV v u1∧RelV w u2:=by
  cases r1 with
  |cons p q=>
   cases q with
   |cons p' q'=>
    cases q'
    exact⟨_,_,rfl,p,p'⟩
 refine wpAny_newObj_type ?_ (by show 2≤sizeLine;decide)
 have I2:Inv X pins σ H1 {s1 with heap:=s1.heap.push {cls:= .type "tuple",data:= .seq [u1,u2].toArray}}:=I1.kept (t':=s1.toks) fun b o e=>q0d _ e
 rw[hw]
 refine wpAny_bind (wpAny_pure ?_)
 show wpAny (model X.prog X.w) X.A (do rule "assign.swapped-stores";let items ←unpackItems (.ref s1.heap.objs.size) 2 none;assignInOrder [fun v=>bindName X.env y v,fun v=>bindName X.env x v] items.reverse;pure Flow.next) _ _ _
 refine wpAny_bind (wpAny_rule (wpAny_bind (unpackItems_tuple (items:= #[u1,u2]) (I.ok.hd hc) (IsTup.new s1.heap _) fun h' hx'=>?_)))
 have I3:=I2.kept (h':=h') (t':=s1.toks) fun b o e=>hx' b o (q0u (q0p e)) e
 show wpAny _ _ (assignInOrder [fun v=>bindName X.env y v,fun v=>bindName X.env x v] [u2,u1]>>= fun _=>pure Flow.next) _ _ _
 refine wpAny_bind (assignInOrder_cons (wpAny_bindName (z2V I3 hN hj (.inl hy) rw' (fun s2 I4=>?_) (.inr hy))))
 refine assignInOrder_cons (wpAny_bindName (z2V I4 hN hi (.inl hx) rv (fun s3 I5=>assignInOrder_nil (wpAny_pure ?_)) (.inr hx)))
 rw[List.set_comm _ _ (Ne.symm hij)] at I5
 exact⟨_,H1,I5,q1⟩
end
section
variable {X:Cx}{pos:Pos}
def y1v (c:TT) (tb:TS):TS:=fun D σ H=>∃W:Nat→St→Hp→Prop,(∃m,W m σ H)∧∀m σ H,W m σ H→
 c σ H fun b H1=>if b=true then ∃N:St→Hp→Prop,(∀σ' H',N σ' H'→∃m',m'<m∧W m' σ' H')∧tb {D with nx:=N,ct:=N,bk:=D.nx} σ H1 else D.nx σ H1
theorem z6H {c:Expr}{body:List Stmt}{tc:TT}{tb:TS} (hp:PassesOwn (model X.prog X.w) X.A X.env X.xe) (hc:PT X c tc) (hb:PSs X body tb):PS X (.While c body [] pos) (y1v tc tb):=by
 intro pins s σ H D I h
 obtain⟨W,⟨m0,w0⟩,turn⟩:=h
 refine wpAny_While (codeAny_whileLoop (fun n s'=>∃σ' H',Inv X pins σ' H' s'∧W n σ' H') ?_ m0 ⟨σ,H,I,w0⟩)
 rintro n s1 ⟨σ1,H1,I1,w1⟩
 refine wpAny_passesOwn hp (thn (hc pins s1 σ1 H1 _ I1 (turn n σ1 H1 w1)) fun b s2 ⟨H2,I2,q2⟩=>?_)
 cases b with
 |true=>
  obtain⟨N,hN,q2⟩:=q2
  rw[if_pos rfl]
  refine wpAny_passesOwn hp (thn (hb pins s2 σ1 H2 _ I2 q2) fun f s3 q3=>?_)
  cases f with
  |next=>
   obtain⟨σ3,H3,I3,n3⟩:=q3
   obtain⟨m',hm,w3⟩:=hN σ3 H3 n3
   exact⟨m',hm,σ3,H3,I3,w3⟩
  |cont=>
   obtain⟨σ3,H3,I3,n3⟩:=q3
   obtain⟨m',hm,w3⟩:=hN σ3 H3 n3
   exact⟨m',hm,σ3,H3,I3,w3⟩
  |brk=>exact q3
  |ret v=>exact q3
 |false=>
  rw[if_neg q0y]
  exact wpAny_execs_nil ⟨σ1,H2,I2,q2⟩
end
structure It where
 go:Nat→Hp→Prop
 yld:Nat→Hp→V→Hp→Prop
 stop:Nat→Hp→Prop
def y0j (X:Cx) (pins:List (Addr×Obj)) (H:Hp) (b:Addr):Prop:=
 H b=none∧b≠X.env.locals∧b∉X.fs∧(b∈X.ex∨X.s₀.heap.objs.size≤b)∧(∀x c,X.env.cells.lookup x=some c→c≠b)∧∀p∈X.pn++pins,p.1≠b
theorem Inv.fpOk {X:Cx}{pins:List (Addr×Obj)}{σ:St}{H H':Hp}{s:Shared}{b:Addr} (I:Inv X pins σ H s) (hb:s.heap.objs.size≤b) (hn:H' b=none):y0j X pins H' b:=by
 refine⟨hn,q1w (q0B I.lt hb),I.nofs hb,.inr (q0q I.sz hb),fun x c e z=>?_,fun p hp z=>?_⟩
 ·obtain⟨v,q⟩:=I.cell x c e
  exact absurd (q0B q.lt (by rw[z];exact hb)) (q1l _)
 ·exact absurd (q0B (q0p (I.pin p hp).1) (by rw[z];exact hb)) (q1l _)
structure y1V (P:Program) (w:World) (K:PySem.W.Frag) (tg:Expr) (J:It) (fp:List Addr) (it:Addr) (tn:Nat→Heap→Prop):Prop where
 mem:it∈fp
 obj:∀i h,tn i h→∀b∈fp,∃o,h.get? b=some o∧∀v,o.data≠ .cell v
 keep:∀i h h',tn i h→(∀b∈fp,∀o,h.get? b=some o→h'.get? b=some o)→tn i h'
 item:∀(X:Cx),X.prog=P→X.w=w→X.K=K→X.calm=true→∀(i:Nat) (pins:List (Addr×Obj)) (s:Shared) (σ:St) (H:Hp) (E:Value→Shared→Prop),Inv X pins σ H s→(∀b∈fp,y0j X pins H b)→tn i s.heap→J.go i H→
  wpAny (model P w) X.A (pyNext (.ref it)) (fun r s1=>∃u,r=some u∧
   wpAny (model P w) X.A (letOwnedTupleGo tg (.ref it) u) (fun _ s2=>∃x H',Inv X pins σ H' s2∧RelV x u∧J.yld i H x H'∧tn (i+1) s2.heap∧∀b∈fp,H' b=none) E s1) E s
 done:∀(X:Cx),X.prog=P→X.w=w→X.K=K→X.calm=true→∀(i:Nat) (pins:List (Addr×Obj)) (s:Shared) (σ:St) (H:Hp) (E:Value→Shared→Prop),Inv X pins σ H s→(∀b∈fp,y0j X pins H b)→tn i s.heap→J.stop i H→
  wpAny (model P w) X.A (pyNext (.ref it)) (fun r s1=>r=none∧Inv X pins σ H s1) E s
 self:∀(A:Around) (i:Nat) (s:Shared) (Q:Value→Shared→Prop) (E:Value→Shared→Prop),tn i s.heap→Q (.ref it) s→wpAny (model P w) A (pyIter (.ref it)) Q E s
abbrev TI:=St→Hp→(It→Hp→Prop)→Prop
def PIE (X:Cx) (pins:List (Addr×Obj)) (σ:St) (tg:Expr) (R:It→Hp→Prop) (itv:Value) (s2:Shared):Prop:=
 ∃(it:Addr) (fp:List Addr) (tn:Nat→Heap→Prop) (J:It) (H':Hp),itv= .ref it∧Inv X pins σ H' s2∧y1V X.prog X.w X.K tg J fp it tn∧tn 0 s2.heap∧(∀b∈fp,y0j X pins H' b)∧R J H'
def PI (X:Cx) (tg iter:Expr) (wi:TI):Prop:=
 ∀(pins:List (Addr×Obj)) (s:Shared) (σ:St) (H:Hp) (R:It→Hp→Prop),Inv X pins σ H s→wi σ H R→
  wpAny (model X.prog X.w) X.A (eval iter X.env) (fun v s1=>wpAny (model X.prog X.w) X.A (pyIter v) (PIE X pins σ tg R) X.xe s1) X.xe s
theorem y1d {M:Model}{A:Around}{E:Value→Shared→Prop}{s:Shared}{tg:Expr}{it:Addr}{u:Value}{o:Obj}{n:String}{vs:Array Value}{Q:Unit→Shared→Prop} (ho:s.heap.get? it=some o) (hc:o.cls= .type n) (hd:o.data= .fields vs)
 (hn:["enumerate","zip","dict_itemiterator","dict_reverseitemiterator","odict_iterator","itertools.zip_longest","itertools.pairwise"].contains n=false) (hQ:Q () s):wpAny M A (letOwnedTupleGo tg (.ref it) u) Q E s:=by
 unfold letOwnedTupleGo
 cases tg<;>first
  |exact wpAny_pure hQ
  |(cases u<;>first
       |exact wpAny_pure hQ
       |(refine wpAny_bind (wpAny_load ho ?_)
         rw[hc,hd]
         show wpAny M A (if (["enumerate","zip","dict_itemiterator","dict_reverseitemiterator","odict_iterator","itertools.zip_longest","itertools.pairwise"].contains n&&vs[0]? ==some (rawInt _))=true then _ else _) Q E s
         rw[if_neg (by intro h;rw[hn,Bool.false_and] at h;cases h)]
         exact wpAny_pure hQ))
def Itl (K:PySem.W.Frag) (a:Addr):It:=
 ⟨fun i H=>∃xs x,SqL K H a xs∧xs[i]? =some x,fun i H x H'=>H'=H∧∀xs,SqL K H a xs→xs[i]? =some x,fun i H=>∃xs,SqL K H a xs∧xs.length≤i⟩
def Itt (K:PySem.W.Frag) (a:Addr):It:=
 ⟨fun i H=>∃xs x,SqT K H a xs∧xs[i]? =some x,fun i H x H'=>H'=H∧∀xs,SqT K H a xs→xs[i]? =some x,fun i H=>∃xs,SqT K H a xs∧xs.length≤i⟩
def Itr (lo:Int) (n:Nat):It:=⟨fun i _=>i<n,fun i H x H'=>H'=H∧x= .int (lo+i),fun i _=>n≤i⟩
theorem z4S {P:Program}{w:World}{K:PySem.W.Frag}{tg:Expr} (a it:Addr):y1V P w K tg (Itl K a) [it] it (fun i h=>h.IsListIter it a i) where
 mem:=by simp
 obj:=fun i h st b hb=>by
  have e:b=it:=by simpa using hb
  subst e
  obtain⟨o,e,c,d⟩:=st
  exact⟨o,e,fun v z=>by rw[d] at z;cases z⟩
 keep:=fun i h h' st k=>st.at fun o e=>k it (by simp) o e
 item:=by
  intro X hP hw hK hc i pins s σ H E I hf st hg
  subst hP hw hK
  obtain⟨xs,x,hq,hx⟩:=hg
  obtain⟨its,rv,p,hz⟩:=I.list hq
  obtain⟨u,hu,ru⟩:=rv.get hx
  obtain⟨f0,f1,f2,f3,f4,f5⟩:=hf it (by simp)
  refine wpAny_pyNext_list_item st p.isList (x:=u) (by simpa using hu) fun h' st' sb=>?_
  have I1:Inv X pins σ H {s with heap:=h'}:=I.turned (t':=s.toks) (fun b o hb e=>(sb.2 b hb).trans e) f0 f1 f3 f4 f5
  obtain⟨o,e,c,d⟩:=id st'
  exact⟨u,rfl,y1d (s:={s with heap:=h'}) e c d (by decide) ⟨x,H,I1,ru,⟨rfl,fun ys hy=>by rw[I.list_inj hy hq];exact hx⟩,st',fun b hb=>(hf b hb).1⟩⟩
 done:=by
  intro X hP hw hK hc i pins s σ H E I hf st hg
  subst hP hw hK
  obtain⟨xs,hq,hx⟩:=hg
  obtain⟨its,rv,p,hz⟩:=I.list hq
  obtain⟨f0,f1,f2,f3,f4,f5⟩:=hf it (by simp)
  have hl:=rv.length
  exact wpAny_pyNext_list_end (I.ok.hd hc) st p.isList (by simp;lia) fun h' eb=>⟨rfl,I.turned (t':=s.toks) (fun b o hb e=>eb b o hb e) f0 f1 f3 f4 f5⟩
 self:=fun _ _ _ _ _ st h=>wpAny_pyIter_listiter st h
theorem z7s {P:Program}{w:World}{K:PySem.W.Frag}{tg:Expr} (a it:Addr):y1V P w K tg (Itt K a) [it] it (fun i h=>h.IsTupleIter it a i) where
 mem:=by simp
 obj:=fun i h st b hb=>by
  have e:b=it:=by simpa using hb
  subst e
  obtain⟨o,e,c,d⟩:=st
  exact⟨o,e,fun v z=>by rw[d] at z;cases z⟩
 keep:=fun i h h' st k=>st.at fun o e=>k it (by simp) o e
 item:=by
  intro X hP hw hK hc i pins s σ H E I hf st hg
  subst hP hw hK
  obtain⟨xs,x,hq,hx⟩:=hg
  obtain⟨its,rv,p,hz⟩:=I.tuple hq
  obtain⟨u,hu,ru⟩:=rv.get hx
  obtain⟨f0,f1,f2,f3,f4,f5⟩:=hf it (by simp)
  refine wpAny_pyNext_tuple_item st (show s.heap.IsTuple a its.toArray from p) (x:=u) (by simpa using hu) fun h' st' sb=>?_
  have I1:Inv X pins σ H {s with heap:=h'}:=I.turned (t':=s.toks) (fun b o hb e=>(sb.2 b hb).trans e) f0 f1 f3 f4 f5
  obtain⟨o,e,c,d⟩:=id st'
  exact⟨u,rfl,y1d (s:={s with heap:=h'}) e c d (by decide) ⟨x,H,I1,ru,⟨rfl,fun ys hy=>by rw[I.tuple_inj hy hq];exact hx⟩,st',fun b hb=>(hf b hb).1⟩⟩
 done:=by
  intro X hP hw hK hc i pins s σ H E I hf st hg
  subst hP hw hK
  obtain⟨xs,hq,hx⟩:=hg
  obtain⟨its,rv,p,hz⟩:=I.tuple hq
  obtain⟨f0,f1,f2,f3,f4,f5⟩:=hf it (by simp)
  have hl:=rv.length
  exact wpAny_pyNext_tuple_end (I.ok.hd hc) st (show s.heap.IsTuple a its.toArray from p) (by simp;lia) fun h' eb=>⟨rfl,I.turned (t':=s.toks) (fun b o hb e=>eb b o hb e) f0 f1 f3 f4 f5⟩
 self:=fun _ _ _ _ _ st h=>wpAny_pyIter_tupleiter st h
theorem z7t {P:Program}{w:World}{K:PySem.W.Frag}{tg:Expr} (it:Addr) (lo:Int) (n:Nat):y1V P w K tg (Itr lo n) [it] it (fun i h=>IsRangeIter h it (lo+(i:Nat)*1) ((n:Int) - (i:Nat)) 1) where
 mem:=by simp
 obj:=fun i h st b hb=>by
  have e:b=it:=by simpa using hb
  subst e
  exact⟨_,st,fun v z=>by
    have z':Data.fields _=Data.cell v:=z
    cases z'⟩
 keep:=fun i h h' st k=>k it (by simp) _ st
 item:=by
  intro X hP hw hK hc i pins s σ H E I hf st hg
  subst hP hw hK
  obtain⟨f0,f1,f2,f3,f4,f5⟩:=hf it (by simp)
  have W:=Walks.range (prog:=X.prog) (w:=X.w) (I.ok.hd hc) it lo 1 n
  refine W.item i s _ _ hg st fun v h' tk hv st' kk=>?_
  obtain⟨t,rfl⟩:=hv
  have I1:Inv X pins σ H {s with heap:=h',toks:=tk}:=I.turned (fun b o hb e=>kk b o (by simpa using hb) e) f0 f1 f3 f4 f5
  refine⟨_,rfl,y1d (s:={s with heap:=h',toks:=tk}) (n:="range_iterator") st' rfl rfl (by decide) ⟨.int (lo+i),H,I1,⟨t,?_⟩,⟨rfl,rfl⟩,st',fun b hb=>(hf b hb).1⟩⟩
  rw[Int.mul_one]
 done:=by
  intro X hP hw hK hc i pins s σ H E I hf st hg
  subst hP hw hK
  obtain⟨f0,f1,f2,f3,f4,f5⟩:=hf it (by simp)
  exact wpAny_pyNext_range_end (I.ok.hd hc) st (by have:n≤i:=hg;lia) fun h' eb=>⟨rfl,I.turned (t':=s.toks) (fun b o hb e=>eb b o hb e) f0 f1 f3 f4 f5⟩
 self:=fun _ _ _ _ _ st h=>wpAny_pyIter_rangeiter st h
end L2
namespace L2
open PySem PySem.Spec PyProof.Rows
section
variable {X:Cx}{tg:Expr}
def y3Q (K:PySem.W.Frag) (tl:TE):TI:=fun σ H R=>tl σ H fun x H1=>∃a,x= .ref a∧(∃xs,SqL K H1 a xs)∧R (Itl K a) H1
theorem y2m {l:Expr}{tl:TE} (hl:PE X l tl):PI X tg l (y3Q X.K tl):=by
 intro pins s σ H R I h
 refine thn (hl pins s σ H _ I h) fun v s1 ⟨x,H1,I1,r1,q1⟩=>?_
 obtain⟨a,e,⟨xs,hq⟩,q⟩:=q1
 subst e
 cases r1
 obtain⟨its,rv,p,hz⟩:=I1.list hq
 refine wpAny_pyIter_list p.isList ?_
 refine⟨s1.heap.objs.size,[s1.heap.objs.size],_,_,H1,rfl,I1.kept (t':=s1.toks) fun b o e=>q0d _ e,z4S a _,⟨_,q0l _ rfl,rfl,rfl⟩,fun b hb=>?_,q⟩
 have e:b=s1.heap.objs.size:=by simpa using hb
 subst e
 exact I1.fpOk (q0k _) (I1.hok.fresh (q0k _))
theorem y0z {pins:List (Addr×Obj)}{σ:St}{H:Hp}{s:Shared}{R:It→Hp→Prop}{E:Value→Shared→Prop}{lo hi:Int}{t u v:Tok}{tk:Nat} (I:Inv X pins σ H s) (h1: -(2^62)≤lo) (h2:lo<2^62) (h3: -(2^62)≤hi) (h4:hi<2^62)
 (q:R (Itr lo (hi - lo).toNat) H):wpAny (model X.prog X.w) X.A (pyIter (.ref s.heap.objs.size)) (PIE X pins σ tg R) E {s with heap:=s.heap.push {cls:= .type "range",data:= .fields #[.int lo t,.int hi u,.int 1 v]},toks:=tk}:=by
 refine wpAny_pyIter_range (IsRange.new ..) (small_one h1 h2 h3 h4) ?_
 have I1:Inv X pins σ H {s with heap:=s.heap.push {cls:= .type "range",data:= .fields #[.int lo t,.int hi u,.int 1 v]},toks:=tk}:=I.kept fun b o e=>q0d _ e
 refine⟨(s.heap.push {cls:= .type "range",data:= .fields #[.int lo t,.int hi u,.int 1 v]}).objs.size,[(s.heap.push {cls:= .type "range",data:= .fields #[.int lo t,.int hi u,.int 1 v]}).objs.size],_,_,H,rfl,
  I1.kept (t':=tk) fun b o e=>q0d _ e,z7t _ lo (hi - lo).toNat,?_,fun b hb=>?_,q⟩
 ·have e1:lo+((0:Nat):Int)*1=lo:=by simp
  have e2:(((hi - lo).toNat :Nat):Int) - ((0:Nat):Int)=Builtin.Range.rangeSize lo hi 1:=by rw[rangeSize_one];split<;>lia
  show IsRangeIter _ _ (lo+((0:Nat):Int)*1) ((((hi - lo).toNat :Nat):Int) - ((0:Nat):Int)) 1
  rw[e1,e2]
  exact q0l _ rfl
 ·have e:b=(s.heap.push {cls:= .type "range",data:= .fields #[.int lo t,.int hi u,.int 1 v]}).objs.size :=by simpa using hb
  subst e
  exact I1.fpOk (q0k _) (I1.hok.fresh (q0k _))
def iRng1 (ta:TA):TI:=fun σ H R=>ta σ H fun vs H1=>∃j:Int,vs=[.int j]∧ -(2^62)≤j∧j<2^62∧R (Itr 0 j.toNat) H1
theorem z1a {a:Expr}{ta:TA}{p pos:Pos} (hg:Gl X "range") (hm:X.mg "range"=none) (ha:PA X [a] ta) (hs:starEach [a] X.env=[(false,eval a X.env)]:=by rfl):PI X tg (.Call (.Name "range" p) [a] [] pos) (iRng1 ta):=by
 intro pins s σ H R I h
 refine Call_ (z2N I hg hm boot_range (PyProof.Rows.callWith_type1 (thn (ha pos pins s σ H _ I h) fun us s1 ⟨vs,H1,I1,r1,q1⟩=>?_) hs rfl))
 obtain⟨j,e,q1,q2,q⟩:=q1
 subst e
 cases r1 with
 |cons r rr=>
  cases rr
  obtain⟨t,rfl⟩:=r
  exact call_range_1 (y0z I1 (by lia) (by lia) q1 q2 (by simpa using q))
def tFor (wi:TI) (g:TG) (tb:TS):TS:=fun D σ H=>wi σ H fun J H1=>∃W:Nat→Nat→St→Hp→Prop,(∃m,W 0 m σ H1)∧∀i m σ H,W i m σ H→
 (J.stop i H∧D.nx σ H)∨(J.go i H∧∃N:St→Hp→Prop,(∀σ' H',N σ' H'→∃m',m'<m∧W (i+1) m' σ' H')∧∀x H',J.yld i H x H'→g x σ H' fun σ2 H2=>tb {D with nx:=N,ct:=N,bk:=D.nx} σ2 H2)
def z4d (fp:List Addr) (h:Heap):List (Addr×Obj):=fp.filterMap fun b=>(h.get? b).map fun o=>(b,o)
theorem z1n {fp:List Addr}{h:Heap}{b:Addr}{o:Obj} (hb:b∈fp) (e:h.get? b=some o):(b,o)∈z4d fp h:=List.mem_filterMap.mpr ⟨b,hb,by rw[e];rfl⟩
theorem z9l {fp:List Addr}{h:Heap}{p:Addr×Obj} (hp:p∈z4d fp h):p.1∈fp∧h.get? p.1=some p.2:=by
 obtain⟨b,hb,e⟩:=List.mem_filterMap.mp hp
 cases q:h.get? b with
 |none=>rw[q] at e;cases e
 |some o=>
  rw[q] at e
  have e':(b,o)=p:=Option.some.inj e
  subst e'
  exact⟨hb,q⟩
theorem Inv.pinned {pins:List (Addr×Obj)}{σ:St}{H:Hp}{s:Shared}{fp:List Addr} (I:Inv X pins σ H s) (hf:∀b∈fp,y0j X pins H b) (ho:∀b∈fp,∃o,s.heap.get? b=some o∧∀v,o.data≠ .cell v):Inv X (pins++z4d fp s.heap) σ H s:=
 I.pins_of fun p hp=>(q0r.mp hp).elim (fun z=>I.pin p (q0z _ z)) fun z=>by
  obtain⟨hb,e⟩:=z9l z
  obtain⟨f0,f1,f2,_⟩:=hf p.1 hb
  obtain⟨o,e',d⟩:=ho p.1 hb
  rw[e] at e';cases e'
  exact⟨e,f0,f1,f2,d⟩
theorem Inv.unpinned {pins pl:List (Addr×Obj)}{σ:St}{H:Hp}{s:Shared} (I:Inv X (pins++pl) σ H s):Inv X pins σ H s:=I.pins_of fun p hp=>I.pin p (q0z _ (q0N _ hp))
theorem z0W {iter:Expr}{body:List Stmt}{wi:TI}{g:TG}{tb:TS}{pos:Pos} (hp:PassesOwn (model X.prog X.w) X.A X.env X.xe) (hc:X.calm=true) (hi:PI X tg iter wi) (hg:PG X tg g) (hb:PSs X body tb)
 (hs:∀x,foldedSetIterable iter X.env x=pure x:=by intro _;rfl):PS X (.For tg iter body [] pos) (tFor wi g tb):=by
 intro pins s σ H D I h
 refine wpAny_For (thn (hi pins s σ H _ I h) fun v s1 h1=>thn h1 fun itv s2 h2=>?_) hs
 obtain⟨it,fp,tn,J,H2,e,I2,T,st2,f2,W,⟨m0,w0⟩,turn⟩:=h2
 subst e
 have stat:∀{H':Hp},(∀b∈fp,H' b=none)→∀b∈fp,y0j X pins H' b:=fun hn b hb=>⟨hn b hb,(f2 b hb).2⟩
 refine codeAny_forLoop_any (fun n s'=>∃i σ' H',Inv X pins σ' H' s'∧tn i s'.heap∧(∀b∈fp,H' b=none)∧W i n σ' H') ?_ m0 ⟨0,σ,H2,I2,st2,fun b hb=>(f2 b hb).1,w0⟩
 rintro n s3 ⟨i,σ3,H3,I3,st3,fr3,w3⟩
 rcases turn i n σ3 H3 w3 with⟨stop,qn⟩|⟨go,N,hN,step⟩
 ·refine wpAny_passesOwn hp (thn (T.done X rfl rfl rfl hc i pins s3 σ3 H3 X.xe I3 (stat fr3) st3 stop) fun r s4 ⟨hr,I4⟩=>?_)
  subst hr
  exact wpAny_execs_nil ⟨σ3,H3,I4,qn⟩
 ·refine wpAny_passesOwn hp (thn (T.item X rfl rfl rfl hc i pins s3 σ3 H3 X.xe I3 (stat fr3) st3 go) fun r s4 ⟨u,hr,h4⟩=>?_)
  subst hr
  refine wpAny_passesOwn hp (thn h4 fun _ s5 ⟨x,H5,I5,r5,y5,st5,fr5⟩=>?_)
  have I5':=I5.pinned (stat fr5) (T.obj _ _ st5)
  refine wpAny_passesOwn hp (thn (hg _ s5 σ3 H5 x u _ I5' r5 (step x H5 y5)) fun _ s6 ⟨σ6,H6,I6,q6⟩=>?_)
  refine wpAny_passesOwn hp (thn (hb _ s6 σ6 H6 _ I6 q6) fun f s7 q7=>?_)
  have again:∀{σ7:St}{H7:Hp},Inv X (pins++z4d fp s5.heap) σ7 H7 s7→N σ7 H7→∃m,m<n∧∃i σ' H',Inv X pins σ' H' s7∧tn i s7.heap∧(∀b∈fp,H' b=none)∧W i m σ' H':=fun {σ7 H7} I7 n7=>by
   obtain⟨m',hm,w7⟩:=hN σ7 H7 n7
   refine⟨m',hm,i+1,σ7,H7,I7.unpinned,T.keep _ _ _ st5 fun b hb o e=>(I7.pin (b,o) (q0z _ (q0z _ (z1n hb e)))).1,fun b hb=>?_,w7⟩
   obtain⟨o,e,d⟩:=T.obj _ _ st5 b hb
   exact (I7.pin (b,o) (q0z _ (q0z _ (z1n hb e)))).2.1
  cases f with
  |next=>obtain⟨σ7,H7,I7,n7⟩:=q7;exact again I7 n7
  |cont=>obtain⟨σ7,H7,I7,n7⟩:=q7;exact again I7 n7
  |brk=>obtain⟨σ7,H7,I7,q7⟩:=q7;exact⟨σ7,H7,I7.unpinned,q7⟩
  |ret v=>obtain⟨x7,σ7,H7,I7,r7,q7⟩:=q7;exact⟨x7,σ7,H7,I7.unpinned,r7,q7⟩
end
theorem z6t {c:TT}{tb:TS}{D:y1W}{σ:St}{H:Hp} (Pv:St→Hp→Prop) (μ:St→Hp→Nat) (h0:Pv σ H)
 (hs:∀σ H,Pv σ H→c σ H fun b H1=>if b=true then tb {D with nx:=fun σ' H'=>Pv σ' H'∧μ σ' H'<μ σ H,ct:=fun σ' H'=>Pv σ' H'∧μ σ' H'<μ σ H,bk:=D.nx} σ H1 else D.nx σ H1)
 (mono:∀σ H Q Q',(∀b H1,Q b H1→Q' b H1)→c σ H Q→c σ H Q'):y1v c tb D σ H:=by
 refine⟨fun m σ H=>m=μ σ H∧Pv σ H,⟨_,rfl,h0⟩,?_⟩
 rintro m σ H ⟨rfl,p⟩
 refine mono σ H _ _ (fun b H1 q=>?_) (hs σ H p)
 cases b with
 |true=>exact⟨_,fun σ' H' ⟨p',l⟩=>⟨_,l,rfl,p'⟩,q⟩
 |false=>exact q
end L2
namespace L2
open PySem PySem.Spec PyProof.Rows
abbrev R2:=V→V→Hp→VK→Prop
def OpR (X:Cx) (f:Value→Value→Sem Value) (r:R2):Prop:=
 ∀(pins:List (Addr×Obj)) (s:Shared) (σ:St) (H:Hp) (x y:V) (v u:Value) (Q:VK),Inv X pins σ H s→RelV x v→RelV y u→r x y H Q→
  wpAny (model X.prog X.w) X.A (f v u) (EP X pins σ Q) X.xe s
def UnR (X:Cx) (f:Value→Sem Value) (r:V→Hp→VK→Prop):Prop:=
 ∀(pins:List (Addr×Obj)) (s:Shared) (σ:St) (H:Hp) (x:V) (v:Value) (Q:VK),Inv X pins σ H s→RelV x v→r x H Q→
  wpAny (model X.prog X.w) X.A (f v) (EP X pins σ Q) X.xe s
def z1J (X:Cx) (f:Value) (r:List V→Hp→VK→Prop):Prop:=
 ∀(pins:List (Addr×Obj)) (s:Shared) (σ:St) (H:Hp) (xs:List V) (us:List Value) (Q:VK),Inv X pins σ H s→Vals xs us→r xs H Q→
  wpAny (model X.prog X.w) X.A (call f us) (EP X pins σ Q) X.xe s
def TruR (X:Cx) (r:V→Hp→(Bool→Hp→Prop)→Prop):Prop:=
 ∀(pins:List (Addr×Obj)) (s:Shared) (σ:St) (H:Hp) (x:V) (v:Value) (Q:Bool→Hp→Prop),Inv X pins σ H s→RelV x v→r x H Q→
  wpAny (model X.prog X.w) X.A (truthy v) (TP X pins σ Q) X.xe s
def tOp (r:R2) (ta tb:TE):TE:=fun σ H Q=>ta σ H fun x H1=>tb σ H1 fun y H2=>r x y H2 Q
def tUn (r:V→Hp→VK→Prop) (ta:TE):TE:=fun σ H Q=>ta σ H fun x H1=>r x H1 Q
def rI (C:Int→Int→Prop) (g:Int→Int→V):R2:=fun x y H Q=>∃i j,x= .int i∧y= .int j∧C i j∧Q (g i j) H
def rI0 (g:Int→Int→V):R2:=fun x y H Q=>∃i j,x= .int i∧y= .int j∧Q (g i j) H
def rU (g:Int→V):V→Hp→VK→Prop:=fun x H Q=>∃i,x= .int i∧Q (g i) H
section
variable {X:Cx}{a b c:Expr}{ta tb tc:TE}{pos:Pos}
theorem binT (ha:PE X a ta) (hb:PE X b tb) {pins:List (Addr×Obj)}{s:Shared}{σ:St}{H:Hp}{R:V→V→Hp→Prop} (I:Inv X pins σ H s)
 (h:ta σ H fun x H1=>tb σ H1 fun y H2=>R x y H2) {Q:Value→Shared→Prop}{f:Value→Value→Sem Value}
 (hf:∀v u s2 x y H2,Inv X pins σ H2 s2→RelV x v→RelV y u→R x y H2→wpAny (model X.prog X.w) X.A (f v u) Q X.xe s2):
 wpAny (model X.prog X.w) X.A (eval a X.env) (fun v s₁=>wpAny (model X.prog X.w) X.A (eval b X.env) (fun u s₂=>wpAny (model X.prog X.w) X.A (f v u) Q X.xe s₂) X.xe s₁) X.xe s:=by
 refine thn (ha pins s σ H _ I h) fun v s1 ⟨x,H1,I1,r1,q1⟩=>?_
 refine thn (hb pins s1 σ H1 _ I1 q1) fun u s2 ⟨y,H2,I2,r2,q2⟩=>?_
 exact hf v u s2 x y H2 I2 r1 r2 q2
theorem z0w {op:Operator}{r:R2} (ho:OpR X (binaryOp op) r) (ha:PE X a ta) (hb:PE X b tb):PE X (.BinOp a op b pos) (tOp r ta tb):=by
 intro pins s σ H Q I h
 exact wpAny_BinOp (binT ha hb I h fun v u s2 x y H2 I2 rx ry q=>ho pins s2 σ H2 x y v u Q I2 rx ry q)
theorem z7I {op:UnaryOp}{r:V→Hp→VK→Prop} (ho:UnR X (unaryOp op) r) (ha:PE X a ta):PE X (.UnaryOp op a pos) (tUn r ta):=by
 intro pins s σ H Q I h
 exact UnaryOp_ (thn (ha pins s σ H _ I h) fun v s1 ⟨x,H1,I1,r1,q1⟩=>ho pins s1 σ H1 x v Q I1 r1 q1)
theorem opI {f:Value→Value→Sem Value}{C:Int→Int→Prop}{g:Int→Int→Int}
 (rule:∀(i j:Int) (t u:Tok) (s:Shared) (Q:Value→Shared→Prop) (E:Value→Shared→Prop),C i j→Q (.int (g i j) s.toks) {s with toks:=s.toks+1}→wpAny (model X.prog X.w) X.A (f (.int i t) (.int j u)) Q E s):
 OpR X f (rI C fun i j=> .int (g i j)):=by
 intro pins s σ H x y v u Q I rx ry h
 obtain⟨i,j,rfl,rfl,hc,q⟩:=h
 obtain⟨t,rfl⟩:=rx
 obtain⟨t',rfl⟩:=ry
 exact rule i j t t' s _ _ hc ⟨.int (g i j),H,I.tok _,⟨_,rfl⟩,q⟩
theorem opI0 {f:Value→Value→Sem Value}{g:Int→Int→Int}
 (rule:∀(i j:Int) (t u:Tok) (s:Shared) (Q:Value→Shared→Prop) (E:Value→Shared→Prop),Q (.int (g i j) s.toks) {s with toks:=s.toks+1}→wpAny (model X.prog X.w) X.A (f (.int i t) (.int j u)) Q E s):
 OpR X f (rI0 fun i j=> .int (g i j)):=by
 intro pins s σ H x y v u Q I rx ry h
 obtain⟨i,j,rfl,rfl,q⟩:=h
 obtain⟨t,rfl⟩:=rx
 obtain⟨t',rfl⟩:=ry
 exact rule i j t t' s _ _ ⟨.int (g i j),H,I.tok _,⟨_,rfl⟩,q⟩
theorem opB0 {f:Value→Value→Sem Value}{g:Int→Int→Bool}
 (rule:∀(i j:Int) (t u:Tok) (s:Shared) (Q:Value→Shared→Prop) (E:Value→Shared→Prop),Q (.bool (g i j)) s→wpAny (model X.prog X.w) X.A (f (.int i t) (.int j u)) Q E s):
 OpR X f (rI0 fun i j=> .bl (g i j)):=by
 intro pins s σ H x y v u Q I rx ry h
 obtain⟨i,j,rfl,rfl,q⟩:=h
 obtain⟨t,rfl⟩:=rx
 obtain⟨t',rfl⟩:=ry
 exact rule i j t t' s _ _ ⟨.bl (g i j),H,I,rfl,q⟩
def CPow (i j:Int):Prop:=0≤j∧j≤1000000∧i.natAbs<2^64
theorem z1G:OpR X (binaryOp .Add) (rI0 fun i j=> .int (i+j)):=opI0 fun _ _ _ _ _ _ _ q=>add_int q
theorem z1Z:OpR X (binaryOp .Sub) (rI0 fun i j=> .int (i - j)):=opI0 fun _ _ _ _ _ _ _ q=>sub_int q
theorem y3x:OpR X (binaryOp .Mod) (rI (fun _ j=>0<j) fun i j=> .int (i%j)):=opI fun i j _ _ _ _ _ hc q=>by
 have h1:(0:Int)<j:=hc
 exact mod_int' (by lia) (by rw[Int.fmod_eq_emod_of_nonneg i (by lia)];exact q)
theorem y2q:OpR X (binaryOp .Mod) (rI (fun _ j=>j≠0) fun i j=> .int (i.fmod j)):=opI fun _ _ _ _ _ _ _ hc q=>mod_int' hc q
theorem y3v:OpR X (binaryOp .Pow) (rI CPow fun i j=> .int (i^j.toNat)):=opI fun _ _ _ _ _ _ _ hc q=>pow_int_small hc.1 hc.2.1 hc.2.2 q
theorem unI {f:Value→Sem Value}{g:Int→Int}
 (rule:∀(i:Int) (t:Tok) (s:Shared) (Q:Value→Shared→Prop) (E:Value→Shared→Prop),Q (.int (g i) s.toks) {s with toks:=s.toks+1}→wpAny (model X.prog X.w) X.A (f (.int i t)) Q E s):
 UnR X f (rU fun i=> .int (g i)):=by
 intro pins s σ H x v Q I rx h
 obtain⟨i,rfl,q⟩:=h
 obtain⟨t,rfl⟩:=rx
 exact rule i t s _ _ ⟨.int (g i),H,I.tok _,⟨_,rfl⟩,q⟩
theorem z3T:UnR X (unaryOp .USub) (rU fun i=> .int (-i)):=unI fun _ _ _ _ _ q=>neg_int q
end
def scal:V→V→Bool
 | .non,.non =>true| .non,.int _=>true| .int _,.non =>true| .non,.bl _=>true| .bl _,.non =>true| .non,.str _=>true| .str _,.non =>true
 | .int _,.int _=>true| .bl _,.bl _=>true| .str _,.str _=>true| .byt _,.byt _=>true
 | .int _,.str _=>true| .str _,.int _=>true| .bl _,.str _=>true| .str _,.bl _=>true
 |_,_=>false
def rEq:R2:=fun x y H Q=>scal x y=true∧Q (.bl (decide (x=y))) H
def rNe:R2:=fun x y H Q=>scal x y=true∧Q (.bl (!decide (x=y))) H
theorem z6r {i j:Int}:decide (V.int i=V.int j)=(i==j):=by
 rw[q1p]
 simp
theorem y1S {i j:Bool}:decide (V.bl i=V.bl j)=(i==j):=by
 rw[q1p]
 simp
theorem z9W {i j:Str}:decide (V.str i=V.str j)=(i==j):=by
 rw[q1p]
 simp
theorem z9X {i j:Array UInt8}:decide (V.byt i=V.byt j)=(i.toList==j.toList):=by
 rw[q1p]
 cases i
 cases j
 simp
section
variable {X:Cx}{a b c:Expr}{ta tb tc:TE}{pos:Pos}
theorem z0I {pins:List (Addr×Obj)}{σ:St}{H:Hp}{s:Shared}{Q:VK}{k k':Bool} (I:Inv X pins σ H s) (q:Q (.bl k) H) (e:k=k'):EP X pins σ Q (.bool k') s:=by
 subst e
 exact⟨.bl k,H,I,rfl,q⟩
theorem z3O:OpR X (compareOp .Eq) rEq:=by
 intro pins s σ H x y v u Q I rx ry h
 obtain⟨hs,q⟩:=h
 cases x with
 |non=>
  cases rx
  cases y with
  |non=>cases ry;exact PySem.EqNone.eq_none_none (z0I I q (by simp))
  |bl j=>cases ry;exact PySem.EqNone.eq_none_bool (z0I I q (by simp))
  |int j=>obtain⟨t',rfl⟩:=ry;exact PySem.EqNone.eq_none_int (z0I I q (by simp))
  |str j=>obtain⟨t',rfl⟩:=ry;exact PySem.EqNone.eq_none_str (z0I I q (by simp))
  |_=>exact absurd (show false=true from hs) Bool.false_ne_true
 |bl i=>
  cases rx
  cases y with
  |non=>cases ry;exact PySem.EqNone.eq_bool_none (z0I I q (by simp))
  |bl j=>cases ry;exact eq_bool (z0I I q y1S)
  |str j=>obtain⟨t',rfl⟩:=ry;exact PySem.EqMixed.eq_bool_str (z0I I q (by simp))
  |_=>exact absurd (show false=true from hs) Bool.false_ne_true
 |int i=>
  obtain⟨t,rfl⟩:=rx
  cases y with
  |non=>cases ry;exact PySem.EqNone.eq_int_none (z0I I q (by simp))
  |int j=>obtain⟨t',rfl⟩:=ry;exact eq_int (z0I I q z6r)
  |str j=>obtain⟨t',rfl⟩:=ry;exact PySem.EqMixed.eq_int_str (z0I I q (by simp))
  |_=>exact absurd (show false=true from hs) Bool.false_ne_true
 |str i=>
  obtain⟨t,rfl⟩:=rx
  cases y with
  |non=>cases ry;exact PySem.EqNone.eq_str_none (z0I I q (by simp))
  |bl j=>cases ry;exact PySem.EqMixed.eq_str_bool (z0I I q (by simp))
  |int j=>obtain⟨t',rfl⟩:=ry;exact PySem.EqMixed.eq_str_int (z0I I q (by simp))
  |str j=>obtain⟨t',rfl⟩:=ry;exact eq_str (z0I I q z9W)
  |_=>exact absurd (show false=true from hs) Bool.false_ne_true
 |byt i=>
  obtain⟨t,rfl⟩:=rx
  cases y with
  |byt j=>obtain⟨t',rfl⟩:=ry;exact PySem.W.eq_bytes (z0I I q z9X)
  |_=>exact absurd (show false=true from hs) Bool.false_ne_true
 |_=>cases y<;>exact absurd (show false=true from hs) Bool.false_ne_true
theorem z4C:OpR X (compareOp .NotEq) rNe:=by
 intro pins s σ H x y v u Q I rx ry h
 obtain⟨hs,q⟩:=h
 cases x with
 |non=>
  cases rx
  cases y with
  |non=>cases ry;exact PySem.EqNone.ne_none_none (z0I I q (by simp))
  |bl j=>cases ry;exact PySem.EqNone.ne_none_bool (z0I I q (by simp))
  |int j=>obtain⟨t',rfl⟩:=ry;exact PySem.EqNone.ne_none_int (z0I I q (by simp))
  |str j=>obtain⟨t',rfl⟩:=ry;exact PySem.EqNone.ne_none_str (z0I I q (by simp))
  |_=>exact absurd (show false=true from hs) Bool.false_ne_true
 |bl i=>
  cases rx
  cases y with
  |non=>cases ry;exact PySem.EqNone.ne_bool_none (z0I I q (by simp))
  |bl j=>cases ry;exact ne_bool (z0I I q (congrArg not y1S))
  |str j=>obtain⟨t',rfl⟩:=ry;exact PySem.EqMixed.ne_bool_str (z0I I q (by simp))
  |_=>exact absurd (show false=true from hs) Bool.false_ne_true
 |int i=>
  obtain⟨t,rfl⟩:=rx
  cases y with
  |non=>cases ry;exact PySem.EqNone.ne_int_none (z0I I q (by simp))
  |int j=>obtain⟨t',rfl⟩:=ry;exact ne_int (z0I I q (congrArg not z6r))
  |str j=>obtain⟨t',rfl⟩:=ry;exact PySem.EqMixed.ne_int_str (z0I I q (by simp))
  |_=>exact absurd (show false=true from hs) Bool.false_ne_true
 |str i=>
  obtain⟨t,rfl⟩:=rx
  cases y with
  |non=>cases ry;exact PySem.EqNone.ne_str_none (z0I I q (by simp))
  |bl j=>cases ry;exact PySem.EqMixed.ne_str_bool (z0I I q (by simp))
  |int j=>obtain⟨t',rfl⟩:=ry;exact PySem.EqMixed.ne_str_int (z0I I q (by simp))
  |str j=>obtain⟨t',rfl⟩:=ry;exact ne_str (z0I I q (congrArg not z9W))
  |_=>exact absurd (show false=true from hs) Bool.false_ne_true
 |byt i=>
  obtain⟨t,rfl⟩:=rx
  cases y with
  |byt j=>obtain⟨t',rfl⟩:=ry;exact PySem.W.ne_bytes (z0I I q (congrArg not z9X))
  |_=>exact absurd (show false=true from hs) Bool.false_ne_true
 |_=>cases y<;>exact absurd (show false=true from hs) Bool.false_ne_true
theorem y3y:OpR X (compareOp .Lt) (rI0 fun i j=> .bl (decide (i<j))):=opB0 fun _ _ _ _ _ _ _ q=>lt_int q
theorem y0P:OpR X (compareOp .Gt) (rI0 fun i j=> .bl (decide (j<i))):=opB0 fun _ _ _ _ _ _ _ q=>gt_int q
theorem OpR.or {f:Value→Value→Sem Value}{r r':R2} (h:OpR X f r) (h':OpR X f r'):OpR X f (fun x y H Q=>r x y H Q∨r' x y H Q):=by
 intro pins s σ H x y v u Q I rx ry q
 rcases q with q|q
 ·exact h pins s σ H x y v u Q I rx ry q
 ·exact h' pins s σ H x y v u Q I rx ry q
theorem z0C (b:Expr) {op:CmpOp} (h:op≠ .In :=by decide) (h2:op≠ .NotIn :=by decide):behindInMarks op b=false:=by
 have e1:(op==CmpOp.In)=false:=by cases op<;>first|rfl|exact absurd rfl h
 have e2:(op==CmpOp.NotIn)=false:=by cases op<;>first|rfl|exact absurd rfl h2
 cases b<;>simp[behindInMarks,e1,e2]
theorem z9e {op:CmpOp}{r:R2} (ho:OpR X (compareOp op) r) (ha:PE X a ta) (hb:PE X b tb) (hm:behindInMarks op b=false):PE X (.Compare a [op] [b] pos) (tOp r ta tb):=by
 intro pins s σ H Q I h
 exact wpAny_Compare1 (binT ha hb I h fun v u s2 x y H2 I2 rx ry q=>ho pins s2 σ H2 x y v u Q I2 rx ry q) hm
def tTest (t:TE):TT:=fun σ H Q=>t σ H fun x H'=>∃k,x= .bl k∧Q k H'
theorem z0s {op:CmpOp}{r:R2} (ho:OpR X (compareOp op) r) (ha:PE X a ta) (hb:PE X b tb) (hm:behindInMarks op b=false):PT X (.Compare a [op] [b] pos) (tTest (tOp r ta tb)):=by
 intro pins s σ H Q I h
 refine wpAny_isTrue_Compare1 (thn (ha pins s σ H _ I h) fun v s1 ⟨x,H1,I1,r1,q1⟩=>thn (hb pins s1 σ H1 _ I1 q1) fun u s2 ⟨y,H2,I2,r2,q2⟩=>
  thn (ho pins s2 σ H2 x y v u _ I2 r1 r2 q2) fun c s3 ⟨z,H3,I3,r3,k,e,q3⟩=>?_) hm
 subst e
 cases r3
 exact wpAny_truthy_bool ⟨H3,I3,q3⟩
def TruV (K:PySem.W.Frag) (x:V) (H:Hp) (k:Bool):Prop:=
 match x with
 | .non =>k=false
 | .bl b=>k=b
 | .int i=>k=(i != 0)
 | .str y=>y.length≤sizeLine∧k=((y.length:Int) != 0)
 | .byt y=>y.size≤sizeLine∧k=((y.size:Int) != 0)
 | .ref p=>(∃xs,SqL K H p xs∧k= !xs.isEmpty)∨(∃xs,SqT K H p xs∧k= !xs.isEmpty)∨∃kvs,H p=some (.dK kvs)∧k= !kvs.isEmpty
 |_=>False
theorem z8a {κ:Type}{kvs:List (κ×V)}{vs:List (κ×Value)} (r:KV kvs vs):(!vs.isEmpty)= !kvs.isEmpty:=by
 cases r<;>rfl
theorem z4h {xs:List V}{its:List Value} (r:Vals xs its):(!its.toArray.isEmpty)= !xs.isEmpty:=by
 cases r<;>simp
theorem z5v:(sizeLine:Nat)<2^63:=by rw[sizeLine_eq];decide
theorem y2R:TruR X (fun x H Q=>∃k,TruV X.K x H k∧Q k H):=by
 intro pins s σ H x v Q I rx h
 obtain⟨k,e,q⟩:=h
 have hl:=z5v
 have hs:sizeLine=16777216:=sizeLine_eq
 cases x with
 |non=>
  cases rx
  have e':k=false:=e
  subst e'
  exact truthy_none ⟨H,I,q⟩
 |bl b=>
  cases rx
  have e':k=b:=e
  subst e'
  exact wpAny_truthy_bool ⟨H,I,q⟩
 |int i=>
  obtain⟨t,rfl⟩:=rx
  have e':k=(i != 0):=e
  subst e'
  exact PySem.P.truthy_int ⟨H,I,q⟩
 |str y=>
  obtain⟨t,rfl⟩:=rx
  obtain⟨hy,e'⟩:y.length≤sizeLine∧k=((y.length:Int) != 0):=e
  subst e'
  exact PySem.P.truthy_str (by lia) ⟨H,I.tok _,q⟩
 |byt y=>
  obtain⟨t,rfl⟩:=rx
  obtain⟨hy,e'⟩:y.size≤sizeLine∧k=((y.size:Int) != 0):=e
  subst e'
  exact PySem.W.truthy_bytes (by lia) ⟨H,I.tok _,q⟩
 |ref p=>
  cases rx
  have e':(∃xs,SqL X.K H p xs∧k= !xs.isEmpty)∨(∃xs,SqT X.K H p xs∧k= !xs.isEmpty)∨∃kvs,H p=some (.dK kvs)∧k= !kvs.isEmpty:=e
  rcases e' with⟨xs,hx,e'⟩|⟨xs,hx,e'⟩|⟨kvs,hx,e'⟩
  ·subst e'
   obtain⟨its,r,pl,hz⟩:=I.list hx
   have hlen:=r.length
   exact wpAny_truthy_list pl.isList (by simp only[q0h];lia) ⟨H,I.tok _,by rw[z4h r];exact q⟩
  ·subst e'
   obtain⟨its,r,pl,hz⟩:=I.tuple hx
   have hlen:=r.length
   exact truthy_tuple pl (by simp only[q0h];lia) ⟨H,I.tok _,by rw[z4h r];exact q⟩
  ·subst e'
   obtain⟨hz,hS,vs,r,m⟩:kvs.length≤sizeLine∧(p==sysModules)=false∧∃vs,KV kvs vs∧s.heap.DictOf (z0K X.prog X.w) p vs:=I.hok p _ hx
   have hlen:kvs.length=vs.length:=Paired.length r
   exact wpAny_truthy_dict hS m (by lia) ⟨H,I.tok _,by rw[z8a r];exact q⟩
 |_=>exact (show False from e).elim
theorem y0F (ha:PE X a ta) (he:∀whole,isTrue a X.env whole=(do let v ←whole;standAt a.pos;holding [v] (truthy v))):
 PT X a (fun σ H Q=>ta σ H fun x H'=>∃k,TruV X.K x H' k∧Q k H'):=by
 intro pins s σ H Q I h
 exact isTrue_plain (thn (ha pins s σ H _ I h) fun v s1 ⟨x,H1,I1,r1,q1⟩=>y2R pins s1 σ H1 x v Q I1 r1 q1) (he _)
theorem z4Q {x:V}{us:List Value} (r:Vals [x] us):∃u,us=[u]∧RelV x u:=by
 cases r with
 |cons r1 r2=>cases r2;exact⟨_,rfl,r1⟩
theorem y2O {x y:V}{us:List Value} (r:Vals [x,y] us):∃u w',us=[u,w']∧RelV x u∧RelV y w':=by
 cases r with
 |cons r1 r2=>
  cases r2 with
  |cons r3 r4=>cases r4;exact⟨_,_,rfl,r1,r3⟩
theorem z4N:z1J X (.builtin "abs") (fun xs H Q=>∃i,xs=[.int i]∧Q (.int (if i<0 then -i else i)) H):=by
 intro pins s σ H xs us Q I r h
 obtain⟨i,rfl,q⟩:=h
 obtain⟨u,rfl,t,rfl⟩:=z4Q r
 exact call_abs_int fun u tk=>⟨.int (if i<0 then -i else i),H,I.tok _,⟨_,rfl⟩,q⟩
theorem y0e (hc:X.calm=true):z1J X (.builtin "min") (fun xs H Q=>∃i j,xs=[.int i,.int j]∧Q (.int (if j<i then j else i)) H):=by
 intro pins s σ H xs us Q I r h
 obtain⟨i,j,rfl,q⟩:=h
 obtain⟨u,w',rfl,⟨t,rfl⟩,⟨t',rfl⟩⟩:=y2O r
 refine min_two_ints (I.ok.hd hc) fun h' tk k=>⟨_,H,I.kept k,?_,q⟩
 by_cases hj:j<i
 ·rw[if_pos hj,if_pos hj];exact⟨_,rfl⟩
 ·rw[if_neg hj,if_neg hj];exact⟨_,rfl⟩
theorem y0f:z1J X (.type "int") (fun xs H Q=>(∃i,xs=[.int i]∧Q (.int i) H)∨∃k,xs=[.bl k]∧Q (.int (if k then 1 else 0)) H):=by
 intro pins s σ H xs us Q I r h
 rcases h with⟨i,rfl,q⟩|⟨k,rfl,q⟩
 ·obtain⟨u,rfl,t,rfl⟩:=z4Q r
  exact call_int_int ⟨.int i,H,I,⟨_,rfl⟩,q⟩
 ·obtain⟨u,rfl,r1⟩:=z4Q r
  cases r1
  exact call_int_bool ⟨.int (if k then 1 else 0),H,I.tok _,⟨_,rfl⟩,q⟩
end
end L2
namespace L2
open PySem PySem.Spec PyProof.Rows
structure ObjM (h:Heap) (x dx C:Addr) (mA:Str→Option Value):Prop where
 obj:h.get? x=some (PySem.W.instObj C dx)
 ns:h.Ns1 dx mA
 ne:dx≠x
theorem z9r {h:Heap}{dx:Addr}{mA:Str→Option Value} (n:h.Ns1 dx mA):∃od,h.get? dx=some od∧∀name,PySem.W.lookIn name od=some (mA name):=by
 obtain⟨o,es,ep,ho,hd,hk,_,hm⟩:=n
 refine⟨o,ho,fun name=>?_⟩
 have e:=hm name
 unfold nsFind findBy at e
 rw[←Array.find?_toList] at e
 unfold PySem.W.lookIn
 rw[hd]
 dsimp only
 split
 ·rename_i y q
  rw[q] at e
  exact congrArg some e
 ·rename_i q
  rw[q] at e
  have a:es.toList.any (·.refKey)=false:=by
   rw[List.any_eq_false]
   intro y hy
   obtain⟨z,t,hkey⟩:=hk y (Array.mem_toList_iff.mp hy)
   simp[DictEntry.refKey,hkey]
  have a':¬es.toList.any (·.refKey)=true:=by rw[a];exact q0y
  rw[if_neg a']
  exact congrArg some e
theorem ObjM.look {h:Heap}{x dx C:Addr}{mA:Str→Option Value} (I:ObjM h x dx C mA):∃od,PySem.W.InstAt h x (PySem.W.instObj C dx) C (some od)∧∀name,PySem.W.lookIn name od=some (mA name):=
 let ⟨od,ho,hl⟩:=z9r I.ns
 ⟨od,⟨I.obj,rfl,rfl,ho⟩,hl⟩
section
variable {prog:Program}{w:World}{A:Around}{E:Value→Shared→Prop}{s:Shared}{K:PySem.W.Frag}{x dx C f:Addr}{mA:Str→Option Value}{name:Str}{v:Value}
end
theorem RelO.some_of {v:V}{o:Option Value} (r:RelO (some v) o):∃u,o=some u∧RelV v u:=by
 cases o with
 |none=>exact (show False from r).elim
 |some u=>exact⟨u,rfl,r⟩
section
variable {P:Program}{w:World}{H H':Hp}{h h':Heap}{a C dx:Addr}{fs fs':List (Str×V)}
theorem y2z (hok:HOk P w H h) (e:H a=some (.ins C dx fs)):∃mA,ObjM h a dx C mA∧(∀f,RelO (fs.lookup f) (mA f))∧PySem.Within mA (fs.map (·.1))∧fs.length≤1000∧H dx=some (.own a):=by
 obtain⟨d,z,ne,ob,mA,n,r,q⟩:=(show ObjOk P w H h a (.ins C dx fs) from hok a _ e)
 exact⟨mA,⟨ob,n,ne⟩,r,q,z,d⟩
end
structure Cls (K:PySem.W.Frag) (C:Addr):Prop where
 pg:PySem.W.plainGet K C Str.empty=true
 hd:PySem.W.hasDictIn K C=true
 po:PySem.W.plainOver K C=true
 sa:PySem.W.findIn K (.ref C) "__setattr__"=some (some (.builtin "object.__setattr__"))
theorem Cls.get {K:PySem.W.Frag}{C:Addr} (c:Cls K C) (f:Str):PySem.W.plainGet K C f=true:=c.pg
section
variable {X:Cx}{pins:List (Addr×Obj)}{σ:St}{H:Hp}{s:Shared}{a C dx:Addr}{fs:List (Str×V)}{f:Str}{v:V}{A:Around}{E:Value→Shared→Prop}
end
section
variable {X:Cx}{o e value:Expr}{f:Str}{pos pos' tpos:Pos}{ta tv:TE}
end
section
variable {X:Cx}{pins:List (Addr×Obj)}{σ:St}{H:Hp}{s:Shared}{A:Around}{E:Value→Shared→Prop}{Q:Value→Shared→Prop}{c:Value}{b:Bool}
inductive z7q (K:PySem.W.Frag) (H:Hp):V→Value→Prop where
 |non:z7q K H .non (.type "NoneType")
 |bl (x:Bool):z7q K H (.bl x) (.type "bool")
 |int (i:Int):z7q K H (.int i) (.type "int")
 |str (x:Str):z7q K H (.str x) (.type "str")
 |flt (x:UInt64):z7q K H (.flt x) (.type "float")
 |lst {a:Addr}{xs:List V} (e:H a=some (.lst xs)):z7q K H (.ref a) (.type "list")
 |frz {a:Addr}{o:Obj}{xs:List V} (e:H a=some (.frz o (.lst xs))):z7q K H (.ref a) (.type "list")
 |tup {a:Addr}{xs:List V} (e:H a=some (.tup xs)):z7q K H (.ref a) (.type "tuple")
 |dK {a:Addr}{kvs:List (Key×V)} (e:H a=some (.dK kvs)):z7q K H (.ref a) (.type "dict")
 |dT {a:Addr}{kvs:List (List Key×V)} (e:H a=some (.dT kvs)):z7q K H (.ref a) (.type "dict")
 |ins {a C dx:Addr}{fs:List (Str×V)} (e:H a=some (.ins C dx fs)) (cl:Cls K C) (ha:PySem.W.findIn K (.ref C) "__class__"=some (some (.builtin "object.__class__")))
  (hn:PySem.W.specialIn K (.builtin "object.__class__") "__get__"=some (some (.builtin "getset_descriptor.__get__"))) (htk:PySem.W.takesIn K (.builtin "object.__class__")=some true)
  (hm:PySem.W.mroIn K C (.type "object")=some true):z7q K H (.ref a) (.ref C)
theorem z9E {x:V}{u t:Value} (I:Inv X pins σ H s) (rx:RelV x u) (ty:z7q X.K H x t) (e:PySem.W.kitOne X.K t c=some b) (h:∀tk,Q (.bool b) {s with toks:=tk}):
 wpAny (model X.prog X.w) A (call (.builtin "isinstance") [u,c]) Q E s:=by
 cases ty with
 |non=>cases (show u=Value.none from rx);exact PySem.W.kia_one PySem.W.kitx_none I.kIn True.intro e (fun z=>nomatch z) h
 |bl y=>cases (show u=Value.bool y from rx);exact PySem.W.kia_one PySem.W.kitx_bool I.kIn True.intro e (fun z=>nomatch z) h
 |int i=>obtain⟨t,q⟩:=(show ∃t,u=Value.int i t from rx);cases q;exact PySem.W.kia_one PySem.W.kitx_int I.kIn True.intro e (fun z=>nomatch z) h
 |str y=>obtain⟨t,q⟩:=(show ∃t,u=Value.str y t from rx);cases q;exact PySem.W.kia_one PySem.W.kitx_str I.kIn True.intro e (fun z=>nomatch z) h
 |flt y=>obtain⟨t,q⟩:=(show ∃t,u=Value.float y t from rx);cases q;exact PySem.W.kia_one PySem.W.kitx_float I.kIn True.intro e (fun z=>nomatch z) h
 | @lst a xs ea=>
   cases (show u=Value.ref a from rx)
   obtain⟨_,_,n,_,h1⟩:=(show ObjOk X.prog X.w H s.heap a (.lst xs) from I.hok a _ ea)
   exact q1g PySem.W.kitx_list I.kIn ⟨_,h1,rfl⟩ e (fun z=>nomatch z) h
 | @frz a ob xs ea=>
   cases (show u=Value.ref a from rx)
   obtain⟨_,_,_,n,_,h1⟩:=(show ObjOk X.prog X.w H s.heap a (.frz ob (.lst xs)) from I.hok a _ ea)
   exact q1g PySem.W.kitx_list I.kIn ⟨_,h1,rfl⟩ e (fun z=>nomatch z) h
 | @tup a xs ea=>
   cases (show u=Value.ref a from rx)
   obtain⟨_,_,_,p⟩:=(show ObjOk X.prog X.w H s.heap a (.tup xs) from I.hok a _ ea)
   obtain⟨o,h1,h2,_⟩:=p
   exact q1g PySem.W.kitx_tuple I.kIn ⟨o,h1,h2⟩ e (fun z=>nomatch z) h
 | @dK a kvs ea=>
   cases (show u=Value.ref a from rx)
   obtain⟨_,_,vs,_,p⟩:=(show ObjOk X.prog X.w H s.heap a (.dK kvs) from I.hok a _ ea)
   obtain⟨o,es,ep,h1,h2,_⟩:=p
   exact q1g PySem.W.kitx_dict I.kIn ⟨o,h1,h2.1⟩ e (fun z=>nomatch z) h
 | @dT a kvs ea=>
   cases (show u=Value.ref a from rx)
   obtain⟨_,_,xs,_,o,es,ep,h1,h2,_⟩:=(show ObjOk X.prog X.w H s.heap a (.dT kvs) from I.hok a _ ea)
   exact q1g PySem.W.kitx_dict I.kIn ⟨o,h1,h2.1⟩ e (fun z=>nomatch z) h
 | @ins a C dx fs ea cl ha hn htk hm=>
   cases (show u=Value.ref a from rx)
   obtain⟨mA,O,_⟩:=y2z I.hok ea
   obtain⟨od,J,_⟩:=O.look
   exact q1g (PySem.W.kitx_own (cl.get _) cl.hd ha hn htk hm) I.kIn J e (fun z=>nomatch z) h
end
end L2
namespace L2
open PySem PySem.Spec PyProof.Rows
structure Room (k:Nat) (A:Around):Prop where
 hd:A.handled=none
 dp:A.depth+3*k+5<recursionLimit
 un:A.units+16*k+200<cLine
theorem Room.mono {j k:Nat}{A:Around} (r:Room k A) (h:j≤k):Room j A:=⟨r.hd,by have:=r.dp;lia,by have:=r.un;lia⟩
theorem Room.deeper {k:Nat}{A:Around} (r:Room (k+1) A) (env:Env):Room k (A.deeper env):=
 ⟨r.hd,by have:=r.dp;show A.depth+1+3*k+5<_;lia,by have:=r.un;show A.units+3+16*k+200<_;lia⟩
theorem Room.in1 {k:Nat}{A:Around} (r:Room (k+1) A):Room k A.in1:=
 ⟨r.hd,by have:=r.dp;show A.depth+3*k+5<_;lia,by have:=r.un;show A.units+1+16*k+200<_;lia⟩
theorem Room.depth {k:Nat}{A:Around} (r:Room k A):A.depth<recursionLimit:=by have:=r.dp;lia
theorem Room.units {k:Nat}{A:Around} (r:Room k A):A.units+64<cLine:=by have:=r.un;lia
def tNil:TA:=fun _ H Q=>Q [] H
def y0r (ta:TE) (tr:TA):TA:=fun σ H Q=>ta σ H fun x H1=>tr σ H1 fun xs H2=>Q (x::xs) H2
section
variable {X:Cx}{e:Expr}{es:List Expr}{te:TE}{t:TA}{pos:Pos}
theorem z0e:PA X [] tNil:=fun _ _ _ _ H Q I h=>Calls.spliced_nil ⟨[],H,I,.nil,h⟩
theorem z0a (ha:PE X e te) (hr:PA X es t) (hs:starEach (e::es) X.env=(false,eval e X.env)::starEach es X.env:=by rfl):PA X (e::es) (y0r te t):=by
 intro pos pins s σ H Q I h
 rw[hs]
 show wpAny _ _ (spliced ((false,eval e X.env)::backTo pos (starEach es X.env))) _ _ s
 refine Calls.spliced_cons (thn (ha pins s σ H _ I h) fun u s1 ⟨x,H1,I1,r1,q1⟩=>?_)
 exact thn (hr pos pins s1 σ H1 _ I1 q1) fun us s2 ⟨xs,H2,I2,r2,q2⟩=>⟨x::xs,H2,I2,.cons r1 r2,q2⟩
def tTup (t:TA):TE:=fun σ H Q=>t σ H fun xs H1=>xs.length≤sizeLine∧∀p,H1 p=none→Q (.ref p) (upd H1 p (.tup xs))
def tLst (t:TA):TE:=fun σ H Q=>t σ H fun xs H1=>xs.length≤sizeLine∧∀p,H1 p=none→Q (.ref p) (upd H1 p (.lst xs))
theorem z2M {x1} (h:PA X es t):PE X (.Tuple es x1 pos) (tTup t):=by
 intro pins s σ H Q I hq
 refine wpAny_Tuple_spliced (thn (h pos pins s σ H _ I hq) fun us s1 ⟨xs,H1,I1,r,z,q⟩=>⟨by rw[←r.length];exact z,?_⟩)
 have hf:H1 s1.heap.objs.size=none:=I1.hok.fresh (q0k _)
 refine⟨.ref s1.heap.objs.size,upd H1 s1.heap.objs.size (.tup xs),I1.laid (t':=s1.toks) (fun b u e=>q0d _ e) (q0k _) ?_,rfl,q _ hf⟩
 exact⟨z,us,r,⟨_,q0l _ rfl,rfl,_,rfl⟩⟩
theorem z0H (h:PA X es t):PE X (.List es pos) (tLst t):=by
 intro pins s σ H Q I hq
 refine wpAny_List_spliced (thn (h pos pins s σ H _ I hq) fun us s1 ⟨xs,H1,I1,r,z,q⟩=>⟨by rw[←r.length];exact z,?_⟩)
 have hf:H1 s1.heap.objs.size=none:=I1.hok.fresh (q0k _)
 refine⟨.ref s1.heap.objs.size,upd H1 s1.heap.objs.size (.lst xs),I1.laid (t':=s1.toks) (fun b u e=>q0d _ e) (q0k _) ?_,rfl,q _ hf⟩
 exact⟨z,us,0,r,q0l _ rfl⟩
end
abbrev Sp:=List V→Hp→VK→XK→Prop
abbrev CXT:=List Env→Hp→Shared→XK→Value→Shared→Prop
structure Env0 (P:Program) (w:World) (K:PySem.W.Frag) (mg:Str→Option Value) (base:Heap) (A:Around) (outer:List Env) (s:Shared) (H:Hp):Prop where
 frames:A.frames=some outer
 mod:Mod K mg base
 bs:∀b o,base.get? b=some o→s.heap.get? b=some o∧H b=none
 bsz:base.objs.size≤s.heap.objs.size
 funs:s.heap.FunFrames base outer
 frf:∀b∈frs outer,H b=none
 hok:HOk P w H s.heap
 bare:AllBare s.gens
def CE (outer:List Env) (P:Program) (w:World) (H:Hp) (s:Shared) (Q:VK) (u:Value) (s':Shared):Prop:=
 ∃v H',s'.os=s.os∧AllBare s'.gens∧Un (frs outer) [] H H' s.heap s'.heap∧HOk P w H' s'.heap∧RelV v u∧Q v H'
def CR (CX:CXT) (outer:List Env) (P:Program) (w:World) (H:Hp) (s:Shared) (Q:VK) (E:XK) (r:Result) (s':Shared):Prop:=
 match r with
 | .ok (.ret u)=>CE outer P w H s Q u s'
 | .ok _=>False
 | .error e=>CX outer H s E e s'
structure FnOk (P:Program) (w:World) (K:PySem.W.Frag) (mg:Str→Option Value) (base:Heap) (CX:CXT) (k:Nat) (f:Addr) (fd:FuncData) (ps:List Str) (sp:Sp):Prop where
 len:∀vs H Q E,sp vs H Q E→vs.length=ps.length
 run:∀(A:Around) (outer:List Env) (s:Shared) (H:Hp) (args:Args) (us:List Value) (vs:List V) (Q:VK) (E:XK),Room k A→Env0 P w K mg base A outer s H→BindsTo s fd args (ps.zip us)→Vals vs us→sp vs H Q E→
  codeAny (model P w) A (.call (.ref f) args) (CR CX outer P w H s Q E) s
theorem FnOk.mono {P:Program}{w:World}{K:PySem.W.Frag}{mg:Str→Option Value}{base:Heap}{CX:CXT}{j k:Nat}{f:Addr}{fd:FuncData}{ps:List Str}{sp:Sp} (F:FnOk P w K mg base CX j f fd ps sp) (h:j≤k):
 FnOk P w K mg base CX k f fd ps sp:=⟨F.len,fun A outer s H args us vs Q E hr=>F.run A outer s H args us vs Q E (hr.mono h)⟩
theorem Env0.in1 {P:Program}{w:World}{K:PySem.W.Frag}{mg:Str→Option Value}{base:Heap}{A:Around}{outer:List Env}{s:Shared}{H:Hp} (e:Env0 P w K mg base A outer s H):
 Env0 P w K mg base A.in1 outer s H:=⟨e.frames,e.mod,e.bs,e.bsz,e.funs,e.frf,e.hok,e.bare⟩
section
variable {X:Cx}{pins:List (Addr×Obj)}{σ:St}{H:Hp}{s s':Shared}
theorem Inv.env0 (I:Inv X pins σ H s):Env0 X.prog X.w X.K X.mg X.base X.A X.stack s H:=
 ⟨I.ok.frames,I.ok.mod,I.bs,q0q I.ok.bsz I.sz,I.stack,I.stkFree,I.hok,I.bare⟩
theorem Inv.after {Q:VK}{u:Value} (I:Inv X pins σ H s) (h:CE X.stack X.prog X.w H s Q u s'):EP X pins σ Q u s':=by
 obtain⟨v,H',os,bare,un,hok,r,q⟩:=h
 obtain⟨hh,g,d,t,os'⟩:=s'
 obtain rfl:os'=s.os:=os
 exact⟨v,H',I.call (h':=hh) (g':=g) (d':=d) (t':=t) (ch:=[]) un hok bare (fun b z=>absurd z (by simp)),r,q⟩
end
def y2X (sp:Sp) (dvs:List V) (E:XK) (t:TA):TE:=fun σ H Q=>t σ H fun vs H1=>sp (vs++dvs) H1 Q E
def Binds (K:PySem.W.Frag) (fd:FuncData) (ps:List Str) (ds:List Value):Prop:=
 ∀(s:Shared) (us:List Value),K.In s.heap→(us++ds).length =ps.length→BindsTo s fd ⟨us,[]⟩ (ps.zip (us++ds))
theorem Binds.all {K:PySem.W.Frag}{fd:FuncData}{ps:List Str} (h:∀us:List Value,us.length=ps.length→bindArgs fd ⟨us,[]⟩=pure (ps.zip us)):Binds K fd ps []:=fun s us _ hl=>by
 rw[q1n] at hl ⊢
 exact .of_eq (h us hl)
def y0i (CX:CXT) (X:Cx) (E:XK):Prop:=∀(pins:List (Addr×Obj)) (σ:St) (H:Hp) (s:Shared) (e:Value) (s':Shared),Inv X pins σ H s→CX X.stack H s E e s'→X.xe e s'
section
variable {X:Cx}{CX:CXT}{k:Nat}{f C:Addr}{fd:FuncData}{ps:List Str}{sp:Sp}{dvs:List V}{ds:List Value}{E:XK}{x m:Str}{p pos apos:Pos}{e o:Expr}{es:List Expr}{ta:TE}{t:TA}
theorem y3f {pins:List (Addr×Obj)}{σ:St}{H:Hp}{s:Shared}{Q:VK}{us:List Value}{vs:List V} (F:FnOk X.prog X.w X.K X.mg X.base CX k f fd ps sp) (hr:Room k X.A) (hb:Binds X.K fd ps ds) (hd:Vals dvs ds) (hx:y0i CX X E)
 (I:Inv X pins σ H s) (r:Vals vs us) (h:sp (vs++dvs) H Q E):wpAny (model X.prog X.w) X.A (call (.ref f) us) (EP X pins σ Q) X.xe s:=by
 have r2:Vals (vs++dvs) (us++ds):=r.append hd
 have hl:(us++ds).length =ps.length:=by rw[←r2.length];exact F.len _ _ _ _ h
 refine wpAny_call (codeAny_mono (F.run X.A X.stack s H ⟨us,[]⟩ (us++ds) (vs++dvs) Q E hr I.env0 (hb s us I.kIn hl) r2 h) fun r s' hq=>?_)
 cases r with
 |error e=>exact hx pins σ H s e s' I hq
 |ok fl=>
  cases fl with
  |ret u=>exact I.after hq
  |next=>exact False.elim hq
  |brk=>exact False.elim hq
  |cont=>exact False.elim hq
theorem y2p (F:FnOk X.prog X.w X.K X.mg X.base CX k f fd ps sp) (hr:Room k X.A) (hg:Gl X x) (hm:X.mg x=some (.ref f)) (hk:PySem.W.keepIn X.K (.ref f)=true) (hb:Binds X.K fd ps ds) (hd:Vals dvs ds) (hx:y0i CX X E)
 (ha:PA X (e::es) t) (hdb:(x==("__debug__":Str))=false:=by decide) (he:starEach (e::es) X.env=(false,eval e X.env)::starEach es X.env:=by rfl) (hpl:(backTo pos (starEach es X.env)).any (·.1)=false:=by rfl):
 PE X (.Call (.Name x p) (e::es) [] pos) (y2X sp dvs E t):=by
 intro pins s σ H Q I h
 refine wpAny_Call_Name_kw (z9u I hg hm ?_ hdb)
 refine PySem.W.callWith_K (h₀:=X.base) I.ok.mod.kin hk (thn (ha pos pins s σ H _ I h) fun us s1 ⟨vs,H1,I1,r,q⟩=>⟨I1.kIn,?_⟩) he hpl
 exact y3f F hr hb hd hx I1 r q
end
def PK (X:Cx) (kws:List Keyword) (t:TA):Prop:=
 ∀(pos:Pos) (pins:List (Addr×Obj)) (s:Shared) (σ:St) (H:Hp) (Q:List V→Hp→Prop),Inv X pins σ H s→t σ H Q→wpAny (model X.prog X.w) X.A (evalAll ((backToKw pos (keywordEach kws X.env)).map (·.2))) (AP X pins σ Q) X.xe s
section
variable {X:Cx}{CX:CXT}{k:Nat}{f C:Addr}{fd:FuncData}{ps ks:List Str}{sp:Sp}{E:XK}{x m:Str}{p pos apos kpos:Pos}{e o:Expr}{es:List Expr}{kws:List Keyword}{te ta:TE}{t tk:TA}{nm:Option Str}
theorem y1C:PK X [] tNil:=fun _ _ _ _ H Q I h=>wpAny_evalAll_nil ⟨[],H,I,.nil,h⟩
theorem z9a (ha:PE X e te) (hr:PK X kws t):PK X (⟨nm,e,kpos⟩::kws) (y0r te t):=by
 intro pos pins s σ H Q I h
 show wpAny _ _ (evalAll ((do let v ←eval e X.env;standAt pos;pure v)::(backToKw pos (keywordEach kws X.env)).map (·.2))) _ _ s
 refine wpAny_evalAll_cons (wpAny_bind (thn (ha pins s σ H _ I h) fun u s1 ⟨x,H1,I1,r1,q1⟩=>wpAny_bind (wpAny_standAt (wpAny_pure ?_))))
 exact thn (hr pos pins s1 σ H1 _ I1 q1) fun us s2 ⟨xs,H2,I2,r2,q2⟩=>⟨x::xs,H2,I2,.cons r1 r2,q2⟩
variable {g:List Value→List Value→List Value}{gV:List V→List V→List V}
end
structure z0x (N P:List Str) (sc:Scope):Prop where
 kind:sc.kind= .function
 co:sc.isCoroutine=false
 gen:sc.isGenerator=false
 nd:N.Nodup
 pre:N.take P.length=P
 par:∀x∈P,sc.names.lookup x=some .local ∨sc.names.lookup x=some .cell
 nofree:∀y∈sc.names,y.2≠ .free
theorem z5K {kindOf:Str→Option NameKind}{x:Str}:∀{binds:List (Str×Value)}{m:Str→Option Value},(∀v,(x,v)∉binds)→bindL kindOf binds m x=m x
 |[],_,_=>rfl
 |(n,v)::r,m,h=>by
  unfold bindL
  rw[z5K fun w hw=>h w (q0f _ hw)]
  split
  ·have:x≠n:=by rintro rfl;exact h v q0i
   simp[this]
  ·rfl
theorem z5M {kindOf:Str→Option NameKind}{x:Str}:∀{binds:List (Str×Value)}{m:Str→Option Value},(∀v,(x,v)∉binds)→bindC kindOf binds m x=m x
 |[],_,_=>rfl
 |(n,v)::r,m,h=>by
  unfold bindC
  rw[z5M fun w hw=>h w (q0f _ hw)]
  split
  ·rfl
  ·have:x≠n:=by rintro rfl;exact h v q0i
   simp[this]
theorem z5L {kindOf:Str→Option NameKind}{x:Str}{v:Value}:∀{P:List Str}{vs:List Value}{i:Nat}{m:Str→Option Value},P.Nodup→P[i]? =some x→vs[i]? =some v→kindOf x=some .local →
 bindL kindOf (P.zip vs) m x=some v
 |[],_,_,_,_,h,_,_=>by simp at h
 |_::_,[],_,_,_,_,h,_=>by simp at h
 |p::P,w::vs,0,m,nd,h1,h2,hk=>by
  simp at h1 h2;subst h1;subst h2
  show bindL kindOf ((p,w)::P.zip vs) m p=_
  unfold bindL
  rw[z5K fun v hv=>(List.nodup_cons.mp nd).1 (q1v hv).1,if_pos hk]
  simp
 |p::P,w::vs,i+1,m,nd,h1,h2,hk=>by
  show bindL kindOf ((p,w)::P.zip vs) m x=_
  unfold bindL
  exact z5L (i:=i) (List.nodup_cons.mp nd).2 (by simpa using h1) (by simpa using h2) hk
theorem z5N {kindOf:Str→Option NameKind}{x:Str}{v:Value}:∀{P:List Str}{vs:List Value}{i:Nat}{m:Str→Option Value},P.Nodup→P[i]? =some x→vs[i]? =some v→kindOf x≠some .local →
 bindC kindOf (P.zip vs) m x=some v
 |[],_,_,_,_,h,_,_=>by simp at h
 |_::_,[],_,_,_,_,h,_=>by simp at h
 |p::P,w::vs,0,m,nd,h1,h2,hk=>by
  simp at h1 h2;subst h1;subst h2
  show bindC kindOf ((p,w)::P.zip vs) m p=_
  unfold bindC
  rw[z5M fun v hv=>(List.nodup_cons.mp nd).1 (q1v hv).1,if_neg hk]
  simp
 |p::P,w::vs,i+1,m,nd,h1,h2,hk=>by
  show bindC kindOf ((p,w)::P.zip vs) m x=_
  unfold bindC
  exact z5N (i:=i) (List.nodup_cons.mp nd).2 (by simpa using h1) (by simpa using h2) hk
def start (N:List Str) (vs:List V):St:=vs.map some++List.replicate (N.length - vs.length) none
def y0k (CX:CXT) (P:Program) (w:World) (K:PySem.W.Frag) (mg:Str→Option Value) (base:Heap) (N:List Str) (qual:Str) (scope:Scope) (f:Addr) (cd:Value) (A:Around) (outer:List Env) (s:Shared) (H:Hp) (E:XK):Cx where
 prog:=P
 w:=w
 K:=K
 mg:=mg
 base:=base
 A:=A.deeper (envOfC qual scope s.heap.objs.size f cd)
 N:=N
 s₀:=s
 H₀:=H
 env:=envOfC qual scope s.heap.objs.size f cd
 outer:=outer
 stack:=envOfC qual scope s.heap.objs.size f cd::outer
 ex:=[]
 calm:=true
 fn:=fun _=>true
 pn:=[]
 xe:=fun e s'=>wpAny (model P w) (A.deeper (envOfC qual scope s.heap.objs.size f cd)) (leaving (envOfC qual scope s.heap.objs.size f cd) e) (fun _ s''=>CX outer H s E e s'') (fun e' s''=>CX outer H s E e' s'') s'
theorem z7l {sc:Scope}{n:Nat}{x:Str} (h:sc.names.lookup x=some .cell):∃c,(cellsFrom n sc.names []).lookup x=some c:=by
 have q:=PySem.W.cellsFrom_some sc.names n [] (.inl h)
 exact Option.isSome_iff_exists.mp q
theorem z5A {CX:CXT}{P:Program}{w:World}{K:PySem.W.Frag}{mg:Str→Option Value}{base:Heap}{N ps:List Str}{qual:Str}{scope:Scope}{f:Addr}{cd:Value}{A:Around}{outer:List Env}{s s1:Shared}{H:Hp}{E:XK}{us:List Value}{vs:List V}
 (S:z0x N ps scope) (hd:A.handled=none) (e0:Env0 P w K mg base A outer s H) (hl:vs.length=ps.length) (r:Vals vs us)
 (x:InCallC s s.heap.objs.size (bindL (envOfC qual scope s.heap.objs.size f cd).kindOf (ps.zip us) fun _=>none) (cellsFrom (s.heap.objs.size+1) scope.names []) (bindC (envOfC qual scope s.heap.objs.size f cd).kindOf (ps.zip us) fun _=>none) s1):
 Inv (y0k CX P w K mg base N qual scope f cd A outer s H E) [] (start N vs) H s1:=by
 have hpl:ps.length≤N.length:=by have:=congrArg List.length S.pre;rw[q0O] at this;lia
 obtain⟨h1,tk,rfl,hk⟩:=x.done
 have noA:∀b:Addr,b∉(y0k CX P w K mg base N qual scope f cd A outer s H E).ex :=fun b z=>absurd (show b∈([]:List Addr) from z) (by simp)
 refine⟨⟨e0.mod,S.kind,rfl,rfl,q0k _,fun y z c h1 h2=>?_,fun y hy=>?_,fun y c _ h=>?_,fun _=>hd,Around.frames_deeper e0.frames,.inr ⟨rfl,rfl⟩,fun b z=>absurd z (noA b),e0.bs,e0.bsz,fun b _ _=>noA b,fun b z=>absurd z (noA b),e0.funs,e0.frf⟩,
  rfl,e0.bare,Un.kept hk,⟨_,x.toInCall.ns,fun i y v h1 h2 h3=>?_⟩,fun y c h=>⟨_,x.cell y c h⟩,e0.hok.fresh (q0k _),fun y c h=>?_,fun p hp=>absurd (show p∈([]:List (Addr×Obj)) from hp) (by simp),e0.hok.kept hk,?_⟩
 ·exact name_of_addr x.apart (PySem.mem_of_lookup h1) (PySem.mem_of_lookup h2)
 ·have hy:scope.names.lookup y=some .cell ∨scope.names.lookup y=some .free :=hy
  rcases hy with hy|hy
  ·exact z7l hy
  ·exact absurd rfl (S.nofree _ (PySem.mem_of_lookup hy))
 ·exact Nat.le_of_lt (x.above y c (PySem.mem_of_lookup h))
 ·have hi:i<vs.length:=by
   unfold start at h2
   by_cases hi:i<vs.length
   ·exact hi
   ·rw[q0V (by simpa using hi)] at h2
    rw[List.getElem?_replicate] at h2
    split at h2<;>cases h2
  have ha:vs[i]? =some v:=by
   unfold start at h2
   rw[q0W (by simpa using hi),q0j] at h2
   cases e:vs[i]? with
   |none=>rw[e] at h2;cases h2
   |some a=>rw[e] at h2;cases h2;rfl
  obtain⟨u,hu,rv⟩:=r.get ha
  have hp:ps[i]? =some y:=by
   rw[←S.pre,List.getElem?_take_of_lt (by lia)];exact h1
  have ndP:ps.Nodup:=by rw[←S.pre];exact S.nd.sublist (List.take_sublist _ _)
  refine⟨u,rv,?_⟩
  rcases S.par y (q0s hp) with k|k
  ·exact .inl ⟨k,z5L ndP hp hu k⟩
  ·obtain⟨c,e⟩:=z7l (n:=s.heap.objs.size+1) k
   refine .inr ⟨.inl k,c,e,?_⟩
   have q:=x.cell y c e
   rw[z5N ndP hp hu (by show scope.names.lookup y≠_;rw[k];decide)] at q
   exact q
 ·exact e0.hok.fresh (Nat.le_of_lt (x.above y c (PySem.mem_of_lookup h)))
 ·unfold start
  show _=N.length
  rw[q0x,q0a,List.length_replicate]
  lia
theorem y3W {CX:CXT}{P:Program}{w:World}{K:PySem.W.Frag}{mg:Str→Option Value}{base:Heap}{k:Nat}{f:Addr}{name qual:Str}{params:Arguments}{body:List Stmt}{scope:Scope}{dV kV doc pm cdv ct oc:Value}{an od:Option Addr}
 {osl:Array (Option Value)}{N ps:List Str}{sp:Sp} (lk:K.lookup f=some ⟨oc,od,.func (PySem.W.fnOf name qual params body scope dV kV doc pm an cdv ct),osl⟩) (hcd:PySem.W.codeIn K cdv qual=true) (S:z0x N ps scope)
 (len:∀vs H Q E,sp vs H Q E→vs.length=ps.length)
 (hbody:∀(A:Around) (outer:List Env) (s:Shared) (H:Hp) (vs:List V) (Q:VK) (E:XK),Room k (A.deeper (envOfC qual scope s.heap.objs.size f cdv))→sp vs H Q E→
  ∃t,PSs (y0k CX P w K mg base N qual scope f cdv A outer s H E) body t∧t {nx:=fun _ H'=>Q .non H',rt:=Q} (start N vs) H):
 FnOk P w K mg base CX (k+1) f (PySem.W.fnOf name qual params body scope dV kV doc pm an cdv ct) ps sp:=by
 refine⟨len,fun A outer s H args us vs Q E hr e0 hb r hsp=>?_⟩
 have hl:=len _ _ _ _ hsp
 have KX:K.In s.heap:=e0.mod.kin.keeps fun b o e=>(e0.bs b o e).1
 have lim:s.heap.NoLimit:=e0.mod.nolimit.keeps fun b o e=>(e0.bs b o e).1
 have hkind:∀y∈ps.zip us,scope.names.lookup y.1=some .local ∨(scope.names.lookup y.1=some .cell ∧((cellsFrom (s.heap.objs.size+1) scope.names []).lookup y.1).isSome =true):=fun⟨n,v⟩ hy=>by
  rcases S.par n (q1v hy).1 with q|q
  ·exact .inl q
  ·exact .inr ⟨q,PySem.W.cellsFrom_some _ _ _ (.inl q)⟩
 refine codeAny_call_function hr.depth (KX _ _ lk) rfl S.co S.gen rfl (PySem.W.codeRec_of KX hcd) (hb _ _ _ _ ?_)
 refine wpAny_newFunctionEnv_cells S.kind hkind fun env he s1 x=>?_
 subst he
 refine⟨lim.keeps x.toInCall.keep,codeAny_func ?_⟩
 obtain⟨t,ht,hq⟩:=hbody A outer s H vs Q E (hr.deeper _) hsp
 have I:Inv (y0k CX P w K mg base N qual scope f cdv A outer s H E) [] (start N vs) H s1:=z5A S hr.hd e0 hl r x
 refine wpAny_mono (ht [] s1 (start N vs) H _ I hq) (fun fl s' hs=>?_) fun e s' hs=>hs
 have fin:∀{σ':St}{H':Hp}{v:V}{u:Value},Inv (y0k CX P w K mg base N qual scope f cdv A outer s H E) [] σ' H' s'→RelV v u→Q v H'→CE outer P w H s Q u s':=
  fun {σ' H' v u} J rv q=>⟨v,H',J.os,J.bare,J.base,J.hok,rv,q⟩
 cases fl with
 |ret u=>
  obtain⟨v,σ',H',J,rv,q⟩:=hs
  exact fin J rv q
 |next=>
  obtain⟨σ',H',J,q⟩:=hs
  exact fin (v:=V.non) (u:=Value.none) J rfl q
 |brk=>
  obtain⟨_,_,_,q⟩:=hs
  exact False.elim q
 |cont=>
  obtain⟨_,_,_,q⟩:=hs
  exact False.elim q
end L2
namespace L2
open PySem PySem.Spec PyProof.Rows
section
variable {X:Cx}{x:Str}{p pos:Pos}{e:Expr}{es:List Expr}{t:TA}{id T:String}{r:List V→Hp→VK→Prop}
def tCB (r:List V→Hp→VK→Prop) (t:TA):TE:=fun σ H Q=>t σ H fun vs H1=>r vs H1 Q
theorem z0u (hc:z1J X (.builtin id) r) (hg:Gl X x) (hm:X.mg x=none) (hv:bootBuiltins x=some (.builtin id)) (ha:PA X (e::es) t) (hn:x≠"__name__":=by decide) (hdb:(x==("__debug__":Str))=false:=by decide)
 (he:starEach (e::es) X.env=(false,eval e X.env)::starEach es X.env:=by rfl) (hpl:(backTo pos (starEach es X.env)).any (·.1)=false:=by rfl):PE X (.Call (.Name x p) (e::es) [] pos) (tCB r t):=by
 intro pins s σ H Q I h
 refine wpAny_Call_Name_kw (z2N I hg hm hv ?_ hn hdb)
 exact PyProof.Rows.callWith_builtin1 (thn (ha pos pins s σ H _ I h) fun us s1 ⟨vs,H1,I1,r1,q1⟩=>hc pins s1 σ H1 vs us Q I1 r1 q1) he hpl
theorem z0E (hc:z1J X (.type T) r) (hg:Gl X x) (hm:X.mg x=none) (hv:bootBuiltins x=some (.type T)) (ha:PA X (e::es) t) (hn:x≠"__name__":=by decide) (hdb:(x==("__debug__":Str))=false:=by decide)
 (he:starEach (e::es) X.env=(false,eval e X.env)::starEach es X.env:=by rfl) (hpl:(backTo pos (starEach es X.env)).any (·.1)=false:=by rfl):PE X (.Call (.Name x p) (e::es) [] pos) (tCB r t):=by
 intro pins s σ H Q I h
 refine wpAny_Call_Name_kw (z2N I hg hm hv ?_ hn hdb)
 exact PyProof.Rows.callWith_type1 (thn (ha pos pins s σ H _ I h) fun us s1 ⟨vs,H1,I1,r1,q1⟩=>hc pins s1 σ H1 vs us Q I1 r1 q1) he hpl
end
end L2
namespace HT
open PySem PyProof.Rows
section
open PySem.SeqAt
open PySem.AutoSeq1 (wpAny_loadPart')
open PySem.MeetsSeq PySem.MeetsSeq2 PySem.MeetsSeq3
end
section
variable {prog:Program}{w:World}{A:Around}{E:Value→Shared→Prop}{s:Shared}
def sIx (n d:Nat):Option Int→Nat
 |none=>d
 |some v=>if v<0 then (v+(n:Int)).toNat else min v.toNat n
theorem sIx_none (n d:Nat):sIx n d none=d:=rfl
theorem y3e (n d:Nat) (hd:d≤n) (o:Option Int):sIx n d o≤n:=by
 cases o with
 |none=>exact hd
 |some v=>
  show (if v<0 then (v+(n:Int)).toNat else min v.toNat n)≤n
  by_cases hv:v<0
  ·rw[if_pos hv];lia
  ·rw[if_neg hv];exact Nat.min_le_right _ _
theorem y0d (v:Int) (n d:Nat):(if v<0 then max (v+(n:Int)) 0 else min v (n:Int))=((sIx n d (some v):Nat):Int):=by
 show (if v<0 then max (v+(n:Int)) 0 else min v (n:Int))=(((if v<0 then (v+(n:Int)).toNat else min v.toNat n):Nat):Int)
 by_cases hv:v<0
 ·simp only[if_pos hv];lia
 ·simp only[if_neg hv];lia
theorem z8n (lo hi:Option Int) (n:Nat):Builtin.Slice.sliceAdjust lo hi 1 (n:Int)=(((sIx n 0 lo:Nat):Int),((sIx n n hi:Nat):Int)):=by
 have h1:¬((1:Int)<0):=by lia
 unfold Builtin.Slice.sliceAdjust
 simp only[h1,if_false]
 refine Prod.ext ?_ ?_
 ·cases lo with
  |none=>rfl
  |some v=>exact y0d v n 0
 ·cases hi with
  |none=>rfl
  |some v=>exact y0d v n n
theorem z7H (i j:Nat):Builtin.Slice.slicePlaces (i:Int) (j:Int) 1=j - i:=by
 unfold Builtin.Slice.slicePlaces
 have h1:(1:Int)>0:=by lia
 simp only[h1,if_true,Int.ediv_one]
 split<;>lia
theorem z3Z {v:Value}{o:Option Int}{Q:Option Int→Shared→Prop} (p:IsPart v o) (h:Q o s):wpAny (model prog w) A (Builtin.Slice.slicePartIndex v) Q E s:=by
 cases p with
 |none=>exact slicePart_none h
 |int i t=>exact slicePart_int h
theorem z2R {sl:Addr}{vl vu:Value}{lo hi:Option Int}{n:Nat}{Q:Int×Int×Nat→Shared→Prop} (hs:s.heap.IsSliceOf sl vl vu .none) (pl:IsPart vl lo) (pu:IsPart vu hi)
 (h:Q (((sIx n 0 lo:Nat):Int),1,sIx n n hi - sIx n 0 lo) s):wpAny (model prog w) A (Builtin.Slice.sliceApplied (.ref sl) (pure (n:Int))) Q E s:=by
 obtain⟨os,hos,hcs,hds⟩:=id hs
 unfold Builtin.Slice.sliceApplied Builtin.Slice.sliceFields
 refine wpAny_bind (wpAny_bind (wpAny_field hos hds (x:=vl) rfl (wpAny_bind (wpAny_field hos hds (x:=vu) rfl (wpAny_bind (wpAny_field hos hds (x:= .none) rfl (wpAny_pure ?_)))))))
 refine wpAny_bind (slicePart_none ?_)
 show wpAny _ _ (if ((1:Int)==0)=true then _ else _) _ _ s
 rw[if_neg (by decide)]
 refine wpAny_bind (z3Z pl (wpAny_bind (z3Z pu (wpAny_bind (wpAny_pure ?_)))))
 show wpAny _ _ (match Builtin.Slice.sliceAdjust lo hi 1 (n:Int) with|(lo,hi)=>pure (lo,(1:Int),Builtin.Slice.slicePlaces lo hi 1)) _ _ s
 rw[z8n lo hi n]
 show wpAny _ _ (pure (((sIx n 0 lo:Nat):Int),(1:Int),Builtin.Slice.slicePlaces ((sIx n 0 lo:Nat):Int) ((sIx n n hi:Nat):Int) 1)) _ _ s
 rw[z7H]
 exact wpAny_pure h
theorem y0J (xs:Array Value) (i k:Nat):((List.range k).filterMap fun (m:Nat)=>xs[((i:Int)+(m:Int)*1).toNat]?).toArray =((xs.toList.drop i).take k).toArray :=by
 have e:(fun (m:Nat)=>xs[((i:Int)+(m:Int)*1).toNat]?)=fun m=>xs[i+m]? :=by
  funext m
  have:((i:Int)+(m:Int)*1).toNat =i+m:=by lia
  rw[this]
 rw[e]
 have:=pick_run xs i k
 rw[List.filterMap_map] at this
 have e2:((fun x=>xs[x]?)∘fun x=>i+x)=fun m=>xs[i+m]? :=rfl
 rw[e2] at this
 rw[this]
theorem getItem_tuple_cut {t sl:Addr}{items:Array Value}{vl vu:Value}{lo hi:Option Int}{Q:Value→Shared→Prop} (ht:IsTup s.heap t items) (hs:s.heap.IsSliceOf sl vl vu .none) (pl:IsPart vl lo) (pu:IsPart vu hi)
 (hw:¬(sIx items.size 0 lo=0∧sIx items.size items.size hi=items.size))
 (h:Q (.ref s.heap.objs.size) {s with heap:=s.heap.push {cls:= .type "tuple",data:= .seq ((items.toList.drop (sIx items.size 0 lo)).take (sIx items.size items.size hi - sIx items.size 0 lo)).toArray}})
 (hsz:items.size≤sizeLine):wpAny (model prog w) A (getItem (.ref t) (.ref sl)) Q E s:=by
 have htake:sizeOk (.seq ((items.toList.drop (sIx items.size 0 lo)).take (sIx items.size items.size hi - sIx items.size 0 lo)).toArray):=by
  show ((items.toList.drop (sIx items.size 0 lo)).take (sIx items.size items.size hi - sIx items.size 0 lo)).toArray.size ≤sizeLine
  rw[q0h,q0O,List.length_drop,q0K]
  lia
 have hj:sIx items.size items.size hi≤items.size:=y3e _ _ (q0k _) hi
 obtain⟨os,hos,hcs,hds⟩:=id hs
 have hTs:s.TypeIs (.ref sl) "slice":=⟨os,hos,hcs⟩
 unfold getItem
 try with_reducible refine wpAny_holding ?_
 first|refine wpAny_bind (wpAny_pure ?_)|skip
 refine wpAny_bind (wpAny_sequenceKey ht.typeIs (by decide) ?_)
 refine wpAny_bind (wpAny_callSpecial?_slot (name:=Str.ofString "__getitem__") ht.typeIs PyProof.Rows.slot_tuple_getitem
  (wpAny_call_entry PyProof.Rows.slot_tuple_getitem ht.typeIs entry_tuple_getitem ?_ (args_tuple_getitem _ _)))
 show wpAny _ _ (Builtin.Tuple.tupleItemsOf (.ref t)>>= _) _ _ s
 refine wpAny_bind (tupleItemsOf_ ht ?_)
 refine wpAny_bind (wpAny_typeOf hTs ?_)
 rw[if_pos (by decide)]
 refine wpAny_bind (z2R hs pl pu ?_)
 have hno:¬((((sIx items.size 0 lo:Nat):Int)==0&&(1:Int)==1&&(sIx items.size items.size hi - sIx items.size 0 lo)==items.size)=true):=by
  intro q
  rw[q1j,q1j] at q
  have q1:((sIx items.size 0 lo:Nat):Int)=0:=eq_of_beq q.1.1
  have q2:sIx items.size items.size hi - sIx items.size 0 lo=items.size:=eq_of_beq q.2
  exact hw ⟨by lia,by lia⟩
 show wpAny _ _ (if (((sIx items.size 0 lo:Nat):Int)==0&&(1:Int)==1&&(sIx items.size items.size hi - sIx items.size 0 lo)==items.size)=true then _ else _) _ _ s
 rw[if_neg hno,y0J]
 first
  |exact wpAny_bind (m:=Builtin.Tuple.tupleExact _) (wpAny_newObj_type (wpAny_pure ⟨_,rfl,wpAny_pure h⟩) htake)
  |exact wpAny_bind (m:=Builtin.Tuple.tupleExact _) (wpAny_newObj_type (wpAny_bind (wpAny_pure (wpAny_pure ⟨_,rfl,wpAny_pure h⟩))) htake)
  |exact wpAny_bind (wpAny_bind (m:=Builtin.Tuple.tupleExact _) (wpAny_newObj_type (wpAny_pure (wpAny_pure ⟨_,rfl,wpAny_pure h⟩)) htake))
  |exact wpAny_bind (wpAny_bind (m:=Builtin.Tuple.tupleExact _) (wpAny_newObj_type (wpAny_pure ⟨_,rfl,wpAny_pure h⟩) htake))
end
end HT
namespace L2
open PySem PySem.Spec PyProof.Rows
abbrev TO:=St→Hp→(Option Int→Hp→Prop)→Prop
def PO (X:Cx) (e:Option Expr) (t:TO):Prop:=
 ∀(pins:List (Addr×Obj)) (s:Shared) (σ:St) (H:Hp) (Q:Option Int→Hp→Prop),Inv X pins σ H s→t σ H Q→
  wpAny (model X.prog X.w) X.A (evalPart e X.env) (fun u s'=>∃o H',Inv X pins σ H' s'∧IsPart u o∧Q o H') X.xe s
def y2b:TO:=fun _ H Q=>Q none H
def tPart (t:TE):TO:=fun σ H Q=>t σ H fun x H1=>∃i,x= .int i∧Q (some i) H1
section
variable {X:Cx}{e:Expr}{te:TE}{lo hi:Option Expr}{tl th:TO}{pos p2:Pos}
theorem z3s:PO X none y2b:=by
 intro pins s σ H Q I h
 rw[evalPart_none]
 exact wpAny_pure ⟨none,H,I,.none,h⟩
theorem z3r (h:PE X e te):PO X (some e) (tPart te):=by
 intro pins s σ H Q I hw
 rw[evalPart_some]
 refine thn (h pins s σ H _ I hw) fun u s1 ⟨x,H1,I1,r1,q1⟩=>?_
 obtain⟨i,rfl,q⟩:=q1
 obtain⟨t,rfl⟩:=r1
 exact⟨some i,H1,I1,.int i t,q⟩
def SlR (X:Cx) (r:V→Option Int→Option Int→Hp→VK→Prop):Prop:=
 ∀(pins:List (Addr×Obj)) (s:Shared) (σ:St) (H:Hp) (x:V) (v vl vu:Value) (lo hi:Option Int) (sl:Addr) (Q:VK),Inv X pins σ H s→RelV x v→s.heap.IsSliceOf sl vl vu .none →IsPart vl lo→IsPart vu hi→r x lo hi H Q→
  ∃T id,typeLookup (.type T) "__getitem__"=pure (some (.builtin id))∧s.TypeIs v T∧wpAny (model X.prog X.w) X.A (getItem v (.ref sl)) (EP X pins σ Q) X.xe s
theorem SlR.or {r r':V→Option Int→Option Int→Hp→VK→Prop} (h:SlR X r) (h':SlR X r'):SlR X (fun x lo hi H Q=>r x lo hi H Q∨r' x lo hi H Q):=by
 intro pins s σ H x v vl vu lo hi sl Q I rx hs pl pu q
 rcases q with q|q
 ·exact h pins s σ H x v vl vu lo hi sl Q I rx hs pl pu q
 ·exact h' pins s σ H x v vl vu lo hi sl Q I rx hs pl pu q
def tSl (r:V→Option Int→Option Int→Hp→VK→Prop) (te:TE) (tl th:TO):TE:=fun σ H Q=>te σ H fun x H1=>tl σ H1 fun l H2=>th σ H2 fun u H3=>r x l u H3 Q
theorem z2k {r:V→Option Int→Option Int→Hp→VK→Prop} (hr:SlR X r) (he:PE X e te) (hl:PO X lo tl) (hu:PO X hi th):PE X (.Subscript e (.Slice lo hi none p2) pos) (tSl r te tl th):=by
 intro pins s σ H Q I h
 refine Subscript_ (thn (he pins s σ H _ I h) fun v s1 ⟨x,H1,I1,r1,q1⟩=>?_)
 refine wpAny_Slice (thn (hl pins s1 σ H1 _ I1 q1) fun vl s2 ⟨l,H2,I2,pl,q2⟩=>thn (hu pins s2 σ H2 _ I2 q2) fun vu s3 ⟨u,H3,I3,pu,q3⟩=>?_)
 rw[evalPart_none]
 refine wpAny_pure ?_
 have I4:Inv X pins σ H3 {s3 with heap:=s3.heap.push {cls:= .type "slice",data:= .fields #[vl,vu,.none]}}:=I3.kept (t':=s3.toks) fun b ob q=>q0d _ q
 obtain⟨T,id,hT,ht,hg⟩:=hr pins {s3 with heap:=s3.heap.push {cls:= .type "slice",data:= .fields #[vl,vu,.none]}} σ H3 x v vl vu l u s3.heap.objs.size Q I4 r1 (Heap.IsSliceOf.new ..) pl pu q3
 show wpAny (model X.prog X.w) X.A (subscriptTail e (.Slice lo hi none p2) v (.ref s3.heap.objs.size)) (EP X pins σ Q) X.xe {s3 with heap:=s3.heap.push {cls:= .type "slice",data:= .fields #[vl,vu,.none]}}
 exact tail_any (ops:=[.ref s3.heap.objs.size,v]) ht hT hg (by with_unfolding_all rfl)
def y0l (xs:List V) (lo hi:Option Int):List V:=(xs.drop (HT.sIx xs.length 0 lo)).take (HT.sIx xs.length xs.length hi - HT.sIx xs.length 0 lo)
theorem z3J (xs:List V) (lo hi:Option Int):(y0l xs lo hi).length ≤xs.length:=by
 unfold y0l
 rw[q0O,List.length_drop]
 lia
def rSlT (K:PySem.W.Frag):V→Option Int→Option Int→Hp→VK→Prop:=fun x lo hi H Q=>∃a xs,x= .ref a∧SqT K H a xs∧
 ¬(HT.sIx xs.length 0 lo=0∧HT.sIx xs.length xs.length hi=xs.length)∧∀p,H p=none→Q (.ref p) (upd H p (.tup (y0l xs lo hi)))
theorem y3b:SlR X (rSlT X.K):=by
 intro pins s σ H x v vl vu lo hi sl Q I rx hs pl pu h
 obtain⟨a,xs,rfl,hx,hw,q⟩:=h
 cases rx
 obtain⟨its,r,ht,hz⟩:=I.tuple hx
 have hlen:its.toArray.size=xs.length:=by rw[q0h];exact r.length.symm
 refine⟨"tuple",_,PyProof.Rows.slot_tuple_getitem.lookup,ht.typeIs,?_⟩
 refine HT.getItem_tuple_cut ht hs pl pu (by rw[hlen];exact hw) ?_ (by rw[hlen];exact hz)
 rw[hlen]
 refine⟨.ref s.heap.objs.size,_,I.laid (t':=s.toks) (o:= .tup (y0l xs lo hi)) (fun b ob q=>q0d _ q) (q0k _) ?_,rfl,q _ (I.hok.fresh (q0k _))⟩
 exact⟨q0q (z3J xs lo hi) hz,_,(r.drop (HT.sIx xs.length 0 lo)).take (HT.sIx xs.length xs.length hi - HT.sIx xs.length 0 lo),IsTup.new _ _⟩
end
end L2
namespace L2
open PySem PySem.Spec PyProof.Rows
def ixN (n:Nat) (i:Int):Option Nat:=if 0≤i then (if i<n then some i.toNat else none) else if -(n:Int)≤i then some (i+n).toNat else none
def atI {α:Type} (xs:List α) (i:Int):Option α:=(ixN xs.length i).bind fun j=>xs[j]?
theorem z9C {n:Nat}{i:Int}{j:Nat} (h:ixN n i=some j):seqIndex? i n=some j∧j<n∧ -(n:Int)≤i∧i<n:=by
 unfold ixN at h
 by_cases h0:0≤i
 ·rw[if_pos h0] at h
  by_cases h1:i<n
  ·rw[if_pos h1] at h
   have e:i.toNat=j:=Option.some.inj h
   exact⟨by rw[seqIndex_of h0 h1,e],by lia,by lia,h1⟩
  ·rw[if_neg h1] at h;cases h
 ·rw[if_neg h0] at h
  by_cases h1: -(n:Int)≤i
  ·rw[if_pos h1] at h
   have e:(i+n).toNat =j:=Option.some.inj h
   exact⟨by rw[seqIndex_neg (by lia) h1,e],by lia,h1,by lia⟩
  ·rw[if_neg h1] at h;cases h
theorem y0g {α:Type}{xs:List α}{i:Int}{v:α} (h:atI xs i=some v):∃j,seqIndex? i xs.length=some j∧xs[j]? =some v∧j<xs.length∧ -(xs.length:Int)≤i∧i<xs.length:=by
 unfold atI at h
 cases e:ixN xs.length i with
 |none=>rw[e] at h;cases h
 |some j=>
  rw[e] at h
  obtain⟨h1,h2,h3,h4⟩:=z9C e
  exact⟨j,h1,h,h2,h3,h4⟩
theorem z1i {α:Type}{xs:List α}{j:Nat}{v:α} (h:xs[j]? =some v):atI xs (j:Int)=some v:=by
 have hj:j<xs.length:=(q0E.mp h).1
 have e:ixN xs.length (j:Int)=some j:=by
  unfold ixN
  rw[if_pos (by lia),if_pos (by lia)];simp
 unfold atI;rw[e];exact h
theorem y1o {α:Type} (xs:List α) (v:α):atI (xs++[v]) (-1)=some v:=by
 have hl:(xs++[v]).length =xs.length+1:=by simp
 have e:ixN (xs++[v]).length (-1)=some xs.length:=by
  unfold ixN
  rw[hl,if_neg (by decide),if_pos (by lia)]
  congr 1
  lia
 unfold atI
 rw[e]
 show (xs++[v])[xs.length]? =some v
 simp
def y2J (b:Expr):Prop:=∀o i,subscripted b false o i=operate [o,i] (getItem o i)
def IxR (X:Cx) (r:R2):Prop:=
 ∀(value slice:Expr) (pins:List (Addr×Obj)) (s:Shared) (σ:St) (H:Hp) (x y:V) (v u:Value) (Q:VK),Inv X pins σ H s→RelV x v→RelV y u→r x y H Q→
  subscripted slice false v u=operate [v,u] (getItem v u)→wpAny (model X.prog X.w) X.A (subscriptTail value slice v u) (EP X pins σ Q) X.xe s
def MtR (X:Cx) (id:String) (r:V→List V→Hp→VK→Prop):Prop:=
 ∀(pins:List (Addr×Obj)) (s:Shared) (σ:St) (H:Hp) (x:V) (xs:List V) (v:Value) (us:List Value) (Q:VK),Inv X pins σ H s→RelV x v→Vals xs us→r x xs H Q→
  wpAny (model X.prog X.w) X.A (call (.builtin id) (v::us)) (EP X pins σ Q) X.xe s
section
variable {X:Cx}{a b:Expr}{ta tb:TE}{pos:Pos}
theorem IxR.or {r r':R2} (h:IxR X r) (h':IxR X r'):IxR X (fun x y H Q=>r x y H Q∨r' x y H Q):=by
 intro value slice pins s σ H x y v u Q I rx ry q hs
 rcases q with q|q
 ·exact h value slice pins s σ H x y v u Q I rx ry q hs
 ·exact h' value slice pins s σ H x y v u Q I rx ry q hs
theorem z0G {r:R2} (hr:IxR X r) (ha:PE X a ta) (hb:PE X b tb) (hs:y2J b):PE X (.Subscript a b pos) (tOp r ta tb):=by
 intro pins s σ H Q I h
 exact Subscript_ (binT ha hb I h fun v u s2 x y H2 I2 rx ry q=>hr a b pins s2 σ H2 x y v u Q I2 rx ry q (hs _ _))
def rIxL (K:PySem.W.Frag):R2:=fun x y H Q=>∃p xs i v,x= .ref p∧y= .int i∧SqL K H p xs∧atI xs i=some v∧Q v H
def rIxT (K:PySem.W.Frag):R2:=fun x y H Q=>∃p xs i v,x= .ref p∧y= .int i∧SqT K H p xs∧atI xs i=some v∧Q v H
theorem z9B:IxR X (rIxL X.K):=by
 intro value slice pins s σ H x y v u Q I rx ry h hs
 obtain⟨p,xs,i,z,rfl,rfl,hq,he,q⟩:=h
 cases rx
 obtain⟨t,rfl⟩:=ry
 obtain⟨its,r,pl,hz⟩:=I.list hq
 obtain⟨j,h1,h2,h3,h4,h5⟩:=y0g he
 obtain⟨w,ew,rw'⟩:=r.get h2
 have hl:=r.length
 have hn:=z5v
 have fin:EP X pins σ Q w s:=⟨z,H,I,rw',q⟩
 by_cases h0:0≤i
 ·have hj:i.toNat=j:=by
   rw[seqIndex_of h0 h5] at h1
   exact Option.some.inj h1
  exact item_listR pl.isList h0 (by lia) (by rw[hj];simpa using ew) fin hs
 ·have hj:(i+(its.toArray.size:Int)).toNat =j:=by
   rw[seqIndex_neg (by lia) h4] at h1
   rw[q0h,←hl]
   exact Option.some.inj h1
  exact subscriptTail_builtinR (x:=w) pl.isList.typeIs slot_list_getitem.lookup
   (wpAny_getItem_list_neg (Q:=fun r s'=>r=w∧EP X pins σ Q r s') pl.isList (by lia) (by rw[q0h]<;>lia) (by lia) (by rw[hj];simpa using ew) ⟨rfl,fin⟩) hs
theorem y1L:IxR X (rIxT X.K):=by
 intro value slice pins s σ H x y v u Q I rx ry h hs
 obtain⟨p,xs,i,z,rfl,rfl,hq,he,q⟩:=h
 cases rx
 obtain⟨t,rfl⟩:=ry
 obtain⟨its,r,pl,hz⟩:=I.tuple hq
 obtain⟨j,h1,h2,h3,h4,h5⟩:=y0g he
 obtain⟨w,ew,rw'⟩:=r.get h2
 have hl:=r.length
 have hn:=z5v
 have fin:EP X pins σ Q w s:=⟨z,H,I,rw',q⟩
 exact subscriptTail_builtinR (x:=w) pl.typeIs slot_tuple_getitem.lookup
  (getItem_tuple (j:=j) (Q:=fun r s'=>r=w∧EP X pins σ Q r s') pl (by lia) (by lia) (by rw[q0h,←hl];exact h1) (by simpa using ew) ⟨rfl,fin⟩) hs
theorem z7U (its:List Value) (n j:Nat) (u:Value):Obj.mapSeq (·.setIfInBounds j u) {cls:= .type "list",data:= .seq its.toArray n}={cls:= .type "list",data:= .seq (its.set j u).toArray n}:=by
 simp[Obj.mapSeq]
theorem Inv.lst {pins:List (Addr×Obj)}{σ:St}{H:Hp}{s:Shared}{p:Addr}{xs:List V} (I:Inv X pins σ H s) (h:H p=some (.lst xs)):
 ∃(its:List Value) (n:Nat),Vals xs its∧s.heap.get? p=some {cls:= .type "list",data:= .seq its.toArray n}∧xs.length≤sizeLine:=by
 obtain⟨z,its,n,r,e⟩:=I.hok p _ h
 exact⟨its,n,r,e,z⟩
theorem Inv.lstUpd {pins:List (Addr×Obj)}{σ:St}{H:Hp}{s:Shared}{p:Addr}{xs ys:List V}{its its':List Value}{n n':Nat}{f:Obj→Obj} (I:Inv X pins σ H s) (h:H p=some (.lst xs))
 (ho:s.heap.get? p=some {cls:= .type "list",data:= .seq its.toArray n}) (hf:f {cls:= .type "list",data:= .seq its.toArray n}={cls:= .type "list",data:= .seq its'.toArray n'}) (r:Vals ys its') (hz:ys.length≤sizeLine) (t:Nat):
 Inv X pins σ (upd H p (.lst ys)) {s with heap:=s.heap.update p f,toks:=t}:=by
 have e:(s.heap.update p f).get? p=some {cls:= .type "list",data:= .seq its'.toArray n'}:=by
  rw[Heap.get?_update_self f ho (by rw[hf]<;>rfl),hf]
 refine I.write (x:=p) (e:=p) (by rw[h];trivial) (.inl rfl) (fun b u hb q=>(q0P _ _ (Ne.symm hb)).trans q) ⟨_,e⟩ ?_
 exact⟨hz,its',n',r,e⟩
def rSetL:V→V→V→Hp→(Hp→Prop)→Prop:=fun o i v H Q=>∃p xs k j,o= .ref p∧i= .int k∧H p=some (.lst xs)∧ixN xs.length k=some j∧Q (upd H p (.lst (xs.set j v)))
theorem z1S:PSet X rSetL:=by
 intro pins s σ H o i v ov iv u Q I ro ri rv h
 obtain⟨p,xs,k,j,rfl,rfl,hp,hj,q⟩:=h
 cases ro
 obtain⟨t,rfl⟩:=ri
 obtain⟨its,n,r,ho,hz⟩:=I.lst hp
 obtain⟨h1,h2,h3,h4⟩:=z9C hj
 have hl:=r.length
 have hn:=z5v
 have I':Inv X pins σ (upd H p (.lst (xs.set j v))) {s with heap:=s.heap.update p (Obj.mapSeq (·.setIfInBounds j u))}:=
  I.lstUpd hp ho (z7U its n j u) (r.set rv j) (by rw[List.length_set];exact hz) s.toks
 by_cases h0:0≤k
 ·have hk:k.toNat=j:=by
   rw[seqIndex_of h0 h4] at h1
   exact Option.some.inj h1
  exact PySem.W.ki_setAt ho h0 (by lia) (by rw[q0h,←hl];exact h4) (by rw[hk];exact⟨_,I',q⟩)
 ·have hk:(k+(its.toArray.size:Int)).toNat =j:=by
   rw[seqIndex_neg (by lia) h3] at h1
   rw[q0h,←hl]
   exact Option.some.inj h1
  exact PySem.W.ki_setBack ho (by lia) (by rw[q0h,←hl];exact h3) (by lia) (by rw[hk];exact⟨_,I',q⟩)
theorem z5c (lo hi:Option Int) (n:Nat):(sliceBounds lo hi none n).1 =((HT.sIx n 0 lo:Nat):Int)∧(sliceBounds lo hi none n).2.1 =((HT.sIx n n hi:Nat):Int)∧(sliceBounds lo hi none n).2.2 =1:=by
 refine⟨?_,?_,rfl⟩
 ·cases lo with
  |none=>simp[sliceBounds,HT.sIx]
  |some i=>
   simp only[sliceBounds,HT.sIx,Option.getD_none,show (1:Int)>0 by decide,if_true]
   by_cases h:i<0
   ·simp only[h,if_true]<;>lia
   ·simp only[h,if_false]<;>lia
 ·cases hi with
  |none=>simp[sliceBounds,HT.sIx]
  |some i=>
   simp only[sliceBounds,HT.sIx,Option.getD_none,show (1:Int)>0 by decide,if_true]
   by_cases h:i<0
   ·simp only[h,if_true]<;>lia
   ·simp only[h,if_false]<;>lia
theorem z4q (its:List Value) (lo hi:Option Int):slicePick its.toArray lo hi none=((its.drop (HT.sIx its.length 0 lo)).take (HT.sIx its.length its.length hi - HT.sIx its.length 0 lo)).toArray :=by
 obtain⟨h1,h2,h3⟩:=z5c lo hi its.toArray.size
 unfold slicePick
 rw[h1,h2,h3]
 simp only[sliceRange_one,pick_run,q0h]<;>rfl
def rSlL (K:PySem.W.Frag):V→Option Int→Option Int→Hp→VK→Prop:=fun x lo hi H Q=>∃a xs,x= .ref a∧SqL K H a xs∧∀p,H p=none→Q (.ref p) (upd H p (.lst (y0l xs lo hi)))
theorem z8C:SlR X (rSlL X.K):=by
 intro pins s σ H x v vl vu lo hi sl Q I rx hs pl pu h
 obtain⟨a,xs,rfl,hx,q⟩:=h
 cases rx
 obtain⟨its,r,ht,hz⟩:=I.list hx
 have hlen:=r.length
 refine⟨"list",_,slot_list_getitem.lookup,ht.isList.typeIs,?_⟩
 refine wpAny_getItem_list_slice ht.isList hs pl pu .none (by simp) ?_ (by rw[q0h]<;>lia)
 rw[z4q,←hlen]
 refine⟨.ref s.heap.objs.size,_,I.laid (t':=s.toks) (o:= .lst (y0l xs lo hi)) (fun b ob q=>q0d _ q) (q0k _) ?_,rfl,q _ (I.hok.fresh (q0k _))⟩
 exact⟨q0q (z3J xs lo hi) hz,_,0,(r.drop (HT.sIx xs.length 0 lo)).take (HT.sIx xs.length xs.length hi - HT.sIx xs.length 0 lo),q0l _ rfl⟩
def z5D:V→Bool
 | .non =>true
 | .bl _=>true
 | .int _=>true
 | .str _=>true
 |_=>false
def eqV:V→V→Bool
 | .non,.non =>true
 | .bl a,.bl b=>a==b
 | .bl a,.int b=>(if a then 1 else 0)==b
 | .int a,.bl b=>a==(if b then 1 else 0)
 | .int a,.int b=>a==b
 | .str a,.str b=>a==b
 |_,_=>false
theorem y3Y {A:Around}{s:Shared}{y x:V}{u v:Value} (ry:RelV y u) (rx:RelV x v) (fy:z5D y=true) (fx:z5D x=true):SeqAt.EqAt A s u v (eqV y x):=by
 cases y with
 |non=>
  cases ry
  cases x with
  |non=>cases rx;exact SeqAt.EqAt.same _
  |bl b=>cases rx;exact SeqAt.EqAt.none_bool b
  |int b=>obtain⟨t,rfl⟩:=rx;exact SeqAt.EqAt.none_int b t
  |str b=>obtain⟨t,rfl⟩:=rx;exact SeqAt.EqAt.none_str b t
  |_=>exact absurd (show false=true from fx) Bool.false_ne_true
 |bl a=>
  cases ry
  cases x with
  |non=>cases rx;exact SeqAt.EqAt.bool_none a
  |bl b=>cases rx;exact SeqAt.EqAt.bool_bool a b
  |int b=>obtain⟨t,rfl⟩:=rx;exact SeqAt.EqAt.bool_int a b t
  |str b=>obtain⟨t,rfl⟩:=rx;exact SeqAt.EqAt.bool_str a b t
  |_=>exact absurd (show false=true from fx) Bool.false_ne_true
 |int a=>
  obtain⟨t',rfl⟩:=ry
  cases x with
  |non=>cases rx;exact SeqAt.EqAt.int_none a t'
  |bl b=>cases rx;exact SeqAt.EqAt.int_bool a t' b
  |int b=>obtain⟨t,rfl⟩:=rx;exact SeqAt.EqAt.int_int a t' b t
  |str b=>obtain⟨t,rfl⟩:=rx;exact SeqAt.EqAt.int_str a t' b t
  |_=>exact absurd (show false=true from fx) Bool.false_ne_true
 |str a=>
  obtain⟨t',rfl⟩:=ry
  cases x with
  |non=>cases rx;exact SeqAt.EqAt.str_none a t'
  |bl b=>cases rx;exact SeqAt.EqAt.str_bool a t' b
  |int b=>obtain⟨t,rfl⟩:=rx;exact SeqAt.EqAt.str_int a t' b t
  |str b=>obtain⟨t,rfl⟩:=rx;exact SeqAt.EqAt.str_str a t' b t
  |_=>exact absurd (show false=true from fx) Bool.false_ne_true
 |_=>exact absurd (show false=true from fy) Bool.false_ne_true
def eqU (x:V) (u:Value):Bool:=match u with
 | .none =>eqV .non x
 | .bool b=>eqV (.bl b) x
 | .int i _=>eqV (.int i) x
 | .str z _=>eqV (.str z) x
 |_=>false
theorem y1P {x y:V}{u:Value} (r:RelV y u) (f:z5D y=true):eqU x u=eqV y x:=by
 cases y with
 |non=>cases r;rfl
 |bl b=>cases r;rfl
 |int i=>obtain⟨t,rfl⟩:=r;rfl
 |str z=>obtain⟨t,rfl⟩:=r;rfl
 |_=>exact absurd (show false=true from f) Bool.false_ne_true
theorem z6s {x:V}:∀{xs:List V}{us:List Value},Vals xs us→xs.all z5D=true→us.any (eqU x)=xs.any fun y=>eqV y x
 |_,_,.nil,_=>rfl
 |y::xs,u::us,.cons r t,f=>by
  rw[List.all_cons,q1j] at f
  rw[List.any_cons,List.any_cons,y1P r f.1,z6s t f.2]
theorem z4F {A:Around}{s:Shared}{x:V}{v:Value} (rx:RelV x v) (fx:z5D x=true):∀{xs:List V}{us:List Value},Vals xs us→xs.all z5D=true→∀u∈us,SeqAt.EqAt A s u v (eqU x u)
 |_,_,.nil,_=>fun u hu=>by cases hu
 |y::xs,u::us,.cons r t,f=>fun u' hu=>by
  rw[List.all_cons,q1j] at f
  rcases q0o.mp hu with rfl|hu
  ·rw[y1P r f.1];exact y3Y r rx f.1 fx
  ·exact z4F rx fx t f.2 u' hu
def inV (x:V) (xs:List V):Bool:=xs.any fun y=>eqV y x
def rIn (K:PySem.W.Frag) (neg:Bool):R2:=fun x y H Q=>∃p xs,y= .ref p∧(SqL K H p xs∨SqT K H p xs)∧z5D x=true∧xs.all z5D=true∧Q (.bl (if neg then !inV x xs else inV x xs)) H
theorem z5l:OpR X (compareOp .NotIn) (rIn X.K true):=by
 intro pins s σ H x y v u Q I rx ry h
 obtain⟨p,xs,rfl,hq,fx,fs,q⟩:=h
 cases ry
 rcases hq with hq|hq
 ·obtain⟨its,r,pl,hz⟩:=I.list hq
  refine SeqAt.notIn_listAt (eqU x) pl.isList (fun w hw=>z4F rx fx r fs w (by simpa using hw)) ⟨.bl _,H,I,rfl,?_⟩
  rw[show its.toArray.any (eqU x)=its.any (eqU x) by simp,z6s r fs]
  exact q
 ·obtain⟨its,r,pl,hz⟩:=I.tuple hq
  refine SeqAt.notIn_tupleAt (eqU x) pl (fun w hw=>z4F rx fx r fs w (by simpa using hw)) ⟨.bl _,H,I,rfl,?_⟩
  rw[show its.toArray.any (eqU x)=its.any (eqU x) by simp,z6s r fs]
  exact q
theorem z5I:z1J X (.builtin "len") (fun xs H Q=>∃p ys,xs=[.ref p]∧(SqL X.K H p ys∨SqT X.K H p ys)∧Q (.int ys.length) H):=by
 intro pins s σ H xs us Q I r h
 obtain⟨p,ys,rfl,hq,q⟩:=h
 obtain⟨u,rfl,rx⟩:=z4Q r
 cases rx
 have hn:=z5v
 rcases hq with hq|hq
 ·obtain⟨its,r',pl,hz⟩:=I.list hq
  have hlen:=r'.length
  exact Calls.call_len_list pl.isList (by simp only[q0h]<;>lia) ⟨.int ys.length,H,I.tok _,⟨s.toks+1,by rw[q0h,hlen]⟩,q⟩
 ·obtain⟨its,r',pl,hz⟩:=I.tuple hq
  have hlen:=r'.length
  exact len_tuple pl (by simp only[q0h]<;>lia) ⟨.int ys.length,H,I.tok _,⟨s.toks+1,by rw[q0h,hlen]⟩,q⟩
theorem z5H:z1J X (.type "list") (fun xs H Q=>∃p ys,xs=[.ref p]∧(SqL X.K H p ys∨SqT X.K H p ys)∧∀l,H l=none→Q (.ref l) (upd H l (.lst ys))):=by
 intro pins s σ H xs us Q I r h
 obtain⟨p,ys,rfl,hq,q⟩:=h
 obtain⟨u,rfl,rx⟩:=z4Q r
 cases rx
 have fin:∀(its:List Value),Vals ys its→ys.length≤sizeLine→∀(h':Heap) (c':Nat),(∀b o',s.heap.get? b=some o'→h'.get? b=some o')→
  h'.get? s.heap.objs.size=some {cls:= .type "list",dict:=none,data:= .seq its.toArray c',slots:= #[]}→EP X pins σ Q (.ref s.heap.objs.size) {s with heap:=h'}:=fun its r' hz h' c' kp e=>
  ⟨.ref s.heap.objs.size,_,I.laid (t':=s.toks) kp (q0k _) (show ObjOk X.prog X.w _ h' _ (.lst ys) from⟨hz,its,c',r',e⟩),rfl,q _ (I.hok.fresh (q0k _))⟩
 rcases hq with hq|hq
 ·obtain⟨its,r',pl,hz⟩:=I.list hq
  have hlen:=r'.length
  obtain⟨o,ho,hc,n,hd⟩:=pl.isList
  exact call_list_seq p (.inl rfl) ho hc hd (fun h' c' kp e=>fin its r' hz h' c' kp e) (by simp only[q0h]<;>lia)
 ·obtain⟨its,r',pl,hz⟩:=I.tuple hq
  have hlen:=r'.length
  obtain⟨o,ho,hc,n,hd⟩:=pl
  exact call_list_seq p (.inr rfl) ho hc hd (fun h' c' kp e=>fin its r' hz h' c' kp e) (by simp only[q0h]<;>lia)
theorem z4M:z1J X (.type "tuple") (fun xs H Q=>∃p ys,xs=[.ref p]∧((SqL X.K H p ys∧∀l,H l=none→Q (.ref l) (upd H l (.tup ys)))∨(SqT X.K H p ys∧Q (.ref p) H))):=by
 intro pins s σ H xs us Q I r h
 obtain⟨p,ys,rfl,h⟩:=h
 obtain⟨u,rfl,rx⟩:=z4Q r
 cases rx
 rcases h with⟨hq,q⟩|⟨hq,q⟩
 ·obtain⟨its,r',pl,hz⟩:=I.list hq
  have hlen:=r'.length
  refine call_tuple_list pl.isList (fun h' kp=>?_) (by simp only[q0h]<;>lia)
  have I1:Inv X pins σ H {s with heap:=h'}:=I.kept (t':=s.toks) kp
  have I2:Inv X pins σ (upd H h'.objs.size (.tup ys)) {s with heap:=h'.push {cls:= .type "tuple",data:= .seq its.toArray}}:=
   I1.laid (t':=s.toks) (fun b o e=>q0d _ e) (q0k _) (show ObjOk X.prog X.w _ _ _ (.tup ys) from⟨hz,its,r',IsTup.new _ _⟩)
  exact⟨.ref h'.objs.size,_,I2,rfl,q _ (I1.hok.fresh (q0k _))⟩
 ·obtain⟨its,r',pl,hz⟩:=I.tuple hq
  exact call_tuple_same pl ⟨.ref p,H,I,rfl,q⟩
def tyV (K:PySem.W.Frag) (T:String) (x:V) (H:Hp):Prop:=match x with
 | .str _=>T="str"
 | .int _=>T="int"
 | .ref p=>(T="list"∧∃xs,SqL K H p xs)∨(T="tuple"∧∃o,K.lookup p=some o∧o.cls= .type "tuple"∧o.dict=none)∨
  (T="dict"∧((∃kvs,H p=some (.dK kvs))∨∃kvs,H p=some (.dT kvs)))∨(T="set"∧∃S n,H p=some (.set S n))
 |_=>False
theorem y1r {pins:List (Addr×Obj)}{σ:St}{H:Hp}{s:Shared}{T:String}{x:V}{v:Value} (I:Inv X pins σ H s) (r:RelV x v) (ty:tyV X.K T x H):
 s.TypeIs v T∧∀a,v= .ref a→∃ob,s.heap.get? a=some ob∧ob.dict=none:=by
 cases x with
 |str z=>
  obtain⟨t,rfl⟩:=r
  cases (show T="str" from ty)
  exact⟨typeIs_str s z t,fun _ e=>nomatch e⟩
 |int i=>
  obtain⟨t,rfl⟩:=r
  cases (show T="int" from ty)
  exact⟨typeIs_int s i t,fun _ e=>nomatch e⟩
 |ref p=>
  cases r
  rcases ty with⟨rfl,xs,hq⟩|⟨rfl,o,hk,hc,hd⟩|⟨rfl,hk⟩|⟨rfl,S,n,hk⟩
  ·obtain⟨its,_,pl,_⟩:=I.list hq
   refine⟨pl.isList.typeIs,fun a e=>?_⟩
   cases e
   obtain⟨o,n,e,c,hd,_⟩:=pl
   exact⟨o,e,hd⟩
  ·refine⟨⟨o,I.kIn p o hk,hc⟩,fun a e=>?_⟩
   cases e
   exact⟨o,I.kIn _ o hk,hd⟩
  ·have z:∃o,s.heap.get? p=some o∧o.ExactDict:=by
      rcases hk with⟨kvs,hk⟩|⟨kvs,hk⟩
      ·obtain⟨_,_,_,_,o,_,_,e,ex,_⟩:=I.hok p _ hk
       exact⟨o,e,ex⟩
      ·obtain⟨_,_,_,_,o,_,_,e,ex,_⟩:=I.hok p _ hk
       exact⟨o,e,ex⟩
   obtain⟨o,e,ex⟩:=z
   refine⟨⟨o,e,ex.1⟩,fun a e2=>?_⟩
   cases e2
   exact⟨o,e,ex.2.1⟩
  ·obtain⟨o,_,_,_,e,ex,_⟩:=I.hok p _ hk
   refine⟨⟨o,e,ex.1⟩,fun a e2=>?_⟩
   cases e2
   exact⟨o,e,ex.2.1⟩
 |_=>exact False.elim ty
def tBM0 (K:PySem.W.Frag) (T:String) (r:V→List V→Hp→VK→Prop) (to:TE):TE:=fun σ H Q=>to σ H fun x H1=>tyV K T x H1∧r x [] H1 Q
def tBM (K:PySem.W.Frag) (T:String) (r:V→List V→Hp→VK→Prop) (to:TE) (t:TA):TE:=fun σ H Q=>to σ H fun x H1=>tyV K T x H1∧t σ H1 fun xs H2=>r x xs H2 Q
variable {o e:Expr}{es:List Expr}{to:TE}{t:TA}{name:Str}{apos cpos:Pos}{T id:String}{r:V→List V→Hp→VK→Prop}
theorem y1D (pa:PlainAttrs T) (slot:Slot T name id) (hty:typeOf (.builtin id)=pure (.type "method_descriptor")) (hm:MtR X id r) (ho:PE X o to)
 (hbase:attributeBase o name X.env (eval o X.env)=eval o X.env:=by rfl) (hline:(apos.endLine==cpos.line)=true:=by rfl):PE X (.Call (.Attribute o name apos) [] [] cpos) (tBM0 X.K T r to):=by
 intro pins s σ H Q I h
 refine wpAny_Call_method0_late hbase hline (thn (ho pins s σ H _ I h) fun v s1 ⟨x,H1,I1,r1,ty,q1⟩=>?_)
 obtain⟨h1,h2⟩:=y1r I1 r1 ty
 exact⟨T,id,pa,slot,hty,h1,h2,Calls.callWith_builtin rfl (PySem.evalArgs_none (hm pins s1 σ H1 x [] v [] Q I1 r1 .nil q1))⟩
theorem z6e (pa:PlainAttrs T) (slot:Slot T name id) (hty:typeOf (.builtin id)=pure (.type "method_descriptor")) (hm:MtR X id r) (ho:PE X o to) (ha:PA X (e::es) t)
 (hbase:attributeBase o name X.env (eval o X.env)=eval o X.env:=by rfl)
 (hfew:((backTo cpos (starEach (e::es) X.env)).all (fun x=> !x.1)&&(backToKw cpos (keywordEach [] X.env)).all (fun x=>x.1.isSome)
  &&decide ((e::es).length +([]:List Keyword).length +(if ([]:List Keyword).isEmpty then 0 else 1)<30))=true:=by rfl)
 (hline:(apos.endLine==cpos.line)=true:=by rfl) (hs:starEach (e::es) X.env=(false,eval e X.env)::starEach es X.env:=by rfl) (hplain:(backTo cpos (starEach es X.env)).any (·.1)=false:=by rfl):
 PE X (.Call (.Attribute o name apos) (e::es) [] cpos) (tBM X.K T r to t):=by
 intro pins s σ H Q I h
 refine wpAny_Call_method_late hbase hfew hline rfl (thn (ho pins s σ H _ I h) fun v s1 ⟨x,H1,I1,r1,ty,q1⟩=>?_)
 obtain⟨h1,h2⟩:=y1r I1 r1 ty
 refine⟨T,id,pa,slot,hty,h1,h2,?_⟩
 have hA:=ha cpos pins s1 σ H1 _ I1 q1
 rw[hs] at hA ⊢
 refine Calls.callWith_builtin (by show (false || (backTo cpos (starEach es X.env)).any (·.1))=false;rw[hplain]<;>rfl) (Calls.evalArgs_plain ?_)
 exact thn hA fun us s2 ⟨vs,H2,I2,r2,q2⟩=>hm pins s2 σ H2 x vs v us Q I2 r1 r2 q2
end
end L2
namespace L2
open PySem PySem.Spec PyProof.Rows
def MtM (X:Cx) (id:String) (r:V→List V→Hp→VK→Prop):Prop:=
 ∀(pins:List (Addr×Obj)) (s:Shared) (σ:St) (H:Hp) (x:V) (xs:List V) (v:Value) (us:List Value) (Q:VK),Inv X pins σ H s→RelV x v→Vals xs us→r x xs H Q→
  wpAny (model X.prog X.w) X.A (call (.builtin id) (v::us)) (EP X pins σ Q) X.xe s
theorem Vals.one:∀{x:V}{us:List Value},Vals [x] us→∃u,us=[u]∧RelV x u
 |_,_,.cons r .nil =>⟨_,rfl,r⟩
theorem Vals.zero:∀{us:List Value},Vals [] us→us=[]
 |_,.nil =>rfl
theorem Vals.rep {xs:List V}{us:List Value} (h:Vals xs us):∀k:Nat,Vals (List.replicate k xs).flatten (List.replicate k us).flatten
 |0=> .nil
 |k+1=>by
  rw[q1u,q1u,List.flatten_cons,List.flatten_cons]
  exact Vals.append h (Vals.rep h k)
theorem z5C (its:List Value):∀(k:Nat) (acc:List Value),
 List.foldl (fun x1 x2=>x1++x2) acc.toArray (List.replicate k its.toArray)=(acc++(List.replicate k its).flatten).toArray
 |0,acc=>by simp
 |k+1,acc=>by
  have e:acc.toArray++its.toArray=(acc++its).toArray :=by simp
  have e2:(acc++its)++(List.replicate k its).flatten =acc++(List.replicate (k+1) its).flatten :=by
   rw[q1u,List.flatten_cons,List.append_assoc]
  rw[←e2,←z5C its k (acc++its),←e,q1u,List.foldl_cons]
section
variable {X:Cx}{pins:List (Addr×Obj)}{σ:St}{H:Hp}{s:Shared}{l b:Addr}{xs ys zs:List V}
theorem Inv.lset {its its':List Value}{n:Nat}{f:Array Value→Array Value}{t':Nat} (I:Inv X pins σ H s) (hH:H l=some (.lst xs))
 (e:s.heap.get? l=some {cls:= .type "list",data:= .seq its.toArray n}) (hf:f its.toArray=its'.toArray) (hv:Vals ys its') (hz:ys.length≤sizeLine):
 Inv X pins σ (upd H l (.lst ys)) {s with heap:=s.heap.update l (Obj.mapSeq f),toks:=t'}:=by
 have q:=PySem.IsL.update e f
 rw[hf] at q
 refine I.write (x:=l) (e:=l) (by rw[hH];exact trivial) (.inl rfl) (fun b' u hb hu=>(q0P s.heap (Obj.mapSeq f) (Ne.symm hb)).trans hu) ⟨_,q⟩ ?_
 exact⟨hz,its',_,hv,q⟩
theorem Inv.lnew {its:List Value}{t':Nat} (I:Inv X pins σ H s) (hv:Vals ys its) (hz:ys.length≤sizeLine):
 Inv X pins σ (upd H s.heap.objs.size (.lst ys)) {s with heap:=s.heap.push {cls:= .type "list",data:= .seq its.toArray},toks:=t'}:=
 I.laid (fun _ _ q=>q0d _ q) (q0k _) ⟨hz,its,0,hv,q0l _ rfl⟩
theorem Inv.fresh (I:Inv X pins σ H s):H s.heap.objs.size=none:=I.hok.fresh (q0k _)
theorem Inv.lstM (I:Inv X pins σ H s) (hH:H l=some (.lst xs)):xs.length≤sizeLine∧∃(its:List Value) (n:Nat),Vals xs its∧xs.length=its.length∧s.heap.get? l=some {cls:= .type "list",data:= .seq its.toArray n}:=by
 obtain⟨z,its,n,r,e⟩:=I.hok l _ hH
 exact⟨z,its,n,r,r.length,e⟩
theorem y0X {n:Nat} (h:n≤sizeLine):Builtin.List.listTooLong n=false:=by
 unfold Builtin.List.listTooLong
 exact decide_eq_false (by lia)
end
section
variable {X:Cx}
def y2h:V→List V→Hp→VK→Prop:=fun x vs H Q=>∃l xs y,x= .ref l∧vs=[y]∧H l=some (.lst xs)∧xs.length<sizeLine∧Q .non (upd H l (.lst (xs++[y])))
theorem z1b:MtM X "list.append" y2h:=by
 intro pins s σ H x vs v us Q I rx rv h
 obtain⟨l,xs,y,rfl,rfl,hH,hz,q⟩:=h
 cases rx
 obtain⟨u,rfl,ru⟩:=rv.one
 obtain⟨z,its,n,r,hl,e⟩:=I.lstM hH
 refine call_meets F.slot_list_append ⟨_,e,rfl⟩ F.entry_list_append (F.args_list_append_2 _ _) (PySem.list_append l its.toArray n u (by rw[q0h];lia)) ⟨e,?_⟩
 refine⟨.non,_,I.lset (its':=its++[u]) hH e (by simp) (r.append (.cons ru .nil)) ?_,rfl,q⟩
 rw[q0x,q0I]
 lia
def y3i:V→List V→Hp→VK→Prop:=fun x vs H Q=>∃l xs,x= .ref l∧vs=[]∧H l=some (.lst xs)∧Q .non (upd H l (.lst []))
theorem z6N:MtM X "list.clear" y3i:=by
 intro pins s σ H x vs v us Q I rx rv h
 obtain⟨l,xs,rfl,rfl,hH,q⟩:=h
 cases rx
 have hus:=rv.zero
 subst hus
 obtain⟨z,its,n,r,hl,e⟩:=I.lstM hH
 refine call_meets F.slot_list_clear ⟨_,e,rfl⟩ F.entry_list_clear (F.args_list_clear_1 _) (AutoSeq1.list_clear_list_0 l its.toArray n (by rw[q0h];lia)) ⟨e,?_⟩
 exact⟨.non,_,I.lset (its':=[]) (ys:=[]) hH e rfl .nil (q0A _),rfl,q⟩
def rCat:R2:=fun x y H Q=>∃l b xs zs,x= .ref l∧y= .ref b∧H l=some (.lst xs)∧H b=some (.lst zs)∧xs.length+zs.length≤sizeLine∧∀p,H p=none→Q (.ref p) (upd H p (.lst (xs++zs)))
theorem z3u:OpR X (binaryOp .Add) rCat:=by
 intro pins s σ H x y v u Q I rx ry h
 obtain⟨l,b,xs,zs,rfl,rfl,hH,hB,hz,q⟩:=h
 cases rx
 cases ry
 obtain⟨z,its,n,r,hl,e⟩:=I.lstM hH
 obtain⟨z2,its2,n2,r2,hl2,e2⟩:=I.lstM hB
 refine PySem.P.add_list e e2 ?_ (by rw[q0h,q0h];lia)
 have ea:its.toArray++its2.toArray=(its++its2).toArray :=by simp
 rw[ea]
 exact⟨.ref _,_,I.lnew (t':=s.toks) (r.append r2) (by rw[q0x];lia),rfl,q _ I.fresh⟩
def rRep:R2:=fun x y H Q=>∃l k xs,x= .ref l∧y= .int k∧H l=some (.lst xs)∧ -(2^63)≤k∧k<2^63∧xs.length*k.toNat≤sizeLine∧
 ∀p,H p=none→Q (.ref p) (upd H p (.lst (List.replicate k.toNat xs).flatten))
theorem y2v {α:Type} (xs:List α) (k:Nat):(List.replicate k xs).flatten.length =k*xs.length:=by
 induction k with
 |zero=>simp
 |succ k ih=>rw[List.replicate_succ,List.flatten_cons,List.length_append,ih,Nat.succ_mul,Nat.add_comm]
theorem y3u:OpR X (binaryOp .Mult) rRep:=by
 intro pins s σ H x y v u Q I rx ry h
 obtain⟨l,k,xs,rfl,rfl,hH,h1,h2,hz,q⟩:=h
 cases rx
 obtain⟨t,rfl⟩:=ry
 obtain⟨z,its,n,r,hl,e⟩:=I.lstM hH
 have hlen:its.toArray.size*k.toNat≤sizeLine:=by rw[q0h,←hl];exact hz
 have hcap:¬its.toArray.size*k.toNat>(2^63 - 1)/8:=by
  have:(sizeLine:Nat)≤(2^63 - 1)/8:=by decide
  lia
 have hfit:¬(!Builtin.List.listFitsIndex k)=true:=by
  rw[fitsIndex_both h1 h2]
  exact q0y
 have hlong:¬Builtin.List.listTooLong (its.toArray.size*k.toNat)=true:=by
  rw[y0X hlen]
  exact q0y
 have hnew:List.foldl (fun x1 x2=>x1++x2) #[] (List.replicate (if its.toArray.isEmpty=true then 0 else k.toNat) its.toArray)=(List.replicate k.toNat its).flatten.toArray :=by
  have f0:∀m:Nat,List.foldl (fun x1 x2=>x1++x2) #[] (List.replicate m its.toArray)=(List.replicate m its).flatten.toArray :=fun m=>by
   have:=z5C its m []
   rw[List.nil_append] at this
   exact this
  rw[f0]
  cases its with
  |nil=>simp
  |cons a r'=>rw[if_neg (by simp)]
 refine wpAny_binaryOp_repeat_ref (T:="list") (U:="int") (by decide) ⟨_,e,rfl⟩ (fun s'=>typeIs_int s' k t) noFill_list_mul F.fills_int_mul F.slot_int_rmul repeat_list F.slot_int_index.lookup
  (call_meets F.slot_int_rmul (typeIs_int s k t) F.entry_int_rmul (F.args_int_rmul_2 _ _) (int___rmul___int_list k t l its.toArray n)
   ⟨e,rfl,⟨_,e,rfl⟩,call_meets F.slot_list_mul ⟨_,e,rfl⟩ F.entry_list_mul (F.args_list_mul_2 _ _) (AutoListH.list___mul___list_int_3 l its.toArray n k t hfit hcap hlong) ⟨e,?_⟩⟩)
 rw[hnew]
 exact⟨.ref _,_,I.lnew (t':=s.toks) (r.rep k.toNat) (by rw[y2v,Nat.mul_comm];exact hz),rfl,q _ I.fresh⟩
end
section
variable {prog:Program}{w:World}{A:Around}{E:Value→Shared→Prop}{s:Shared}
end
section
variable {X:Cx}
end
end L2
namespace Att
open PySem PySem.W PySem.Calls PyProof.Rows
theorem z3E {P:Params}{h:Heap}:∀(ns:List Int) (vs:List Value),WellAll P h vs (ns.map WData.int)→IntsAre vs ns:=by
 intro ns
 induction ns with
 |nil=>
  intro vs w
  rw[List.map_nil] at w
  cases w
  exact .nil
 |cons n ns ih=>
  intro vs w
  rw[q0t] at w
  cases w with
  |cons a b=>
   cases a
   exact .cons _ _ (ih _ b)
theorem z8H {l:OpenLaw}{n:Nat} (hn:l.most=some n) {P:Params}{h:Heap}{args:List WData}{vals:List Value}
 (hpre:l.row.toRowW.claim.pre args=true) (hwl:WellAll P h vals args):
 ∃a vs ns,vals=[Value.ref a]∧args=[WData.list (ns.map WData.int)]∧h.get? a=some {cls:= .type "list",data:= .seq vs.toArray}∧IntsAre vs ns∧ns.length≤n:=by
 have hsh:WShape.hasAll [] args [.list .int]=true:=(pre_splitW hpre).1
 have hc:l.pre.holds [] {args:=args}=true:=(pre_splitW hpre).2
 obtain⟨d,r,rfl,h1,h2⟩:=hasAllW_cons hsh
 obtain rfl:=hasAllW_nil h2
 obtain⟨xs,rfl,h3⟩:=hasW_list h1
 obtain⟨ns,rfl⟩:=items_int h3
 have hlen:ns.length≤n:=by
  unfold OpenLaw.pre at hc
  have h4:(WTm.not (.lt (.lit (.int (n:Int))) (.len (.arg 0)))).holds [] {args:=[.list (ns.map .int)]}=true:=by
   have h4:=(holds_andW hc).1
   rw[hn] at h4
   exact h4
  have h5:=condW_of h4 (w_not (w_lt w_lit (w_len_list (w_arg rfl))))
  rw[q0a] at h5
  refine Nat.le_of_not_lt fun q=>?_
  have q':(n:Int)<((ns.length:Nat):Int):=by lia
  first
   |(rw[decide_eq_true q'] at h5;exact absurd h5 (by decide))
   |(simp at h5;lia)
 cases hwl with
 |cons w1 w2=>
  cases w2
  cases w1 with
  |list ho hall=>exact⟨_,_,ns,rfl,rfl,ho,z3E ns _ hall,hlen⟩
theorem z8X (l:OpenLaw) (args:List WData):l.row.toRowW.claim.post args (.bool true) args=true:=
 postW_of (r:=l.row.toRowW) (X:=(true==true))
  (show WShape.has [] (.bool true) .bool =true by first|rfl|decide|simp[WShape.has,WShape.arms,WShape.armsAll])
  (show (WTm.eq .res (.lit (.bool true))).value [] {args:=args,res:=some (.bool true),after:=args}=some (.bool (true==true)) from w_eq_bool (w_res rfl) w_lit) rfl
theorem attach_call {l:OpenLaw}{n:Nat}{q:Program}{loose:List Str}{XP:(Str→Option Value)→Heap→Prop}{YP:World→Heap→Prop}{d:DefRec}
 (hn:l.most=some n) (hdf:d.params.defaults=[])
 (call:∀(w:World) (s₀ s₁:Shared) (mg mb:Str→Option Value) (fa:Addr) (o:Obj) (pm cd doc:Value) (a:Addr) (vs:List Value) (ns:List Int),
  Ground q loose [] XP w s₀ mg mb s₁.heap→YP w s₁.heap→
  s₁.heap.get? fa=some o→o.data= .func (docDef d.name d.params d.body d.scope pm cd doc)→s₁.heap.CodeRec cd d.name→mg d.name=some (.ref fa)→
  s₁.heap.get? a=some {cls:= .type "list",data:= .seq vs.toArray}→IntsAre vs ns→ns.length≤n→s₁.gens= #[]→
  codeAny (model l.prog w) callerA (.call (.ref fa) ⟨[.ref a],[]⟩) (fun r s'=>r= .ok (.ret (.bool true))∧OldK s₁.heap s'.heap∧s'.os=s₁.os∧AllBare s'.gens) s₁):
 WalkO q loose XP YP l.row.toRowW d [] (fun f vs=>PySem.call f vs):=by
 intro w s₀ s₁ mg mb G Y fa o pm cd doc dV kV ho hd hcd hD hmg hg args vals as hpre hlay hrd hwl hlo
 obtain rfl:dV= .none :=Dflts.none hD hdf
 obtain rfl:kV= .none :=Dflts.noKw hD
 obtain⟨a,vs,ns,rfl,rfl,hobj,hints,hlen⟩:=z8H hn hpre hwl
 refine enter_call (codeAny_mono (call w s₀ s₁ mg mb fa o pm cd doc a vs ns G Y ho (fd_plain hd) hcd hmg hobj hints hlen hg) fun r s' hq=>?_)
 obtain⟨rfl,h2,h3,h4⟩:=hq
 exact⟨.inl ⟨.bool true,.bool true,[],rfl,fun _=>rfl,.bool true,z8X l _,fun _=>⟨List.Pairwise.nil,fun _ hm=>(nomatch hm)⟩⟩,h2,h3,h4⟩
section
variable {prog:Program}{w:World}{A:Around}{E:Value→Shared→Prop}{s:Shared}{K:Frag}
end
end Att
namespace L2
open PySem PySem.Spec PyProof.Rows
theorem z4P:∀{vs:List Value}{ns:List Int},IntsAre vs ns→Vals (ns.map V.int) vs
 |_,_,.nil => .nil
 |_,_,.cons n t h=> .cons ⟨t,rfl⟩ (z4P h)
end L2
namespace L2
open PySem PySem.Spec PyProof.Rows
end L2
namespace L2
open PySem PySem.Spec PyProof.Rows
def z1P (s:Stmt):Arguments:=match s with
 | .FunctionDef _ a _ _ _ _ _ _ _ _=>a
 |_=>{posonlyargs:=[],args:=[],vararg:=none,kwonlyargs:=[],kw_defaults:=[],kwarg:=none,defaults:=[]}
def z1u (s:Stmt):List Stmt:=match s with
 | .FunctionDef _ _ b _ _ _ _ _ _ _=>b
 |_=>[]
def z0n (s:Stmt):Scope:=match s with
 | .FunctionDef _ _ _ _ _ _ sc _ _ _=>sc
 |_=>{kind:= .function,names:=[],isGenerator:=false,isCoroutine:=false}
abbrev CX0:CXT:=fun _ _ _ _ _ _=>False
abbrev E0:XK:=fun _ _ _=>False
theorem pass0 {X:Cx}:y0i CX0 X E0:=fun _ _ _ _ _ _ _ h=>h.elim
structure Fun (K:PySem.W.Frag) (x qual:Str) (st:Stmt) (f:Addr) (fd:FuncData):Prop where
 ex:∃(oc:Value) (od:Option Addr) (kV doc pm:Value) (an:Option Addr) (cdv ct:Value) (osl:Array (Option Value)),
  fd=PySem.W.fnOf x qual (z1P st) (z1u st) (z0n st) .none kV doc pm an cdv ct∧K.lookup f=some ⟨oc,od,.func fd,osl⟩∧PySem.W.codeIn K cdv qual=true
 kp:PySem.W.keepIn K (.ref f)=true
section
variable {P:Program}{w:World}{K:PySem.W.Frag}{mg:Str→Option Value}{base:Heap}
theorem Fun.ok {x qual:Str}{st:Stmt}{f:Addr}{fd:FuncData}{N ps:List Str}{k:Nat}{sp:Sp} (F:Fun K x qual st f fd) (S:z0x N ps (z0n st)) (len:∀vs H Q E,sp vs H Q E→vs.length=ps.length)
 (hbody:∀(cdv:Value) (A:Around) (outer:List Env) (s:Shared) (H:Hp) (vs:List V) (Q:VK) (E:XK),Room k (A.deeper (envOfC qual (z0n st) s.heap.objs.size f cdv))→sp vs H Q E→
  ∃t,PSs (y0k CX0 P w K mg base N qual (z0n st) f cdv A outer s H E).nox (z1u st) t∧t {nx:=fun _ H'=>Q .non H',rt:=Q} (start N vs) H):FnOk P w K mg base CX0 (k+1) f fd ps sp:=by
 obtain⟨oc,od,kV,doc,pm,an,cdv,ct,osl,rfl,lk,hcd⟩:=F.ex
 refine y3W lk hcd S len fun A outer s H vs Q E hr hsp=>?_
 obtain⟨t,h,q⟩:=hbody cdv A outer s H vs Q E hr hsp
 exact⟨t,h.nox,q⟩
theorem Fun.binds {x qual:Str}{st:Stmt}{f:Addr}{fd:FuncData}{ps:List Str} (F:Fun K x qual st f fd)
 (h:∀(kV doc pm:Value) (an:Option Addr) (cdv ct:Value) (us:List Value),us.length=ps.length→bindArgs (PySem.W.fnOf x qual (z1P st) (z1u st) (z0n st) .none kV doc pm an cdv ct) ⟨us,[]⟩=pure (ps.zip us)):Binds K fd ps []:=by
 obtain⟨oc,od,kV,doc,pm,an,cdv,ct,osl,rfl,lk,hcd⟩:=F.ex
 exact .all (h kV doc pm an cdv ct)
theorem z9Q {x qual:Str}{st:Stmt}{f:Addr}{oc:Value}{od an:Option Addr}{osl:Array (Option Value)}{kV doc pm cdv ct:Value} (l:K.lookup f=some ⟨oc,od,.func (PySem.W.fnOf x qual (z1P st) (z1u st) (z0n st) .none kV doc pm an cdv ct),osl⟩)
 (c:PySem.W.codeIn K cdv qual=true) (k:PySem.W.keepIn K (.ref f)=true):Fun K x qual st f (PySem.W.fnOf x qual (z1P st) (z1u st) (z0n st) .none kV doc pm an cdv ct):=⟨⟨oc,od,kV,doc,pm,an,cdv,ct,osl,rfl,l,c⟩,k⟩
end
theorem y3T {A:Around}{k:Nat} (hr:Room k A):A.units+1<cLine:=q1q (Nat.add_le_add_left (by decide:1≤64) _) hr.units
section
variable {X:Cx}
theorem pv (i:Nat) {x:Str}{pos:Pos} (hN:X.N[i]? =some x:=by rfl) (hv:Vis X.env.scope x:=by first|exact Or.inl rfl|exact Or.inr (Or.inl rfl)|exact Or.inr (Or.inr rfl)) (hd:(x==("__debug__":Str))=false:=by decide)
 (hcd:(x==("__classdict__":Str))=false:=by decide):PE X (.Name x pos) (tVar i):=y3o hN hv hd hcd
end
theorem z1X {A B:Prop} (h:B):if false=true then A else B:=by
 rw[if_neg q0y]
 exact h
theorem z5y {A B:Prop} (h:A):if true=true then A else B:=by
 rw[if_pos rfl]
 exact h
theorem z5z {c A B:Prop} [Decidable c] (h1:c→A) (h2:¬c→B):if c then A else B:=by
 by_cases h:c
 ·rw[if_pos h]
  exact h1 h
 ·rw[if_neg h]
  exact h2 h
theorem y3O {c A B:Prop} [Decidable c] (hc:c) (h:B):if (!decide c)=true then A else B:=by
 rw[decide_eq_true hc]
 exact z1X h
def Same (H H':Hp):Prop:=∀b o,H b=some o→H' b=some o
theorem Same.refl (H:Hp):Same H H:=fun _ _ h=>h
theorem Same.trans {H H1 H2:Hp} (a:Same H H1) (b:Same H1 H2):Same H H2:=fun c o h=>b c o (a c o h)
theorem Same.free {H H':Hp} (e:Same H H') {l:Addr} (h:H' l=Option.none):H l=Option.none:=by
 cases q:H l with
 |none=>rfl
 |some o=>
  rw[e l o q] at h
  cases h
end L2
namespace L2
open PySem PySem.Spec PyProof.Rows
section
variable {X:Cx}{pins:List (Addr×Obj)}{σ:St}{H:Hp}{s:Shared}{h':Heap}
theorem Inv.turnedLaid {fp:List Addr}{a:Addr}{o:HO}{t':Nat} (I:Inv X pins σ H s) (hf:∀b∈fp,y0j X pins H b) (k:∀b ob,b∉fp→s.heap.get? b=some ob→h'.get? b=some ob)
 (hp:s.heap.objs.size≤a) (new:ObjOk X.prog X.w (upd H a o) h' a o):Inv X pins σ (upd H a o) {s with heap:=h',toks:=t'}:=by
 have hn:H a=none:=I.hok.fresh hp
 have nit:∀b u,H b=some u→b∉fp:=fun b u e z=>by rw[(hf b z).1] at e;cases e
 refine I.step (g':=s.gens) (d':=s.drawn) (ch:=fp) (fun b hb=>?_) (fun b ob _ _ hc e _=>k b ob hc e) (fun b ob _ _ hc e _=>⟨ob.slots,k b ob hc e⟩) (fun b ob hc e n=>?_)
  (fun b ob hc e=>⟨ob,k b ob hc e⟩) (fun b xs q=>by rw[z0h (z0f q hn)];exact q) (fun b u xs q=>by rw[z0h (z0f q hn)];exact q)
  (fun b ps q=>⟨#[],by rw[z0h (z0f q hn),q];simp⟩) (fun m hm=>?_) (fun b u e=>?_) I.bare
 ·obtain⟨f0,f1,f2,f3,f4,f5⟩:=hf b hb
  exact⟨f3,f1,f4,f5⟩
 ·rw[z0h (q0u (q0B (q0p e) hp))];exact n
 ·obtain⟨ob,es,ep,ho,r⟩:=hm
  exact⟨ob,es,ep,k _ ob (fun z=>(hf _ z).2.1 rfl) ho,r⟩
 ·by_cases hb:b=a
  ·subst hb;rw[z0b] at e;cases e;exact new
  ·rw[z0h hb] at e
   refine (I.hok b u e).stay (fun c v hc q=>k c v ?_ q) (fun c q=>by rw[z0h (z0f q hn)];exact q) fun c xs q=>by rw[z0h (z0f q hn)];exact q
   rcases hc with z|z
   ·rw[z];exact nit b u e
   ·exact nit c _ z
theorem Inv.turnedAll {fp:List Addr}{t':Nat} (I:Inv X pins σ H s) (hf:∀b∈fp,y0j X pins H b) (k:∀b ob,b∉fp→s.heap.get? b=some ob→h'.get? b=some ob):Inv X pins σ H {s with heap:=h',toks:=t'}:=by
 have nit:∀b u,H b=some u→b∉fp:=fun b u e z=>by rw[(hf b z).1] at e;cases e
 refine I.step (g':=s.gens) (d':=s.drawn) (ch:=fp) (fun b hb=>?_) (fun b ob _ _ hc e _=>k b ob hc e) (fun b ob _ _ hc e _=>⟨ob.slots,k b ob hc e⟩) (fun b ob hc e n=>n)
  (fun b ob hc e=>⟨ob,k b ob hc e⟩) (fun b xs q=>q) (fun b u xs q=>q) (fun b ps q=>⟨#[],by rw[q];simp⟩) (fun m hm=>?_) (fun b u e=>?_) I.bare
 ·obtain⟨f0,f1,f2,f3,f4,f5⟩:=hf b hb
  exact⟨f3,f1,f4,f5⟩
 ·obtain⟨ob,es,ep,ho,r⟩:=hm
  exact⟨ob,es,ep,k _ ob (fun z=>(hf _ z).2.1 rfl) ho,r⟩
 ·refine (I.hok b u e).stay (fun c v hc q=>k c v ?_ q) (fun c q=>q) fun c xs q=>q
  rcases hc with z|z
  ·rw[z];exact nit b u e
  ·exact nit c _ z
end
section
variable {X:Cx}
end
end L2
namespace L2
open PySem PySem.Spec PyProof.Rows
open Builtin.Int (intBits)
section
variable {X:Cx}{a b c:Expr}{ta tb tc:TE}{pos:Pos}
theorem z1p:OpR X (binaryOp .Mult) (rI IntMulOk fun i j=> .int (i*j)):=opI fun _ _ _ _ _ _ _ hc q=>mul_int q hc
def CFd (_ j:Int):Prop:=j≠0∧intBits j≤9000
theorem noPy {i j:Int} (h:CFd i j):Builtin.divisionGoesByPylong i j=false:=by
 refine PyProof.noPylong_of_log2 ?_
 have h1:=intBits_le_iff.mp h.2
 have h0:j.natAbs≠0:=by have:=h.1;lia
 exact (Nat.log2_lt h0).mpr h1
theorem z2l:OpR X (binaryOp .FloorDiv) (rI CFd fun i j=> .int (i.fdiv j)):=opI fun _ _ _ _ _ _ _ hc q=>floordiv_int hc.1 q (.inl (noPy hc))
def CFp (_ j:Int):Prop:=0<j∧intBits j≤9000
theorem z4D:OpR X (binaryOp .FloorDiv) (rI CFp fun i j=> .int (i/j)):=opI fun i j _ _ _ _ _ hc q=>by
 have h0:j≠0:=by have:=hc.1;lia
 refine floordiv_int h0 ?_ (.inl (noPy ⟨h0,hc.2⟩))
 rw[Int.fdiv_eq_ediv_of_nonneg i (Int.le_of_lt hc.1)]
 exact q
def CMod (_ j:Int):Prop:=0<j
theorem z0N:OpR X (binaryOp .Mod) (rI CMod fun i j=> .int (i%j)):=y3x
theorem cm {i j:Int} (h:decide (0<j)=true:=by rfl):CMod i j:=(show 0<j from of_decide_eq_true h)
theorem cf {i j:Int} (h:decide (0<j)=true:=by rfl) (h2:decide (intBits j≤9000)=true:=by rfl):CFp i j:=⟨(show 0<j from of_decide_eq_true h),(show intBits j≤9000 from of_decide_eq_true h2)⟩
theorem z9c {i j v:Int} (h:i^j.toNat=v) (ha:PE X a (tC (.int i))) (hb:PE X b (tC (.int j))) (hm:0≤j∧j≤1000000∧i.natAbs<2^64:=by decide):PE X (.BinOp a .Pow b pos) (tC (.int v)):=by
 subst h
 exact fun pins s σ H Q I q=>z0w y3v ha hb pins s σ H Q I ⟨i,j,rfl,rfl,hm,q⟩
theorem z0X:z1J X (.builtin "isinstance") (fun xs H Q=>∃x n t k,xs=[x,.ty n]∧z7q X.K H x t∧PySem.W.kitOne X.K t (.type n)=some k∧Q (.bl k) H):=by
 intro pins s σ H xs us Q I r h
 obtain⟨x,n,t,k,rfl,ty,e,q⟩:=h
 obtain⟨u,w',rfl,r1,r2⟩:=y2O r
 cases (show w'=Value.type n from r2)
 exact z9E I r1 ty e fun tk=>⟨.bl k,H,I.tok tk,rfl,q⟩
end
structure Cal (P:Program) (w:World) (K:PySem.W.Frag) (mg:Str→Option Value) (base:Heap) (n:Nat) (x:Str) (ps:List Str) (sp:Sp):Prop where
 ex:∃g gd,FnOk P w K mg base CX0 n g gd ps sp∧Binds K gd ps []∧PySem.W.keepIn K (.ref g)=true∧mg x=some (.ref g)
theorem Cal.mono {P:Program}{w:World}{K:PySem.W.Frag}{mg:Str→Option Value}{base:Heap}{n m:Nat}{x:Str}{ps:List Str}{sp:Sp} (c:Cal P w K mg base n x ps sp) (h:n≤m):Cal P w K mg base m x ps sp:=
 let ⟨g,gd,F,b,k,m⟩:=c.ex
 ⟨g,gd,F.mono h,b,k,m⟩
section
variable {X:Cx}{e:Expr}{es:List Expr}{t:TA}{p pos:Pos}
theorem z0B {n:Nat}{x:Str}{ps:List Str}{sp:Sp} (c:Cal X.prog X.w X.K X.mg X.base n x ps sp) (hr:Room n X.A) (hg:Gl X x) (ha:PA X (e::es) t) (hdb:(x==("__debug__":Str))=false:=by decide)
 (he:starEach (e::es) X.env=(false,eval e X.env)::starEach es X.env:=by rfl) (hpl:(backTo pos (starEach es X.env)).any (·.1)=false:=by rfl):PE X (.Call (.Name x p) (e::es) [] pos) (y2X sp [] E0 t):=by
 obtain⟨g,gd,F,b,k,m⟩:=c.ex
 exact y2p F hr hg m k b .nil pass0 ha hdb he hpl
end
theorem z0d {H:Hp}{p:Addr} (h:H p=none) (o:HO):Same H (upd H p o):=fun b u q=>by rw[z0h (z0f q h)];exact q
theorem Rd.same {H H':Hp}{a:Addr}{u:HO} (g:Same H H') (r:Rd H a u):Rd H' a u:=by
 rcases r with r|⟨o,r⟩
 ·exact .inl (g _ _ r)
 ·exact .inr ⟨o,g _ _ r⟩
theorem SqT.same {K:PySem.W.Frag}{H H':Hp}{a:Addr}{xs:List V} (g:Same H H') (h:SqT K H a xs):SqT K H' a xs:=by
 rcases h with h|h
 ·exact .inl (h.same g)
 ·exact .inr h
theorem SqL.same {K:PySem.W.Frag}{H H':Hp}{a:Addr}{xs:List V} (g:Same H H') (h:SqL K H a xs):SqL K H' a xs:=by
 rcases h with h|h
 ·exact .inl (h.same g)
 ·exact .inr h
theorem z3w {i j:Int}{m n:Nat} (hi:intBits i≤m) (hj:intBits j≤n) (h:m+n≤134217728:=by lia):IntMulOk i j:=IntMulOk.of_le hi hj h
end L2
namespace L2
open PySem PySem.Spec PySem.W PyProof.Rows
section
variable {prog:Program}{w:World}{A:Around}{E:Value→Shared→Prop}{h:Heap}{gn:Array GenState}{dr:Drawn}{tt:Nat}{os:OsState}{K:Frag}{x D:Addr}{ox:Obj}{odo:Option Obj}{name:Str}
end
theorem z5u {o:Obj}{vs:Array Value} (hd:o.data= .fields vs) (f:Array Value→Array Value):o.mapFields f={o with data:= .fields (f vs)}:=by
 obtain⟨c,d,dt,sl⟩:=o
 subst hd
 rfl
section
variable {M:Model}{A:Around}{E:Value→Shared→Prop}{s:Shared}{base:Heap}{env:Env}{outer:List Env}{L a:Addr}{oe:Obj}{vs:Array Value}{Q:Unit→Shared→Prop}
end
end L2
namespace L2
open PySem PySem.Spec PySem.W PyProof.Rows
section
variable {X:Cx}{pins:List (Addr×Obj)}{σ:St}{H:Hp}{s:Shared}{a:Addr}{cls:Value}{dx:Option Addr}
end
section
variable {X:Cx}{pins:List (Addr×Obj)}{σ:St}{H:Hp}{s:Shared}{a:Addr}{cls:Value}{dx:Option Addr}{E:XK}
end
end L2
namespace L2
open PySem PySem.Spec PySem.W PyProof.Rows
section
variable {X:Cx}{e:Expr}{es:List Expr}{t:TA}{p pos:Pos}
end
section
variable {P:Program}{w:World}{K:PySem.W.Frag}{mg:Str→Option Value}{base:Heap}
end
section
variable {X:Cx}{E:XK}{C:Addr}{x:Str}{np cpos pos:Pos}{e₀:Expr}{rest:List Expr}{ta:TA}
end
section
variable {X:Cx}{pins:List (Addr×Obj)}{σ:St}{H:Hp}{s:Shared}
end
section
variable {X:Cx}{fx cx n:Str}{fp cpos xpos hp hpos tpos:Pos}{e:Expr}{es:List Expr}{ta:TA}{k j:Nat}{ps:List Str}{sp:Sp}{W:Addr}{st0:Stmt}{ts:TS}
end
section
variable {X:Cx}
end
end L2
namespace L2
open PySem PySem.Spec PyProof.Rows
inductive Dt where
 |i (n:Int)
 |t (l:List Dt)
 |l (l:List Dt)
mutual
inductive IsD (K:PySem.W.Frag) (H:Hp):V→Dt→Prop
 |i (n:Int):IsD K H (.int n) (.i n)
 |t {a:Addr}{xs:List V}{ds:List Dt}:SqT K H a xs→IsDs K H xs ds→IsD K H (.ref a) (.t ds)
 |l {a:Addr}{xs:List V}{ds:List Dt}:SqL K H a xs→IsDs K H xs ds→IsD K H (.ref a) (.l ds)
inductive IsDs (K:PySem.W.Frag) (H:Hp):List V→List Dt→Prop
 |nil:IsDs K H [] []
 |cons {x:V}{d:Dt}{xs:List V}{ds:List Dt}:IsD K H x d→IsDs K H xs ds→IsDs K H (x::xs) (d::ds)
end
mutual
def Dt.eqb:Dt→Dt→Bool
 | .i n,.i m=>n==m
 | .t a,.t b=>Dt.eqs a b
 | .l a,.l b=>Dt.eqs a b
 |_,_=>false
def Dt.eqs:List Dt→List Dt→Bool
 |[],[]=>true
 |x::a,y::b=>Dt.eqb x y&&Dt.eqs a b
 |_,_=>false
end
mutual
theorem Dt.eqb_iff:∀(d e:Dt),Dt.eqb d e=true↔d=e
 | .i n,.i m=>by simp[Dt.eqb]
 | .t a,.t b=>by simp only[Dt.eqb,Dt.t.injEq];exact Dt.eqs_iff a b
 | .l a,.l b=>by simp only[Dt.eqb,Dt.l.injEq];exact Dt.eqs_iff a b
 | .i _,.t _=>by simp[Dt.eqb]
 | .i _,.l _=>by simp[Dt.eqb]
 | .t _,.i _=>by simp[Dt.eqb]
 | .t _,.l _=>by simp[Dt.eqb]
 | .l _,.i _=>by simp[Dt.eqb]
 | .l _,.t _=>by simp[Dt.eqb]
theorem Dt.eqs_iff:∀(a b:List Dt),Dt.eqs a b=true↔a=b
 |[],[]=>by simp[Dt.eqs]
 |x::a,y::b=>by simp only[Dt.eqs,Bool.and_eq_true,List.cons.injEq,Dt.eqb_iff x y,Dt.eqs_iff a b]
 |[],_::_=>by simp[Dt.eqs]
 |_::_,[]=>by simp[Dt.eqs]
end
mutual
def Dt.ok:Nat→Dt→Dt→Bool
 |_,.i _,.i _=>true
 |n+1,.t a,.t b=>Dt.oks n a b
 |n+1,.l a,.l b=>Dt.oks n a b
 |_,_,_=>false
def Dt.oks:Nat→List Dt→List Dt→Bool
 |n,x::a,y::b=>Dt.ok n x y&&Dt.oks n a b
 |_,_,_=>true
end
section
variable {X:Cx}{pins:List (Addr×Obj)}{σ:St}{H:Hp}{s:Shared}{K:PySem.W.Frag}
theorem IsDs.length:∀{xs:List V}{ds:List Dt},IsDs K H xs ds→xs.length=ds.length
 |_,_,.nil =>rfl
 |_,_,.cons _ r=>by rw[List.length_cons,List.length_cons,r.length]
theorem z3R (n:Nat) (e:Nat→Bool):(List.range (n+1)).all e=(e 0&&(List.range n).all fun j=>e (j+1)):=by
 rw[List.range_succ_eq_map,List.all_cons,List.all_map]
 rfl
theorem z4J:∀(ds es:List Dt),(Dt.eqs (ds.take (min ds.length es.length)) (es.take (min ds.length es.length))&&ds.length==es.length)=Dt.eqs ds es
 |[],[]=>by simp[Dt.eqs]
 |[],_::_=>by simp[Dt.eqs]
 |_::_,[]=>by simp[Dt.eqs]
 |d::ds,e::es=>by
  have m:min (d::ds).length (e::es).length =min ds.length es.length+1:=by simp only[q0D];lia
  rw[m,List.take_succ_cons,List.take_succ_cons]
  have ih:=z4J ds es
  have l:((d::ds).length ==(e::es).length)=(ds.length==es.length):=by simp
  rw[l]
  simp only[Dt.eqs,Bool.and_assoc,ih]
mutual
theorem z9Y (I:Inv X pins σ H s):∀{v:V}{d e:Dt},IsD X.K H v d→IsD X.K H v e→d=e
 |_,_,_,.i _,.i _=>rfl
 |_,_,_,.t q1 d1,.t q2 d2=>by
  have e1:=I.tuple_inj q1 q2
  subst e1
  rw[z4K I d1 d2]
 |_,_,_,.l q1 d1,.l q2 d2=>by
  have e1:=I.list_inj q1 q2
  subst e1
  rw[z4K I d1 d2]
 |_,_,_,.t q1 _,.l q2 _=>by
  obtain⟨_,_,⟨o,h1,h2,_⟩,_⟩:=I.tuple q1
  obtain⟨_,_,p,_⟩:=I.list q2
  obtain⟨o',h1',h2',_⟩:=p.isList
  rw[h1] at h1';cases h1'
  rw[h2] at h2'
  exact absurd (Value.type.inj h2') (by decide)
 |_,_,_,.l q2 _,.t q1 _=>by
  obtain⟨_,_,⟨o,h1,h2,_⟩,_⟩:=I.tuple q1
  obtain⟨_,_,p,_⟩:=I.list q2
  obtain⟨o',h1',h2',_⟩:=p.isList
  rw[h1] at h1';cases h1'
  rw[h2] at h2'
  exact absurd (Value.type.inj h2') (by decide)
theorem z4K (I:Inv X pins σ H s):∀{xs:List V}{ds es:List Dt},IsDs X.K H xs ds→IsDs X.K H xs es→ds=es
 |_,_,_,.nil,.nil =>rfl
 |_,_,_,.cons h1 r1,.cons h2 r2=>by rw[z9Y I h1 h2,z4K I r1 r2]
end
def Told (X:Cx) (H:Hp) (s:Shared) (n:Nat) (A:Around):Prop:=∀(v u:V) (d e:Dt) (x y:Value),IsD X.K H v d→IsD X.K H u e→RelV v x→RelV u y→Dt.ok n d e=true→SeqAt.EqAt A s x y (Dt.eqb d e)
theorem z9R {n:Nat}{A:Around} (P:Told X H s n A):∀{xs ys:List V}{ds es:List Dt}{its its2:List Value},IsDs X.K H xs ds→IsDs X.K H ys es→Vals xs its→Vals ys its2→Dt.oks n ds es=true→
 ∃e:Nat→Bool,(∀j (h1:j<its.length) (h2:j<its2.length),SeqAt.EqAt A s its[j] its2[j] (e j))∧(List.range (min its.length its2.length)).all e=(Dt.eqs (ds.take (min ds.length es.length)) (es.take (min ds.length es.length)))
 :=by
 intro xs
 induction xs with
 |nil=>
  intro ys ds es its its2 h1 _ v1 _ _
  cases h1
  cases v1
  exact⟨fun _=>true,fun j h1 _=>absurd h1 (q1t _),by simp[Dt.eqs]⟩
 |cons a xs ih=>
  intro ys ds es its its2 h1 h2 v1 v2 ok
  cases h1 with
  | @cons _ d _ ds h1 r1=>
  cases v1 with
  | @cons _ x _ its v1 w1=>
  cases h2 with
  |nil=>
   cases v2
   exact⟨fun _=>true,fun j _ h2=>absurd h2 (q1t _),by simp[Dt.eqs]⟩
  | @cons _ e' _ es h2 r2=>
  cases v2 with
  | @cons _ y _ its2 v2 w2=>
  have ok':Dt.ok n d e'=true∧Dt.oks n ds es=true:=by simpa[Dt.oks] using ok
  have hd:=P _ _ d e' x y h1 h2 v1 v2 ok'.1
  obtain⟨e,he,hall⟩:=ih r1 r2 w1 w2 ok'.2
  refine⟨fun j=>Nat.casesOn j (Dt.eqb d e') e,fun j h1 h2=>?_,?_⟩
  ·cases j with
   |zero=>exact hd
   |succ j=>exact he j (by simpa using h1) (by simpa using h2)
  ·have m1:min (x::its).length (y::its2).length =min its.length its2.length+1:=by simp only[q0D];lia
   have m2:min (d::ds).length (e'::es).length =min ds.length es.length+1:=by simp only[q0D];lia
   rw[m1,m2,z3R,List.take_succ_cons,List.take_succ_cons]
   show (Dt.eqb d e'&&(List.range (min its.length its2.length)).all e)=(Dt.eqb d e'&&Dt.eqs _ _)
   rw[hall]
theorem y0v {ds es:List Dt} (hl:ds.length=es.length):Dt.eqs (ds.take (min ds.length es.length)) (es.take (min ds.length es.length))=Dt.eqs ds es:=by
 have e5:=z4J ds es
 have z:(ds.length==es.length)=true:=by simpa using hl
 rw[z,Bool.and_true] at e5
 exact e5
theorem z8R (I:Inv X pins σ H s) {n:Nat}{A:Around} (P:Told X H s n A.in1) (hu:A.units<cLine) {a b:Addr}{d e:Dt} (hv:IsD X.K H (.ref a) d) (hw:IsD X.K H (.ref b) e) (ok:Dt.ok (n+1) d e=true):
 SeqAt.RcAt A s (.ref a) (.ref b) (Dt.eqb d e)∧SeqAt.RcNeAt A s (.ref a) (.ref b) (!Dt.eqb d e):=by
 cases hv with
 |t q1 d1=>
  cases hw with
  |l _ _=>simp[Dt.ok] at ok
  |t q2 d2=>
   rename_i xs ds ys es
   obtain⟨its,rv,p,hz⟩:=I.tuple q1
   obtain⟨its2,rv2,p2,hz2⟩:=I.tuple q2
   have ok':Dt.oks n ds es=true:=by simpa[Dt.ok] using ok
   obtain⟨f,hf,hall⟩:=z9R P d1 d2 rv rv2 ok'
   have t1:=SeqAt.RcAt.tuples (A:=A) (s:=s) (e:=f) (show s.heap.IsTuple a its.toArray from p) (show s.heap.IsTuple b its2.toArray from p2) hu (fun j h1 h2=>by simpa using hf j (by simpa using h1) (by simpa using h2))
   have t2:=SeqAt.RcNeAt.tuples (A:=A) (s:=s) (e:=f) (show s.heap.IsTuple a its.toArray from p) (show s.heap.IsTuple b its2.toArray from p2) hu (fun j h1 h2=>by simpa using hf j (by simpa using h1) (by simpa using h2))
   rw[q0h,q0h,hall,←rv.length,←rv2.length,d1.length,d2.length,z4J ds es] at t1 t2
   exact⟨t1,t2⟩
 |l q1 d1=>
  cases hw with
  |t _ _=>simp[Dt.ok] at ok
  |l q2 d2=>
   rename_i xs ds ys es
   obtain⟨its,rv,p,hz⟩:=I.list q1
   obtain⟨its2,rv2,p2,hz2⟩:=I.list q2
   have ok':Dt.oks n ds es=true:=by simpa[Dt.ok] using ok
   have l1:its.length=ds.length:=by rw[←rv.length,d1.length]
   have l2:its2.length=es.length:=by rw[←rv2.length,d2.length]
   by_cases hl:ds.length=es.length
   ·obtain⟨f,hf,hall⟩:=z9R P d1 d2 rv rv2 ok'
    have sz:its.toArray.size=its2.toArray.size:=by rw[q0h,q0h];lia
    have t1:=SeqAt.RcAt.lists (A:=A) (s:=s) (e:=f) p.isList p2.isList sz hu (fun j h1 h2=>by simpa using hf j (by simpa using h1) (by simpa using h2))
    have t2:=SeqAt.RcNeAt.lists (A:=A) (s:=s) (e:=f) p.isList p2.isList sz hu (fun j h1 h2=>by simpa using hf j (by simpa using h1) (by simpa using h2))
    have hm:min its.length its2.length=its.length:=by lia
    rw[hm] at hall
    rw[q0h,hall,y0v hl] at t1 t2
    exact⟨t1,t2⟩
   ·have e5:Dt.eqs ds es=false:=by
     have e5:=z4J ds es
     have z:(ds.length==es.length)=false:=by simpa using hl
     rw[z,Bool.and_false] at e5
     exact e5.symm
    have sz:(its.toArray.size != its2.toArray.size)=true:=by rw[q0h,q0h,l1,l2];simpa using hl
    show SeqAt.RcAt A s _ _ (Dt.eqs ds es)∧SeqAt.RcNeAt A s _ _ (!Dt.eqs ds es)
    rw[e5]
    exact⟨SeqAt.RcAt.lists_lengths p.isList p2.isList sz hu,SeqAt.RcNeAt.lists_lengths p.isList p2.isList sz hu⟩
theorem told (I:Inv X pins σ H s):∀(n:Nat) (A:Around),A.units+n<cLine→Told X H s n A:=by
 intro n
 induction n with
 |zero=>
  intro A hu v u d e x y hv hw r1 r2 ok
  cases hv with
  |i k=>
   cases hw with
   |i m=>
    obtain⟨t,rfl⟩:=r1
    obtain⟨t',rfl⟩:=r2
    exact SeqAt.EqAt.int_int k t m t'
   |t _ _=>simp[Dt.ok] at ok
   |l _ _=>simp[Dt.ok] at ok
  |t _ _=>cases hw<;>simp[Dt.ok] at ok
  |l _ _=>cases hw<;>simp[Dt.ok] at ok
 |succ n ih=>
  intro A hu v u d e x y hv hw r1 r2 ok
  have P:=ih A.in1 (by show A.units+1+n<cLine;lia)
  have refs:∀{a b:Addr},v= .ref a→u= .ref b→SeqAt.EqAt A s x y (Dt.eqb d e):=fun {a b} ev eu=>by
   subst ev eu
   cases (show x=Value.ref a from r1)
   cases (show y=Value.ref b from r2)
   by_cases hab:a=b
   ·subst hab
    rw[(Dt.eqb_iff d e).mpr (z9Y I hv hw)]
    exact SeqAt.EqAt.same _
   ·exact SeqAt.EqAt.of_refs hab (z8R I P (by lia) hv hw ok).1
  cases hv with
  |i k=>
   cases hw with
   |i m=>
    obtain⟨t,rfl⟩:=r1
    obtain⟨t',rfl⟩:=r2
    exact SeqAt.EqAt.int_int k t m t'
   |t _ _=>simp[Dt.ok] at ok
   |l _ _=>simp[Dt.ok] at ok
  |t _ _=>
   cases hw with
   |i m=>simp[Dt.ok] at ok
   |t _ _=>exact refs rfl rfl
   |l _ _=>simp[Dt.ok] at ok
  |l _ _=>
   cases hw with
   |i m=>simp[Dt.ok] at ok
   |t _ _=>simp[Dt.ok] at ok
   |l _ _=>exact refs rfl rfl
end
section
variable {X:Cx}
def rEqD (K:PySem.W.Frag):R2:=fun x y H Q=>∃(a b:Addr) (d e:Dt),x= .ref a∧y= .ref b∧IsD K H x d∧IsD K H y e∧Dt.ok 9 d e=true∧Q (.bl (Dt.eqb d e)) H
def rNeD (K:PySem.W.Frag):R2:=fun x y H Q=>∃(a b:Addr) (d e:Dt),x= .ref a∧y= .ref b∧IsD K H x d∧IsD K H y e∧Dt.ok 9 d e=true∧Q (.bl (!Dt.eqb d e)) H
theorem y3z (hu:X.A.units+64<cLine):OpR X (compareOp .Eq) (rEqD X.K):=by
 intro pins s σ H x y v u Q I r1 r2 h
 obtain⟨a,b,d,e,rfl,rfl,h1,h2,ok,q⟩:=h
 cases (show v=Value.ref a from r1)
 cases (show u=Value.ref b from r2)
 exact (z8R I (told I 8 X.A.in1 (by show X.A.units+1+8<cLine;lia)) (by lia) h1 h2 ok).1 _ _ _ _ ⟨.bl _,H,I,rfl,q⟩
theorem y3w (hu:X.A.units+64<cLine):OpR X (compareOp .NotEq) (rNeD X.K):=by
 intro pins s σ H x y v u Q I r1 r2 h
 obtain⟨a,b,d,e,rfl,rfl,h1,h2,ok,q⟩:=h
 cases (show v=Value.ref a from r1)
 cases (show u=Value.ref b from r2)
 exact (z8R I (told I 8 X.A.in1 (by show X.A.units+1+8<cLine;lia)) (by lia) h1 h2 ok).2 _ _ _ _ ⟨.bl _,H,I,rfl,q⟩
theorem z1U {K:PySem.W.Frag}{H:Hp}:∀ns:List Int,IsDs K H (ns.map V.int) (ns.map Dt.i)
 |[]=> .nil
 |n::r=> .cons (.i n) (z1U r)
theorem z1j (n:Nat):∀a b:List Int,Dt.oks n (a.map Dt.i) (b.map Dt.i)=true
 |[],_=>by simp[Dt.oks]
 |_::_,[]=>by simp[Dt.oks]
 |x::a,y::b=>by
  have:=z1j n a b
  simp only[q0t,Dt.oks,this,Bool.and_true]
  cases n<;>rfl
theorem z7e:∀a b:List Int,Dt.eqs (a.map Dt.i) (b.map Dt.i)=decide (a=b)
 |[],[]=>by simp[Dt.eqs]
 |[],_::_=>by simp[Dt.eqs]
 |_::_,[]=>by simp[Dt.eqs]
 |x::a,y::b=>by
  have ih:=z7e a b
  simp only[q0t,Dt.eqs,Dt.eqb,ih]
  by_cases h1:x=y<;>by_cases h2:a=b<;>simp[h1,h2]
end
end L2
set_option maxHeartbeats 1000000
namespace L2
open PySem PySem.Spec PyProof.Rows
def z1H (X:Cx) (Nc:List Str) (scope:Scope) (cl:List (Str×Addr)) (C:Addr) (s2:Shared) (H2:Hp) (fp:List Addr):Cx where
 prog:=X.prog
 w:=X.w
 K:=X.K
 mg:=X.mg
 base:=X.base
 A:=X.A
 N:=Nc
 s₀:=s2
 H₀:=H2
 env:=compEnvC scope cl C X.env
 outer:=X.stack
 stack:=X.stack
 ex:=fp
 fn:=fun _=>false
 calm:=true
 pn:=[]
 xe:=fun _ _=>False
def CapC (env:Env):List (Str×Addr)→Prop
 |[]=>True
 |(x,c)::r=>env.cells.lookup x=some c∧CapC env r
def CapN (X:Cx) (scope:Scope) (cl:List (Str×Addr)):List Str→List (Option Nat)→Prop
 |[],[]=>True
 |_::r,none::q=>CapN X scope cl r q
 |x::r,some k::q=>(X.N[k]? =some x∧X.env.kindOf x=some .cell ∧(cl.lookup x).isSome =true∧(relabel scope X.env).names.lookup x=some .cell)∧CapN X scope cl r q
 |_,_=>False
def z0z (fr:List (Option Nat)) (σ:St):St:=fr.map fun o=>o.bind fun k=>(σ[k]?).join
theorem CapC.mem {env:Env}:∀{cl:List (Str×Addr)},CapC env cl→∀x c,cl.lookup x=some c→env.cells.lookup x=some c
 |[],_,x,c,e=>by simp at e
 |(y,d)::r,h,x,c,e=>by
  rw[List.lookup_cons] at e
  split at e
  ·rename_i hb
   have:x=y:=by simpa using hb
   subst this
   cases e
   exact h.1
  ·exact h.2.mem x c e
theorem CapN.length {X:Cx}{scope:Scope}{cl:List (Str×Addr)}:∀{Nc:List Str}{fr:List (Option Nat)},CapN X scope cl Nc fr→fr.length=Nc.length
 |[],[],_=>rfl
 |_::r,none::q,h=>by rw[List.length_cons,List.length_cons,CapN.length (show CapN X scope cl r q from h)]
 |_::r,some k::q,h=>by rw[List.length_cons,List.length_cons,CapN.length h.2]
 |[],_::_,h=>h.elim
 |_::_,[],h=>h.elim
theorem CapN.at {X:Cx}{scope:Scope}{cl:List (Str×Addr)}:∀{Nc:List Str}{fr:List (Option Nat)},CapN X scope cl Nc fr→∀(j:Nat) (x:Str) (k:Nat),Nc[j]? =some x→fr[j]? =some (some k)→
 X.N[k]? =some x∧X.env.kindOf x=some .cell ∧(cl.lookup x).isSome =true∧(relabel scope X.env).names.lookup x=some .cell
 |[],[],_,j,x,k,e,_=>by simp at e
 |_::r,none::q,h,0,x,k,_,e=>by simp at e
 |y::r,some k'::q,h,0,x,k,e1,e2=>by
  simp at e1 e2
  subst e1 e2
  exact h.1
 |_::r,none::q,h,j+1,x,k,e1,e2=>CapN.at (show CapN X scope cl r q from h) j x k (by simpa using e1) (by simpa using e2)
 |_::r,some k'::q,h,j+1,x,k,e1,e2=>CapN.at h.2 j x k (by simpa using e1) (by simpa using e2)
 |[],_::_,h,_,_,_,_,_=>h.elim
 |_::_,[],h,_,_,_,_,_=>h.elim
theorem z1Y {scope:Scope}{env:Env}{cl:List (Str×Addr)} (hcell:∀y∈scope.names,y.2≠ .cell) (hall:(scope.names.all fun p=>p.2 != .free || (cl.lookup p.1).isSome)=true):
 ∀x,((relabel scope env).names.lookup x=some .cell ∨(relabel scope env).names.lookup x=some .free)→∃c,cl.lookup x=some c:=by
 intro x hx
 unfold relabel at hx
 dsimp only at hx
 revert hcell hall hx
 generalize scope.names=ns
 intro hcell hall hx
 induction ns with
 |nil=>simp at hx
 |cons p r ih=>
  obtain⟨n,k⟩:=p
  have hk:k≠ .cell :=hcell (n,k) q0i
  simp only[List.all_cons,q1j] at hall
  rw[q0t] at hx
  by_cases hxn:x=n
  ·subst hxn
   have kf:k= .free :=by
        by_cases hc:(k==NameKind.free&&env.scope.kind== .function &&env.kindOf x==some .cell)=true
        ·simp only[q1j,beq_iff_eq] at hc
         exact hc.1.1
        ·dsimp only at hx
         rw[if_neg hc] at hx
         simp only[List.lookup_cons,beq_self_eq_true] at hx
         rcases hx with z|z
         ·exact absurd (Option.some.inj z) hk
         ·exact Option.some.inj z
   have h1:=hall.1
   rw[kf] at h1
   have h2:(cl.lookup x).isSome =true:=by simpa using h1
   exact Option.isSome_iff_exists.mp h2
  ·refine ih (fun y hy=>hcell y (q0f _ hy)) hall.2 ?_
   have hb:(x==n)=false:=by simpa using hxn
   dsimp only at hx
   by_cases hc:(k==NameKind.free&&env.scope.kind== .function &&env.kindOf n==some .cell)=true
   ·rw[if_pos hc] at hx
    simpa only[List.lookup_cons,hb] using hx
   ·rw[if_neg hc] at hx
    simpa only[List.lookup_cons,hb] using hx
def PTs (X:Cx) (ifs:List Expr) (t:TT):Prop:=
 ∀(pins:List (Addr×Obj)) (s:Shared) (σ:St) (H:Hp) (Q:Bool→Hp→Prop),Inv X pins σ H s→t σ H Q→
  wpAny (model X.prog X.w) X.A (forIn ifs true fun c r=>if r=true then do let ok ←isTrue c X.env (eval c X.env);pure (ForInStep.yield ok) else pure (ForInStep.yield r)) (TP X pins σ Q) X.xe s
theorem z0U {X:Cx}:PTs X [] (fun _ H Q=>Q true H):=fun _ _ _ H _ I h=>wpAny_tests_nil ⟨H,I,h⟩
theorem z1o {X:Cx}{c:Expr}{t:TT} (h:PT X c t):PTs X [c] t:=fun pins s σ H Q I q=>wpAny_tests_one (h pins s σ H Q I q)
def z2s (J:It) (g:TG) (tt:TT) (te:TE) (Q:VK) (D:Addr) (σ0:St) (H0:Hp):Prop:=∃W:Nat→Nat→St→Hp→Prop,(∃m,W 0 m σ0 H0)∧∀i m σc Hc,W i m σc Hc→
 (J.stop i Hc∧Q (.ref D) Hc)∨(J.go i Hc∧∀x H',J.yld i Hc x H'→g x σc H' fun σ2 H2=>tt σ2 H2 fun b H3=>
    if b=true then te σ2 H3 fun v H4=>∃acc m',H4 D=some (.lst acc)∧acc.length<sizeLine∧m'<m∧W (i+1) m' σ2 (upd H4 D (.lst (acc++[v]))) else ∃m',m'<m∧W (i+1) m' σ2 H3)
def y2W (fr:List (Option Nat)) (wi:TI) (g:TG) (tt:TT) (te:TE):TE:=fun σ H Q=>wi σ H fun J H1=>∀D,H1 D=none→z2s J g tt te Q D (z0z fr σ) (upd H1 D (.lst []))
section
variable {X:Cx}{tg iter elt:Expr}{ifs:List Expr}{scope:Scope}{pos:Pos}{cl:List (Str×Addr)}{Nc:List Str}{fr:List (Option Nat)}{wi:TI}{g:TG}{tt:TT}{te:TE}
theorem z0J (hc:X.calm=true) (hi:PI X tg iter wi) (hcl:closureFor scope X.env=pure cl) (hcell:∀y∈scope.names,y.2≠ .cell) (hk:scope.kind= .function) (hnm:∀y∈scope.names,y.2= .local →scope.names.lookup y.1=some .local)
 (hall:(scope.names.all fun p=>p.2 != .free || (cl.lookup p.1).isSome)=true) (cc:CapC X.env cl) (cn:CapN X scope cl Nc fr)
 (hg:∀C s2 H2 fp,PG (z1H X Nc scope cl C s2 H2 fp) tg g) (ht:∀C s2 H2 fp,PTs (z1H X Nc scope cl C s2 H2 fp) ifs tt) (he:∀C s2 H2 fp,PE (z1H X Nc scope cl C s2 H2 fp) elt te)
 (hs:∀x,foldedSetIterable iter X.env x=pure x:=by intro _;rfl):PE X (.ListComp elt [⟨tg,iter,ifs,0⟩] scope pos) (y2W fr wi g tt te):=by
 intro pins s σ H Q I h
 rw[eval_ListComp]
 refine wpAny_comprehension_free (use:=none) rfl hs hcl hk hnm ?_
 refine wpAny_mono (hi pins s σ H _ I h) (fun xv s1 h1=>wpAny_mono h1 (fun itv s2 h2=>?_) fun _ _ e=>e) fun _ _ e=>e
 obtain⟨it,fp,tn,J,H2,rfl,I2,T,st2,f2,q2⟩:=h2
 obtain⟨W,⟨m0,w0⟩,turn⟩:=q2 s2.heap.objs.size (I2.hok.fresh (q0k _))
 refine wpAny_newObj_type (wpAny_newFunctionEnv hcell (by intro y hy;simp at hy) (fun h4 ns4 sb4=>?_) hk)
 dsimp only at ns4 sb4 ⊢
 generalize hD:s2.heap.objs.size=D at*
 generalize hL:s2.heap.push {cls:= .type "list",dict:=none,data:= .seq ([]:List Value).toArray}=hl at ns4 sb4 ⊢
 have hlsz:hl.objs.size=D+1:=by rw[←hL,q1s,hD]
 rw[hlsz] at ns4 sb4 ⊢
 have DC:D≠D+1:=q0u (Nat.lt_succ_self _)
 have low:∀b o,s2.heap.get? b=some o→b<D:=fun b o e=>by rw[←hD];exact q0p e
 have kp:∀b o,s2.heap.get? b=some o→h4.get? b=some o:=fun b o e=>by
  have z:=low b o e
  refine sb4.extBut b o (q0u (q0U z)) (q0d _ ?_)
  rw[←hL]
  exact q0d _ e
 have hD4:h4.get? D=some {cls:= .type "list",dict:=none,data:= .seq ([]:List Value).toArray}:=by
  refine sb4.extBut D _ DC (q0d _ ?_)
  rw[←hL,←hD]
  exact q0l _ rfl
 have hn:H2 D=none:=by rw[←hD];exact I2.hok.fresh (q0k _)
 have hnC:H2 (D+1)=none:=I2.hok.fresh (by rw[hD];exact q1r _)
 let Y:=z1H X Nc scope cl (D+1) s2 H2 fp
 have ixv:∀b∈fp,b<D:=fun b hb=>by
  obtain⟨o,e,_⟩:=T.obj 0 _ st2 b hb
  exact low b o e
 have okY:Y.Ok:=by
  refine⟨I2.ok.mod,?_,I2.ok.glob,I2.ok.blt,?_,?_,?_,?_,fun _=>I2.ok.hd hc,I2.ok.frames,.inl rfl,?_,I2.bs,?_,?_,?_,I2.stack,I2.stkFree⟩
  ·exact hk
  ·show s2.heap.objs.size≤D+1
   lia
  ·intro x y c e1 e2
   exact I2.ok.inj x y c (cc.mem x c e1) (cc.mem y c e2)
  ·intro x hx
   exact z1Y hcell hall x hx
  ·intro x c e
   cases e
  ·intro b hb
   refine⟨fun z=>?_,fun x c e z=>?_⟩
   ·exact absurd z (q0u (q0U (ixv b hb)))
   ·exact (f2 b hb).2.2.2.2.1 x c (cc.mem x c e) z
  ·exact q0q I2.ok.bsz I2.sz
  ·intro b o e hb
   have z:=(f2 b hb).2.2.2.1
   rcases z with z|z
   ·exact I2.ok.noex b o e z
   ·exact absurd (q0B (q0p (I2.ok.bs b o e).1) z) (q1l _)
  ·intro b hb z
   have e2:=q0o.mp (I2.stkSub b z)
   rcases e2 with e2|e2
   ·exact (f2 b hb).2.1 e2
   ·exact (f2 b hb).2.2.1 e2
 have IY:Inv Y [] (z0z fr σ) (upd H2 D (.lst [])) {s2 with heap:=h4,toks:=s2.toks+([]:List (Str×Value)).length}:=by
  refine⟨okY,rfl,I2.bare,⟨fun b o e n _ _=>kp b o e,fun b o e n _ _=>⟨o.slots,kp b o e⟩,fun b o e n _=>?_,fun b o e _=>⟨o,kp b o e⟩,fun b xs e=>?_,fun b o u e=>?_,fun b ps e=>⟨#[],?_⟩⟩,?_,fun x c e=>?_,?_,fun x c e=>?_,fun p hp=>?_,fun b u e=>?_,?_⟩
  ·rw[z0h (q0u (low b o e))];exact n
  ·rw[z0h (z0f e hn)];exact e
  ·rw[z0h (z0f e hn)];exact e
  ·rw[z0h (z0f e hn),show H2 b=_ from e];simp
  ·refine⟨_,ns4,fun j x v e1 e2 e3=>?_⟩
   have e2':(fr.map fun o=>o.bind fun k=>(σ[k]?).join)[j]? =some (some v):=e2
   rw[q0j] at e2'
   obtain⟨o,ho,hv⟩:=q0v.mp e2'
   cases o with
   |none=>cases hv
   |some k=>
    obtain⟨c1,c2,c3,c4⟩:=cn.at j x k e1 ho
    have hσ:σ[k]? =some (some v):=by
        have hv':(σ[k]?).join =some v:=hv
        cases z:σ[k]? with
        |none=>rw[z] at hv';cases hv'
        |some w'=>rw[z] at hv';exact congrArg some hv'
    obtain⟨m,hm,hlk⟩:=I2.loc
    obtain⟨u,r,lk⟩:=hlk k x v c1 hσ (.inr (.inl c2))
    refine⟨u,r,.inr ⟨.inl c4,?_⟩⟩
    rcases lk with⟨z,_⟩|⟨_,c,ec,oc,hoc,dc⟩
    ·rw[c2] at z;cases z
    ·obtain⟨c',ec'⟩:=Option.isSome_iff_exists.mp c3
     have:=cc.mem x c' ec'
     rw[ec] at this;cases this
     exact⟨c,ec',oc,kp c oc hoc,dc⟩
  ·obtain⟨v,oc,hoc,dc⟩:=I2.cell x c (cc.mem x c e)
   exact⟨v,oc,kp c oc hoc,dc⟩
  ·show upd H2 D (.lst []) (D+1)=none
   rw[z0h (Ne.symm DC)];exact hnC
  ·obtain⟨v,oc,hoc,dc⟩:=I2.cell x c (cc.mem x c e)
   rw[z0h (q0u (low c oc hoc))]
   exact I2.freeC x c (cc.mem x c e)
  ·simp[Y,z1H] at hp
  ·by_cases hb:b=D
   ·subst hb
    rw[z0b] at e;cases e
    exact⟨q0A _,[],_,.nil,hD4⟩
   ·rw[z0h hb] at e
    exact (I2.hok b u e).stay (fun c v _ q=>kp c v q) (fun c q=>by rw[z0h (z0f q hn)];exact q) fun c xs q=>by rw[z0h (z0f q hn)];exact q
  ·show (fr.map _).length =Nc.length
   rw[q0a];exact cn.length
 have fY:∀{H':Hp},(∀b∈fp,H' b=none)→∀b∈fp,y0j Y [] H' b:=fun {H'} hn' b hb=>by
  refine⟨hn' b hb,fun z=>?_,fun z=>?_,.inl hb,fun x c e z=>?_,fun p hp=>?_⟩
  ·exact absurd z (q0u (q0U (ixv b hb)))
  ·exact okY.exfs b hb z
  ·exact (f2 b hb).2.2.2.2.1 x c (cc.mem x c e) z
  ·simp[Y,z1H] at hp
 have st4:tn 0 h4:=T.keep _ _ _ st2 fun b hb o e=>kp b o e
 have fr4:∀b∈fp,upd H2 D (.lst []) b=none:=fun b hb=>by
  rw[z0h (q0u (ixv b hb))]
  exact (f2 b hb).1
 have loop:∀s3:Shared,s3={s2 with heap:=h4,toks:=s2.toks+([]:List (Str×Value)).length}→
  codeAny (model X.prog X.w) X.A (.compLoop (.ListComp elt [⟨tg,iter,ifs,0⟩] scope pos) 0 (.ref it) (.ref D) (compEnvC scope cl (D+1) X.env)) (compPost (model X.prog X.w) X.A X.xe none (EP X pins σ Q) (.ref D) (D+1)) s3:=by
  rintro s3 rfl
  refine codeAny_loop rfl (fun n s'=>∃i σ' H',Inv Y [] σ' H' s'∧tn i s'.heap∧(∀b∈fp,H' b=none)∧W i n σ' H') (fun n s5 hI=>?_) m0 ⟨0,_,_,IY,st4,fr4,w0⟩
  obtain⟨i,σ5,H5,I5,st5,fr5,w5⟩:=hI
  show wpAny _ X.A ((compTurn (.ListComp elt [⟨tg,iter,ifs,0⟩] scope pos) 0 (.ref it) (.ref D) (compEnvC scope cl (D+1) X.env)).onRaise (fun x=>do noteFrame x (compEnvC scope cl (D+1) X.env);theTreesLotGoes x)) _ _ s5
  refine wpAny_noted ?_
  rw[compTurn_list]
  refine wpAny_bind (wpAny_standAt (wpAny_bind ?_))
  rcases turn i n σ5 H5 w5 with⟨stop,qn⟩|⟨go,step⟩
  ·refine wpAny_mono (T.done Y rfl rfl rfl rfl i [] s5 σ5 H5 (fun _ _=>False) I5 (fY fr5) st5 stop) (fun r s6 ⟨hr,I6⟩=>?_) fun _ _ z=>z.elim
   subst hr
   refine wpAny_pure ?_
   obtain⟨m6,hm6,_⟩:=id I6.loc
   refine⟨m6,hm6,fun h7 sb7=>?_⟩
   have un:Un (frs X.stack) fp H2 H5 s2.heap h7:=by
        have b6:=I6.base
        have nc:∀b o,s2.heap.get? b=some o→b≠D+1:=fun b o e=>q0u (q0U (low b o e))
        refine⟨fun b o e n1 n2 n3=>(sb7.2 b (nc b o e)).trans (b6.keep b o e n1 n2 n3),fun b o e n1 n2 n3=>?_,b6.free,fun b o e n3=>?_,b6.tups,b6.frzs,b6.tbls⟩
        ·obtain⟨sl,z⟩:=b6.slot b o e n1 n2 n3
         exact⟨sl,(sb7.2 b (nc b o e)).trans z⟩
        ·obtain⟨o',z⟩:=b6.there b o e n3
         exact⟨o',(sb7.2 b (nc b o e)).trans z⟩
   have hok7:HOk X.prog X.w H5 h7:=fun b u e=>by
        refine (I6.hok b u e).stay (fun c v hc' q=>(sb7.2 c fun z=>?_).trans q) (fun _ q=>q) fun _ _ q=>q
        have fC:H5 (D+1)=none:=I6.free
        subst z
        rcases hc' with z|z
        ·rw[←z,fC] at e;cases e
        ·rw[fC] at z;cases z
   have IX:=I2.call' (s':={s6 with heap:=h7}) (ch:=fp) I6.os un hok7 I6.bare fun b hb=>⟨(f2 b hb).2.2.2.1,(f2 b hb).2.1,(f2 b hb).2.2.2.2.1,(f2 b hb).2.2.2.2.2⟩
   exact⟨.ref D,H5,IX,rfl,qn⟩
  ·refine wpAny_mono (T.item Y rfl rfl rfl rfl i [] s5 σ5 H5 (fun _ _=>False) I5 (fY fr5) st5 go) (fun r s6 ⟨u,hr,h6⟩=>?_) fun _ _ z=>z.elim
   subst hr
   refine wpAny_bind (wpAny_mono h6 (fun _ s7 ⟨x,H7,I7,r7,y7,st7,fr7⟩=>?_) fun _ _ z=>z.elim)
   have I7':=I7.pinned (fY fr7) (T.obj _ _ st7)
   refine wpAny_bind (wpAny_mono (hg _ _ _ _ _ s7 σ5 H7 x u _ I7' r7 (step x H7 y7)) (fun _ s8 ⟨σ8,H8,I8,q8⟩=>?_) fun _ _ z=>z.elim)
   have again:∀{σ':St}{H':Hp}{s':Shared}{k:Nat},Inv Y ([]++z4d fp s7.heap) σ' H' s'→W (i+1) k σ' H'→∃i' σ'' H'',Inv Y [] σ'' H'' s'∧tn i' s'.heap∧(∀b∈fp,H'' b=none)∧W i' k σ'' H'':=fun {σ' H' s' k} I' w'=>by
        refine⟨i+1,σ',H',I'.unpinned,T.keep _ _ _ st7 fun b hb o e=>(I'.pin (b,o) (q0z _ (q0z _ (z1n hb e)))).1,fun b hb=>?_,w'⟩
        obtain⟨o,e,d⟩:=T.obj _ _ st7 b hb
        exact (I'.pin (b,o) (q0z _ (q0z _ (z1n hb e)))).2.1
   refine wpAny_bind (wpAny_mono (ht _ _ _ _ _ s8 σ8 H8 _ I8 q8) (fun ok s9 ⟨H9,I9,q9⟩=>?_) fun _ _ z=>z.elim)
   cases ok with
   |false=>
    obtain⟨m',hm',w'⟩:=q9
    exact wpAny_pure ⟨rfl,m',hm',again I9 w'⟩
   |true=>
    refine wpAny_bind (wpAny_bind (wpAny_mono (he _ _ _ _ _ s9 σ8 H9 _ I9 q9) (fun ev s10 ⟨v,H10,I10,r10,acc,m',hacc,hlen,hm',w'⟩=>?_) fun _ _ z=>z.elim))
    refine wpAny_bind (wpAny_mono (z1b (X:=Y) _ s10 σ8 H10 (.ref D) [v] (.ref D) [ev] (fun r H'=>r= .non ∧H'=upd H10 D (.lst (acc++[v]))) I10 rfl (.cons r10 .nil) ⟨D,acc,v,rfl,rfl,hacc,hlen,rfl,rfl⟩) (fun _ s11 ⟨_,H11,I11,_,_,e11⟩=>?_) fun _ _ z=>z.elim)
    subst e11
    exact wpAny_pure (wpAny_pure ⟨rfl,m',hm',again I11 w'⟩)
 exact codeAny_compStart_list (loop _ rfl) (T.self _ _ _ _ _ st4 (loop _ rfl))
end
end L2
namespace L2
open PySem PySem.Spec PyProof.Rows
def SqA (K:PySem.W.Frag) (H:Hp) (a:Addr) (xs:List V):Prop:=SqL K H a xs∨SqT K H a xs
theorem SqA.same {K:PySem.W.Frag}{H H':Hp}{a:Addr}{xs:List V} (g:Same H H') (h:SqA K H a xs):SqA K H' a xs:=by
 rcases h with h|h
 ·exact .inl (h.same g)
 ·exact .inr (h.same g)
def trV:V→Bool
 | .int i=>i != 0
 | .bl b=>b
 |_=>false
def PlV:V→Prop
 | .int _=>True
 | .bl _=>True
 | .non =>True
 |_=>False
section
variable {X:Cx}
theorem y1U {xs:List V} (f:V→Bool):((List.range xs.length).any fun i=>((xs[i]?).map f).getD false)=xs.any f:=by
 rw[q1p,q1i,q1i]
 constructor
 ·rintro⟨i,hi,h⟩
  have hl:i<xs.length:=q1a.mp hi
  refine⟨xs[i],q0F hl,?_⟩
  simpa[hl] using h
 ·rintro⟨x,hx,h⟩
  obtain⟨i,hl,e⟩:=q0Q.mp hx
  exact⟨i,q1a.mpr hl,by simp[hl,e,h]⟩
theorem z2I {prog:Program}{w:World}{A:Around}{ys:List V}{its:List Value} (r:Vals ys its) (hp:∀y∈ys,PlV y):
 TruthOf prog w A (fun i v=>its.toArray[i]? =some v) (fun i=>((ys[i]?).map trV).getD false):=by
 intro i v s Q E hv q
 have hv':its[i]? =some v:=by simpa using hv
 have hi:i<ys.length:=by rw[r.length];exact (q0E.mp hv').1
 obtain⟨u,hu,ru⟩:=r.get (q0b hi)
 rw[hv'] at hu;cases hu
 have p:=hp _ (q0F hi)
 have q':Q (trV ys[i]) s:=by simpa[hi] using q
 generalize ys[i]=y at*
 cases y with
 |int k=>obtain⟨t,rfl⟩:=ru;exact PySem.P.truthy_int q'
 |bl b=>cases ru;exact wpAny_truthy_bool q'
 |non=>cases ru;exact truthy_none q'
 |_=>exact p.elim
theorem y1m (hc:X.calm=true):z1J X (.builtin "any") (fun xs H Q=>∃p ys,xs=[.ref p]∧SqA X.K H p ys∧(∀y∈ys,PlV y)∧Q (.bl (ys.any trV)) H):=by
 intro pins s σ H xs us Q I r h
 obtain⟨p,ys,rfl,hq,hp,q⟩:=h
 obtain⟨u,rfl,rx⟩:=z4Q r
 cases rx
 have hh:X.A.in1.handled=none:=I.ok.hd hc
 refine call_any_walk ?_
 rcases hq with hq|hq
 ·obtain⟨its,r',pl,hz⟩:=I.list hq
  have hne:p≠s.heap.objs.size:=by obtain⟨o,e,_⟩:=pl.isList;exact q0u (q0p e)
  refine wpAny_pyIter_list pl.isList ⟨_,_,_,_,_,_,_,rfl,Walks.list hh _ p hne its.toArray,⟨⟨_,q0l _ rfl,rfl,rfl⟩,pl.isList.push _⟩,z2I r' hp,fun h' tk kp=>?_⟩
  have kp':∀b o,s.heap.get? b=some o→h'.get? b=some o:=fun b o e=>kp b o (by have:=q0p e;simp;exact q0u this) (q0d _ e)
  refine⟨.bl (ys.any trV),H,I.kept kp',?_,q⟩
  show Value.bool _=_
  rw[q0h,←r'.length,y1U]
 ·obtain⟨its,r',pl,hz⟩:=I.tuple hq
  have pl':s.heap.IsTuple p its.toArray:=pl
  have hne:p≠s.heap.objs.size:=by obtain⟨o,e,_⟩:=pl';exact q0u (q0p e)
  refine wpAny_pyIter_tuple pl' ⟨_,_,_,_,_,_,_,rfl,Walks.tuple hh _ p hne its.toArray,⟨⟨_,q0l _ rfl,rfl,rfl⟩,pl'.push _⟩,z2I r' hp,fun h' tk kp=>?_⟩
  have kp':∀b o,s.heap.get? b=some o→h'.get? b=some o:=fun b o e=>kp b o (by have:=q0p e;simp;exact q0u this) (q0d _ e)
  refine⟨.bl (ys.any trV),H,I.kept kp',?_,q⟩
  show Value.bool _=_
  rw[q0h,←r'.length,y1U]
end
def SIt (b:Bool) (h:Heap) (it a:Addr) (k:Nat):Prop:=match b with
 |true=>h.IsListIter it a k
 |false=>h.IsTupleIter it a k
def SAt (b:Bool) (h:Heap) (a:Addr) (its:Array Value):Prop:=match b with
 |true=>h.IsList a its
 |false=>h.IsTuple a its
theorem SIt.ob {b:Bool}{h:Heap}{it a:Addr}{k:Nat} (x:SIt b h it a k):∃o n,h.get? it=some o∧o.cls= .type n∧(n="list_iterator"∨n="tuple_iterator")∧o.data= .fields #[.ref a,.int k 0]:=by
 cases b with
 |true=>obtain⟨o,e,c,d⟩:=x;exact⟨o,_,e,c,.inl rfl,d⟩
 |false=>obtain⟨o,e,c,d⟩:=x;exact⟨o,_,e,c,.inr rfl,d⟩
theorem SAt.ob {b:Bool}{h:Heap}{a:Addr}{its:Array Value} (x:SAt b h a its):∃o n,h.get? a=some o∧o.cls= .type n∧(n="list"∨n="tuple"):=by
 cases b with
 |true=>obtain⟨o,e,c,_⟩:=x;exact⟨o,_,e,c,.inl rfl⟩
 |false=>obtain⟨o,e,c,_⟩:=x;exact⟨o,_,e,c,.inr rfl⟩
theorem SIt.keep {b:Bool}{h h':Heap}{it a:Addr}{k:Nat} (x:SIt b h it a k) (f:∀o,h.get? it=some o→h'.get? it=some o):SIt b h' it a k:=by
 cases b with
 |true=>obtain⟨o,e,r⟩:=x;exact⟨o,f o e,r⟩
 |false=>obtain⟨o,e,r⟩:=x;exact⟨o,f o e,r⟩
theorem SAt.keep {b:Bool}{h h':Heap}{a:Addr}{its:Array Value} (x:SAt b h a its) (f:∀o,h.get? a=some o→h'.get? a=some o):SAt b h' a its:=by
 cases b with
 |true=>obtain⟨o,e,r⟩:=x;exact⟨o,f o e,r⟩
 |false=>obtain⟨o,e,r⟩:=x;exact⟨o,f o e,r⟩
theorem SIt.ne_at {b c:Bool}{h:Heap}{it a l:Addr}{k:Nat}{its:Array Value} (x:SIt b h it a k) (y:SAt c h l its):l≠it:=by
 rintro rfl
 obtain⟨o,n,e,c1,hn,_⟩:=x.ob
 obtain⟨o',n',e',c2,hn'⟩:=y.ob
 rw[e] at e';cases e'
 rw[c1] at c2;cases c2
 rcases hn with rfl|rfl<;>rcases hn' with h|h<;>exact absurd h (by decide)
section
variable {prog:Program}{w:World}{A:Around}{E:Value→Shared→Prop}{s:Shared}
theorem z2m {b:Bool}{it a:Addr}{k:Nat}{its:Array Value}{x:Value}{Q:Value→Shared→Prop} (hit:SIt b s.heap it a k) (hl:SAt b s.heap a its) (hx:its[k]? =some x)
 (hQ:∀h',SIt b h' it a (k+1)→Heap.SameBut it s.heap h'→Q x {s with heap:=h'}):wpAny (model prog w) A (Builtin.SmallTypes.nextOf (.ref it)) Q E s:=by
 cases b with
 |true=>exact wpAny_nextOf_list_item hit hl hx hQ
 |false=>
  have hit':s.heap.IsTupleIter it a k:=hit
  obtain⟨ob,e1,c1,d1⟩:=id hit'
  obtain⟨ol,e2,_,nl,d2⟩:=hl
  unfold Builtin.SmallTypes.nextOf
  refine wpAny_bind (wpAny_callSpecial?_slot (name:=Str.ofString "__next__") hit'.typeIs F.slot_tuple_iterator_next (wpAny_call_entry F.slot_tuple_iterator_next hit'.typeIs F.entry_tuple_iterator_next ?_ (F.args_tuple_iterator_next_1 _)))
  show wpAny _ _ (field (.ref it) 0>>= _) _ _ s
  refine wpAny_bind (wpAny_field e1 d1 (x:= .ref a) rfl ?_)
  rw[if_neg (show ¬((Value.ref a==Value.none)=true) from q0y)]
  show wpAny _ _ (field (.ref it) 1>>= _) _ _ s
  refine wpAny_bind (wpAny_field e1 d1 (x:= .int k 0) rfl ?_)
  show wpAny _ _ (seqItems? (.ref a)>>= _) _ _ s
  refine wpAny_bind (wpAny_seqItems e2 d2 ?_)
  simp only[q0G,hx]
  refine wpAny_bind (wpAny_setField e1 d1 (by simp) (wpAny_pure ⟨x,rfl,wpAny_pure (hQ _ ?_ (Heap.SameBut.update ..))⟩))
  exact⟨_,Heap.get?_update_self _ e1 (Obj.isFreed_of_fields (Obj.data_mapFields d1 _)),(Obj.cls_mapFields ..).trans c1,by rw[Obj.data_mapFields d1];simp[rawInt]⟩
theorem z4E {b:Bool}{it a:Addr}{k:Nat}{its:Array Value}{Q:Value→Shared→Prop} (hh:A.handled=none) (hit:SIt b s.heap it a k) (hl:SAt b s.heap a its) (hx:its[k]? =none)
 (hE:∀h' e,Heap.ExtBut it s.heap h'→(∃o,h'.get? e=some o∧o.cls= .type "StopIteration")→E (.ref e) {s with heap:=h'}):wpAny (model prog w) A (Builtin.SmallTypes.nextOf (.ref it)) Q E s:=by
 cases b with
 |true=>exact wpAny_nextOf_list_end hh hit hl hx hE
 |false=>
  have hit':s.heap.IsTupleIter it a k:=hit
  obtain⟨ob,e1,c1,d1⟩:=id hit'
  obtain⟨ol,e2,_,nl,d2⟩:=hl
  unfold Builtin.SmallTypes.nextOf
  refine wpAny_bind (wpAny_callSpecial?_slot (name:=Str.ofString "__next__") hit'.typeIs F.slot_tuple_iterator_next (wpAny_call_entry F.slot_tuple_iterator_next hit'.typeIs F.entry_tuple_iterator_next ?_ (F.args_tuple_iterator_next_1 _)))
  show wpAny _ _ (field (.ref it) 0>>= _) _ _ s
  refine wpAny_bind (wpAny_field e1 d1 (x:= .ref a) rfl ?_)
  rw[if_neg (show ¬((Value.ref a==Value.none)=true) from q0y)]
  show wpAny _ _ (field (.ref it) 1>>= _) _ _ s
  refine wpAny_bind (wpAny_field e1 d1 (x:= .int k 0) rfl ?_)
  show wpAny _ _ (seqItems? (.ref a)>>= _) _ _ s
  refine wpAny_bind (wpAny_seqItems e2 d2 ?_)
  simp only[q0G,hx]
  refine wpAny_bind (wpAny_rule (wpAny_bind (wpAny_setField e1 d1 (by simp) ?_)))
  show wpAny _ _ (newExc (.type "StopIteration") []>>= _) _ _ _
  refine wpAny_bind ?_
  simp only[newExc,newTuple]
  refine wpAny_bind (wpAny_newObj_type ?_ (by size_fits))
  refine wpAny_bind (m:=firstArgMember _ _) (wpAny_of_eq (a:=Value.none) (by first|rfl|(simp only[firstArgMember];rfl)) ?_)
  refine wpAny_newObj_type ?_ (by size_fits)
  simp only[raiseNew]
  refine wpAny_bind (wpAny_handled ?_)
  first|rw[show A.in1.handled=none from hh]|rw[hh]
  refine wpAny_bind (wpAny_pure (wpAny_throw ?_))
  exact hE _ _ (((Heap.SameBut.update ..).extBut.push _).push _) ⟨_,q0l _ rfl,rfl⟩
end
end L2
namespace L2
open PySem PySem.Spec PyProof.Rows
structure ZAp (z TI TO i j:Addr):Prop where
 a1:TI≠z
 a2:TO≠z
 a3:i≠z
 a4:j≠z
 a5:TI≠TO
 a6:TI≠i
 a7:TI≠j
 a8:TO≠i
 a9:TO≠j
 a10:i≠j
section
variable {prog:Program}{w:World}{A:Around}{E:Value→Shared→Prop}{s:Shared}
theorem y0m {b c:Bool}{z TI TO i j l m:Addr}{k n:Nat}{xs ys:Array Value}{x y u v:Value}{Q:Value→Shared→Prop} (D:ZAp z TI TO i j) (lz:m≠z) (lT:m≠TO) (lz':l≠z)
 (hz:IsZip s.heap z TI TO .none) (hTI:IsPair s.heap TI (.ref i) (.ref j)) (hTO:IsPair s.heap TO u v)
 (h1:SIt b s.heap i l k) (h2:SIt c s.heap j m n) (hl:SAt b s.heap l xs) (hm:SAt c s.heap m ys) (hx:xs[k]? =some x) (hy:ys[n]? =some y)
 (hQ:∀h',IsZip h' z TI TO (rawInt s.heap.objs.size)→IsPair h' TO x y→SIt b h' i l (k+1)→SIt c h' j m (n+1)→IsPair h' s.heap.objs.size x y→h'.objs.size=s.heap.objs.size+1→
  (∀p o,p≠z→p≠TO→p≠i→p≠j→s.heap.get? p=some o→h'.get? p=some o)→Q (.ref s.heap.objs.size) {s with heap:=h'}):
 wpAny (model prog w) A (Builtin.«zip.__next__» ⟨[.ref z],[]⟩) (fun fin s'=>∃v,fin= .done (.ret v)∧Q v s') E s:=by
 have mi:m≠i:=h1.ne_at hm
 show wpAny _ _ (field (.ref z) 2>>= _) _ _ _
 refine wpAny_bind (wpAny_field hz rfl (x:= .bool false) rfl ?_)
 show wpAny _ _ (field (.ref z) 3>>= _) _ _ _
 refine wpAny_bind (wpAny_field hz rfl (x:= .ref TI) rfl (wpAny_bind (wpAny_seqItems hTI rfl ?_)))
 show wpAny _ _ (Builtin.SmallTypes.ownedTupleIsFree (.ref z)>>= _) _ _ _
 refine wpAny_bind ?_
 unfold Builtin.SmallTypes.ownedTupleIsFree
 refine wpAny_bind (wpAny_field hz rfl (x:= .none) rfl (wpAny_pure ?_))
 simp only[if_true]
 refine wpAny_bind (wpAny_rule (wpAny_bind (wpAny_field hz rfl (x:= .ref TO) rfl (wpAny_bind (wpAny_setField_rec hz (by simp) fun g1 z1 d1=>?_)))))
 replace z1:IsZip g1 z TI TO .ellipsis :=z1
 refine wpAny_bind ?_
 simp only[List.zipIdx_cons,List.zipIdx_nil,List.forIn_cons,List.forIn_nil]
 refine wpAny_bind (wpAny_bind (wpAny_onRaise ?_))
 show wpAny _ _ (Builtin.SmallTypes.nextOf (.ref i)>>= _) _ _ _
 refine wpAny_bind (z2m (h1.keep fun o e=>d1.extBut _ o D.a3 e) (hl.keep fun o e=>d1.extBut _ o lz' e) hx fun g2 i2 d2=>wpAny_pure ?_)
 have TO2:IsPair g2 TO u v:=d2.extBut _ _ D.a8 (d1.extBut _ _ D.a2 hTO)
 refine wpAny_bind (wpAny_seqItems TO2 rfl (wpAny_bind (wpAny_updateSeq_pair TO2 fun g3 TO3 d3=>?_)))
 replace TO3:IsPair g3 TO x v:=TO3
 refine wpAny_bind (wpAny_letGo (wpAny_pure ?_))
 refine wpAny_bind (wpAny_bind (wpAny_onRaise ?_))
 show wpAny _ _ (Builtin.SmallTypes.nextOf (.ref j)>>= _) _ _ _
 refine wpAny_bind (z2m (h2.keep fun o e=>d3.extBut _ o D.a9.symm (d2.extBut _ o D.a10.symm (d1.extBut _ o D.a4 e))) (hm.keep fun o e=>d3.extBut _ o lT (d2.extBut _ o mi (d1.extBut _ o lz e))) hy fun g4 j4 d4=>wpAny_pure ?_)
 have TO4:IsPair g4 TO x v:=d4.extBut _ _ D.a9 TO3
 refine wpAny_bind (wpAny_seqItems TO4 rfl (wpAny_bind (wpAny_updateSeq_pair TO4 fun g5 TO5 d5=>?_)))
 replace TO5:IsPair g5 TO x y:=TO5
 refine wpAny_bind (wpAny_letGo (wpAny_pure (wpAny_pure ?_)))
 refine wpAny_bind (wpAny_seqItems TO5 rfl (wpAny_bind (wpAny_newTuple ?_)))
 have sz:g5.objs.size=s.heap.objs.size:=by rw[d5.1,d4.1,d3.1,d2.1,d1.1]
 have z5:IsZip g5 z TI TO .ellipsis :=d5.extBut _ _ D.a2.symm (d4.extBut _ _ D.a4.symm (d3.extBut _ _ D.a2.symm (d2.extBut _ _ D.a3.symm z1)))
 have k5:∀p o,p≠z→p≠TO→p≠i→p≠j→s.heap.get? p=some o→g5.get? p=some o:=fun p o c1 c2 c3 c4 e=>d5.extBut _ _ c2 (d4.extBut _ _ c4 (d3.extBut _ _ c2 (d2.extBut _ _ c3 (d1.extBut _ _ c1 e))))
 have i5:SIt b g5 i l (k+1):=i2.keep fun o e=>d5.extBut _ o D.a8.symm (d4.extBut _ o D.a10 (d3.extBut _ o D.a8.symm e))
 have j5:SIt c g5 j m (n+1):=j4.keep fun o e=>d5.extBut _ o D.a9.symm e
 have zl:z<g5.objs.size:=q0p z5
 show wpAny _ _ (Builtin.SmallTypes.ownedTupleHandOut (.ref z) (.ref g5.objs.size)>>= _) _ _ _
 refine wpAny_bind ?_
 unfold Builtin.SmallTypes.ownedTupleHandOut
 have z6:IsZip (g5.push {cls:= .type "tuple",data:= .seq #[x,y]}) z TI TO .ellipsis :=q0d _ z5
 refine wpAny_bind (wpAny_setField_rec z6 (by simp) fun g7 z7 d7=>?_)
 replace z7:IsZip g7 z TI TO (rawInt g5.objs.size):=z7
 refine wpAny_setField_rec z7 (by simp) fun g8 z8 d8=>?_
 replace z8:IsZip g8 z TI TO (rawInt g5.objs.size):=z8
 have up:∀p o,p≠z→g5.get? p=some o→g8.get? p=some o:=fun p o c1 e=>d8.extBut _ _ c1 (d7.extBut _ _ c1 (q0d _ e))
 have T8:IsPair g8 g5.objs.size x y:=d8.extBut _ _ (q1w zl) (d7.extBut _ _ (q1w zl) (q0l _ rfl))
 have s8:g8.objs.size=g5.objs.size+1:=by rw[d8.1,d7.1,q1s]
 rw[sz] at z8 T8 s8
 refine wpAny_pure ⟨_,rfl,?_⟩
 show Q (.ref g5.objs.size) _
 rw[sz]
 exact hQ g8 z8 (up _ _ D.a2 TO5) (i5.keep fun o e=>up _ o D.a3 e) (j5.keep fun o e=>up _ o D.a4 e) T8 s8 fun p o c1 c2 c3 c4 e=>up p o c1 (k5 p o c1 c2 c3 c4 e)
theorem y1X {b c:Bool}{z TI TO i j l m:Addr}{k n:Nat}{xs ys:Array Value}{u v:Value}{Q:Fin→Shared→Prop} (hh:A.handled=none) (D:ZAp z TI TO i j) (lz:m≠z) (lT:m≠TO) (lz':l≠z)
 (hz:IsZip s.heap z TI TO .none) (hTI:IsPair s.heap TI (.ref i) (.ref j)) (hTO:IsPair s.heap TO u v)
 (h1:SIt b s.heap i l k) (h2:SIt c s.heap j m n) (hl:SAt b s.heap l xs) (hm:SAt c s.heap m ys) (hend:xs[k]? =none∨ys[n]? =none)
 (hE:∀h' e,(∀p o,p≠z→p≠TO→p≠i→p≠j→s.heap.get? p=some o→h'.get? p=some o)→(∃o,h'.get? e=some o∧o.cls= .type "StopIteration")→E (.ref e) {s with heap:=h'}):
 wpAny (model prog w) A (Builtin.«zip.__next__» ⟨[.ref z],[]⟩) Q E s:=by
 have mi:m≠i:=h1.ne_at hm
 show wpAny _ _ (field (.ref z) 2>>= _) _ _ _
 refine wpAny_bind (wpAny_field hz rfl (x:= .bool false) rfl ?_)
 show wpAny _ _ (field (.ref z) 3>>= _) _ _ _
 refine wpAny_bind (wpAny_field hz rfl (x:= .ref TI) rfl (wpAny_bind (wpAny_seqItems hTI rfl ?_)))
 show wpAny _ _ (Builtin.SmallTypes.ownedTupleIsFree (.ref z)>>= _) _ _ _
 refine wpAny_bind ?_
 unfold Builtin.SmallTypes.ownedTupleIsFree
 refine wpAny_bind (wpAny_field hz rfl (x:= .none) rfl (wpAny_pure ?_))
 simp only[if_true]
 refine wpAny_bind (wpAny_rule (wpAny_bind (wpAny_field hz rfl (x:= .ref TO) rfl (wpAny_bind (wpAny_setField_rec hz (by simp) fun g1 z1 d1=>?_)))))
 replace z1:IsZip g1 z TI TO .ellipsis :=z1
 refine wpAny_bind ?_
 simp only[List.zipIdx_cons,List.zipIdx_nil,List.forIn_cons,List.forIn_nil]
 refine wpAny_bind (wpAny_bind (wpAny_onRaise ?_))
 show wpAny _ _ (Builtin.SmallTypes.nextOf (.ref i)>>= _) _ _ _
 cases hx:xs[k]? with
 |none=>
  refine wpAny_bind (z4E hh (h1.keep fun o e=>d1.extBut _ o D.a3 e) (hl.keep fun o e=>d1.extBut _ o lz' e) hx fun g2 e d2 he=>?_)
  obtain⟨oe,hoe,hce⟩:=he
  have z2:IsZip g2 z TI TO .ellipsis :=d2 _ _ D.a3.symm z1
  have hez:e≠z:=fun q=>by subst q;rw[z2] at hoe;cases hoe;simp at hce
  exact wpAny_setField_rec z2 (by simp) fun g3 _ d3=>hE g3 e (fun p o c1 _ c3 _ q=>d3.extBut _ _ c1 (d2 _ _ c3 (d1.extBut _ _ c1 q))) ⟨oe,d3.extBut _ _ hez hoe,hce⟩
 |some x=>
  have hy:ys[n]? =none:=hend.elim (fun h=>by rw[hx] at h;cases h) id
  refine wpAny_bind (z2m (h1.keep fun o e=>d1.extBut _ o D.a3 e) (hl.keep fun o e=>d1.extBut _ o lz' e) hx fun g2 i2 d2=>wpAny_pure ?_)
  have TO2:IsPair g2 TO u v:=d2.extBut _ _ D.a8 (d1.extBut _ _ D.a2 hTO)
  refine wpAny_bind (wpAny_seqItems TO2 rfl (wpAny_bind (wpAny_updateSeq_pair TO2 fun g3 TO3 d3=>?_)))
  refine wpAny_bind (wpAny_letGo (wpAny_pure ?_))
  refine wpAny_bind (wpAny_bind (wpAny_onRaise ?_))
  show wpAny _ _ (Builtin.SmallTypes.nextOf (.ref j)>>= _) _ _ _
  refine wpAny_bind (z4E hh (h2.keep fun o e=>d3.extBut _ o D.a9.symm (d2.extBut _ o D.a10.symm (d1.extBut _ o D.a4 e))) (hm.keep fun o e=>d3.extBut _ o lT (d2.extBut _ o mi (d1.extBut _ o lz e))) hy fun g4 e d4 he=>?_)
  obtain⟨oe,hoe,hce⟩:=he
  have z4:IsZip g4 z TI TO .ellipsis :=d4 _ _ D.a4.symm (d3.extBut _ _ D.a2.symm (d2.extBut _ _ D.a3.symm z1))
  have hez:e≠z:=fun q=>by subst q;rw[z4] at hoe;cases hoe;simp at hce
  exact wpAny_setField_rec z4 (by simp) fun g5 _ d5=>hE g5 e (fun p o c1 c2 c3 c4 q=>d5.extBut _ _ c1 (d4 _ _ c4 (d3.extBut _ _ c2 (d2.extBut _ _ c3 (d1.extBut _ _ c1 q))))) ⟨oe,d5.extBut _ _ hez hoe,hce⟩
theorem z6L {z TI TO:Addr}{f0:Value}{Q:Option Value→Shared→Prop} (hz:IsZip s.heap z TI TO f0)
 (h:wpAny (model prog w) A.in1 (Builtin.«zip.__next__» ⟨[.ref z],[]⟩) (fun fin s'=>∃v,fin= .done (.ret v)∧Q (some v) s') (fun e s'=>(∃a o,e= .ref a∧s'.heap.get? a=some o∧o.cls= .type "StopIteration")∧Q none s') s):wpAny (model prog w) A (pyNext (.ref z)) Q E s:=by
 have hT:s.TypeIs (.ref z) "zip":=⟨_,hz,rfl⟩
 unfold pyNext
 refine wpAny_bind (wpAny_attempt (wpAny_callSpecial?_slot (name:=Str.ofString "__next__") hT F.slot_zip_next (wpAny_call_entry F.slot_zip_next hT F.entry_zip_next ?_ (F.args_zip_next_1 _))))
 refine wpAny_mono h (fun fin s' ⟨v,e,q⟩=>⟨v,e,wpAny_pure q⟩) fun e s' ⟨⟨a,o,e1,e2,e3⟩,q⟩=>?_
 subst e1
 exact wpAny_bind (wpAny_isInstance (T:="StopIteration") (b:=true) ⟨o,e2,e3⟩ isSubtype_stop (wpAny_pure q))
end
end L2
namespace L2
open PySem PySem.Spec PyProof.Rows
def itN (b:Bool):String:=match b with
 |true=>"list_iterator"
 |false=>"tuple_iterator"
abbrev itO (b:Bool) (a:Addr):Obj:={cls:= .type (itN b),data:= .fields #[.ref a,.int 0 0]}
theorem SAt.push {b:Bool}{h:Heap}{a:Addr}{its:Array Value} (x:SAt b h a its) (o:Obj):SAt b (h.push o) a its:=x.keep fun _ e=>q0d _ e
theorem SIt.new {b:Bool}{h:Heap}{a:Addr}:SIt b (h.push (itO b a)) h.objs.size a 0:=by
 cases b with
 |true=>exact⟨_,Heap.get?_push_size _ rfl,rfl,rfl⟩
 |false=>exact⟨_,Heap.get?_push_size _ rfl,rfl,rfl⟩
section
variable {prog:Program}{w:World}{A:Around}{E:Value→Shared→Prop}{s:Shared}
theorem z3B {b:Bool}{a:Addr}{its:Array Value}{Q:Value→Shared→Prop} (h:SAt b s.heap a its) (q:Q (.ref s.heap.objs.size) {s with heap:=s.heap.push (itO b a)}):wpAny (model prog w) A (pyIter (.ref a)) Q E s:=by
 cases b with
 |true=>exact wpAny_pyIter_list (show s.heap.IsList a its from h) q
 |false=>exact wpAny_pyIter_tuple (show s.heap.IsTuple a its from h) q
end
abbrev zA (h:Heap) (b:Bool) (l:Addr):Heap:=h.push (itO b l)
abbrev zB (h:Heap) (b c:Bool) (l m:Addr):Heap:=(zA h b l).push (itO c m)
abbrev zC (h:Heap) (b c:Bool) (l m:Addr):Heap:=(zB h b c l m).push {cls:= .type "tuple",data:= .seq #[.ref h.objs.size,.ref (zA h b l).objs.size]}
abbrev zD (h:Heap) (b c:Bool) (l m:Addr):Heap:=(zC h b c l m).push {cls:= .type "tuple",data:= .seq #[.none,.none]}
abbrev zE (h:Heap) (b c:Bool) (l m:Addr):Heap:=(zD h b c l m).push {cls:= .type "zip",data:= .fields #[.none,.bool false,.bool false,.ref (zB h b c l m).objs.size,.ref (zC h b c l m).objs.size]}
theorem z9n (b c:Bool) (l m:Addr) (xs ys:Array Value):
 Meets (Builtin.«zip.__new__» ⟨[.type "zip",.ref l,.ref m],[]⟩) (fun _ R s=>SAt b s.heap l xs∧SAt c s.heap m ys∧R (.ok (.ret (.ref (zD s.heap b c l m).objs.size))) {s with heap:=zE s.heap b c l m}):=
 .of_wp fun prog w A R s h=>by
  obtain⟨hp,g,d,tk,os⟩:=s;obtain⟨h1,h2,h⟩:=h
  have hsub:=sub_zip
  have k1:SAt b (Shared.heap ⟨hp,g,d,tk,os⟩) l xs:=h1
  have k2:SAt c (Shared.heap ⟨hp.push (itO b l),g,d,tk,os⟩) m ys:=SAt.push h2 _
  wp_walk using z3B k1,z3B k2
  exact⟨_,rfl,h⟩
section
variable {prog:Program}{w:World}{A:Around}{E:Value→Shared→Prop}{s:Shared}
theorem y1l {b c:Bool}{l m:Addr}{xs ys:Array Value}{Q:Value→Shared→Prop} (hl:SAt b s.heap l xs) (hm:SAt c s.heap m ys)
 (h:∀h',IsZip h' (s.heap.objs.size+4) (s.heap.objs.size+2) (s.heap.objs.size+3) .none →IsPair h' (s.heap.objs.size+2) (.ref s.heap.objs.size) (.ref (s.heap.objs.size+1))→IsPair h' (s.heap.objs.size+3) .none .none →
  SIt b h' s.heap.objs.size l 0→SIt c h' (s.heap.objs.size+1) m 0→(∀p o,s.heap.get? p=some o→h'.get? p=some o)→Q (.ref (s.heap.objs.size+4)) {s with heap:=h'}):
 wpAny (model prog w) A (call (.type "zip") [.ref l,.ref m]) Q E s:=by
 refine callType_new F.called_zip (by decide) (F.typeCall_zip_2 _ _) (F.newCall_zip_2 _ _) (fun obj=>F.args_object_init_3 obj _ _) F.entry_zip_new (z9n b c l m xs ys) ⟨hl,hm,?_⟩
 have z1:(zA s.heap b l).objs.size =s.heap.objs.size+1:=q1s ..
 have z2:(zB s.heap b c l m).objs.size =s.heap.objs.size+2:=by rw[q1s,z1]
 have z3:(zC s.heap b c l m).objs.size =s.heap.objs.size+3:=by rw[q1s,z2]
 have z4:(zD s.heap b c l m).objs.size =s.heap.objs.size+4:=by rw[q1s,z3]
 have g5:(zE s.heap b c l m).get? (zD s.heap b c l m).objs.size =some _:=q0l _ rfl
 have g4:(zE s.heap b c l m).get? (zC s.heap b c l m).objs.size =some _:=q0d _ (q0l _ rfl)
 have g3:(zE s.heap b c l m).get? (zB s.heap b c l m).objs.size =some _:=q0d _ (q0d _ (q0l _ rfl))
 have g2:SIt c (zE s.heap b c l m) (zA s.heap b l).objs.size m 0:=SIt.new.keep fun o e=>q0d _ (q0d _ (q0d _ e))
 have g1:SIt b (zE s.heap b c l m) s.heap.objs.size l 0:=SIt.new.keep fun o e=>q0d _ (q0d _ (q0d _ (q0d _ e)))
 show _∧_
 rw[z2,z3,z4] at g5
 rw[z1,z2] at g3
 rw[z3] at g4
 rw[z1] at g2
 rw[z4]
 exact⟨⟨_,g5,rfl⟩,h _ g5 g3 g4 g1 g2 fun p o e=>q0d _ (q0d _ (q0d _ (q0d _ (q0d _ e))))⟩
end
def SqB (b:Bool) (K:PySem.W.Frag) (H:Hp) (a:Addr) (xs:List V):Prop:=match b with
 |true=>SqL K H a xs
 |false=>SqT K H a xs
section
variable {X:Cx}{pins:List (Addr×Obj)}{σ:St}{H:Hp}{s:Shared}{a:Addr}{xs ys:List V}{b:Bool}
theorem SqA.toB {K:PySem.W.Frag} (h:SqA K H a xs):∃b,SqB b K H a xs:=by
 rcases h with h|h
 ·exact⟨true,h⟩
 ·exact⟨false,h⟩
theorem Inv.sq (I:Inv X pins σ H s) (h:SqB b X.K H a xs):∃its:List Value,Vals xs its∧SAt b s.heap a its.toArray∧xs.length≤sizeLine:=by
 cases b with
 |true=>obtain⟨its,r,p,z⟩:=I.list h;exact⟨its,r,p.isList,z⟩
 |false=>obtain⟨its,r,p,z⟩:=I.tuple h;exact⟨its,r,p,z⟩
theorem Inv.sq_inj (I:Inv X pins σ H s) (h:SqB b X.K H a xs) (h':SqB b X.K H a ys):xs=ys:=by
 cases b with
 |true=>exact I.list_inj h h'
 |false=>exact I.tuple_inj h h'
theorem Inv.sq_ne (I:Inv X pins σ H s) (h:SqB b X.K H a xs) {c:Addr} (f:y0j X pins H c):a≠c:=by
 have tr:∀u,Rd H a u→a≠c:=fun u r z=>by
  subst z
  rcases r with r|⟨o,r⟩
  ·rw[f.1] at r;cases r
  ·rw[f.1] at r;cases r
 have kn:∀o,X.K.lookup a=some o→a≠c:=fun o e z=>by
  subst z
  have eb:=I.ok.mod.kin a o e
  rcases f.2.2.2.1 with q|q
  ·exact I.ok.noex a o eb q
  ·exact absurd (q0B (q0p (I.ok.bs a o eb).1) q) (q1l _)
 cases b with
 |true=>
  rcases h with h|⟨o,_,_,e,_⟩
  ·exact tr _ h
  ·exact kn o e
 |false=>
  rcases h with h|⟨o,_,_,e,_⟩
  ·exact tr _ h
  ·exact kn o e
end
def Itz (K:PySem.W.Frag) (b c:Bool) (l m:Addr):It:=
 ⟨fun i H=>∃xs ys x y,SqB b K H l xs∧SqB c K H m ys∧xs[i]? =some x∧ys[i]? =some y,
  fun i H x H'=>∃p u v,x= .ref p∧H p=none∧(∀xs,SqB b K H l xs→xs[i]? =some u)∧(∀ys,SqB c K H m ys→ys[i]? =some v)∧H'=upd H p (.tup [u,v]),
  fun i H=>∃xs ys,SqB b K H l xs∧SqB c K H m ys∧(xs.length≤i∨ys.length≤i)⟩
theorem y0o {P:Program}{w:World}{K:PySem.W.Frag}{elts:List Expr}{kk:Nat}{pos:Pos} (b c:Bool) (l m z TI TO i j:Addr) (D:ZAp z TI TO i j):
 y1V P w K (.Tuple elts kk pos) (Itz K b c l m) [z,TI,TO,i,j] z (fun k h=>IsZip h z TI TO .none ∧IsPair h TI (.ref i) (.ref j)∧(∃u v,IsPair h TO u v)∧SIt b h i l k∧SIt c h j m k) where
 mem:=by simp
 obj:=fun k h st q hq=>by
  obtain⟨t1,t2,⟨u,v,t3⟩,t4,t5⟩:=st
  have fin:∀(o:Obj),(∃v,o.data= .fields v)∨(∃a n,o.data= .seq a n)→∀v,o.data≠ .cell v:=fun o h v e=>by
    rcases h with⟨w',h⟩|⟨a,n,h⟩<;> ·rw[h] at e;cases e
  simp only[q0o,List.not_mem_nil,or_false] at hq
  rcases hq with rfl|rfl|rfl|rfl|rfl
  ·exact⟨_,t1,fin _ (.inl ⟨_,rfl⟩)⟩
  ·exact⟨_,t2,fin _ (.inr ⟨_,_,rfl⟩)⟩
  ·exact⟨_,t3,fin _ (.inr ⟨_,_,rfl⟩)⟩
  ·obtain⟨o,_,e,_,_,d⟩:=t4.ob;exact⟨o,e,fin _ (.inl ⟨_,d⟩)⟩
  ·obtain⟨o,_,e,_,_,d⟩:=t5.ob;exact⟨o,e,fin _ (.inl ⟨_,d⟩)⟩
 keep:=fun k h h' st f=>by
  obtain⟨t1,t2,⟨u,v,t3⟩,t4,t5⟩:=st
  exact⟨f z (by simp) _ t1,f TI (by simp) _ t2,⟨u,v,f TO (by simp) _ t3⟩,t4.keep fun o e=>f i (by simp) o e,t5.keep fun o e=>f j (by simp) o e⟩
 item:=by
  intro X hP hw hK hc k pins s σ H E I hf st hg
  subst hP hw hK
  obtain⟨xs,ys,x,y,q1,q2,hx,hy⟩:=hg
  obtain⟨its,r1,p1,s1⟩:=I.sq q1
  obtain⟨jts,r2,p2,s2⟩:=I.sq q2
  obtain⟨u,hu,ru⟩:=r1.get hx
  obtain⟨v,hv,rv⟩:=r2.get hy
  obtain⟨t1,t2,⟨u0,v0,t3⟩,t4,t5⟩:=st
  have fz:=hf z (by simp)
  have fO:=hf TO (by simp)
  refine z6L t1 (y0m D (I.sq_ne q2 fz) (I.sq_ne q2 fO) (I.sq_ne q1 fz) t1 t2 t3 t4 t5 p1 p2 (x:=u) (y:=v) (by simpa using hu) (by simpa using hv) fun h' a1 a2 a3 a4 a5 a6 a7=>?_)
  refine⟨_,rfl,wpAny_letOwnedTupleGo_zip a1 fun h2 e2 d2=>?_⟩
  have lt:∀{p o},s.heap.get? p=some o→s.heap.objs.size≠p:=fun e=>q1w (q0p e)
  have hT2:h2.get? s.heap.objs.size=some {cls:= .type "tuple",data:= .seq #[u,v]}:=d2.extBut _ _ (lt t1) a5
  have t2':IsPair h2 TI (.ref i) (.ref j):=d2.extBut _ _ D.a1 (a7 _ _ D.a1 D.a5 D.a6 D.a7 t2)
  have I1:Inv X pins σ (upd H s.heap.objs.size (.tup [x,y])) {s with heap:=h2}:=by
   refine I.turnedLaid (t':=s.toks) (fp:=[z,TI,TO,i,j]) hf (fun p ob hp q=>?_) (q0k _) ?_
   ·simp only[q0o,List.not_mem_nil,or_false,not_or] at hp
    exact d2.extBut p ob hp.1 (a7 p ob hp.1 hp.2.2.1 hp.2.2.2.1 hp.2.2.2.2 q)
   ·exact⟨by show 2≤sizeLine;decide,[u,v],.cons ru (.cons rv .nil),_,hT2,rfl,_,rfl⟩
  refine⟨.ref s.heap.objs.size,_,I1,rfl,⟨_,x,y,rfl,I.hok.fresh (q0k _),fun zs hz=>by rw[I.sq_inj hz q1];exact hx,fun zs hz=>by rw[I.sq_inj hz q2];exact hy,rfl⟩,
   ⟨e2,t2',⟨_,_,d2.extBut _ _ D.a2 a2⟩,a3.keep fun o e=>d2.extBut _ o D.a3 e,a4.keep fun o e=>d2.extBut _ o D.a4 e⟩,fun p hp=>?_⟩
  have hlt:p<s.heap.objs.size:=by
   simp only[q0o,List.not_mem_nil,or_false] at hp
   rcases hp with rfl|rfl|rfl|rfl|rfl
   ·exact q0p t1
   ·exact q0p t2
   ·exact q0p t3
   ·obtain⟨o,_,e,_⟩:=t4.ob;exact q0p e
   ·obtain⟨o,_,e,_⟩:=t5.ob;exact q0p e
  rw[z0h (q0u hlt)]
  exact (hf p hp).1
 done:=by
  intro X hP hw hK hc k pins s σ H E I hf st hg
  subst hP hw hK
  obtain⟨xs,ys,q1,q2,hend⟩:=hg
  obtain⟨its,r1,p1,s1⟩:=I.sq q1
  obtain⟨jts,r2,p2,s2⟩:=I.sq q2
  obtain⟨t1,t2,⟨u0,v0,t3⟩,t4,t5⟩:=st
  have fz:=hf z (by simp)
  have fO:=hf TO (by simp)
  have l1:=r1.length
  have l2:=r2.length
  refine z6L t1 (y1X (I.ok.hd hc) D (I.sq_ne q2 fz) (I.sq_ne q2 fO) (I.sq_ne q1 fz) t1 t2 t3 t4 t5 p1 p2 (by simp;lia) fun h' e a7 he=>⟨let ⟨o,e1,e2⟩:=he;⟨e,o,rfl,e1,e2⟩,rfl,?_⟩)
  refine I.turnedAll (t':=s.toks) (fp:=[z,TI,TO,i,j]) hf fun p ob hp q=>?_
  simp only[q0o,List.not_mem_nil,or_false,not_or] at hp
  exact a7 p ob hp.1 hp.2.2.1 hp.2.2.2.1 hp.2.2.2.2 q
 self:=fun _ _ _ _ _ st h=>wpAny_pyIter_zip st.1 h
section
variable {X:Cx}
def iZip (tl:TA):TI:=fun σ H R=>tl σ H fun vs H1=>∃l m b c xs ys,vs=[.ref l,.ref m]∧SqB b X.K H1 l xs∧SqB c X.K H1 m ys∧R (Itz X.K b c l m) H1
theorem y3m {elts:List Expr}{k:Nat}{tpos:Pos}{l m:Expr}{tl:TA}{p pos:Pos} (hg:Gl X "zip") (hm:X.mg "zip"=none) (ha:PA X [l,m] tl) (hs:starEach [l,m] X.env=[(false,eval l X.env),(false,eval m X.env)]:=by rfl) (hs2:starEach [m] X.env=[(false,eval m X.env)]:=by rfl):
 PI X (.Tuple elts k tpos) (.Call (.Name "zip" p) [l,m] [] pos) (iZip (X:=X) tl):=by
 intro pins s σ H R I h
 refine Call_ (z2N I hg hm boot_zip (PyProof.Rows.callWith_type1 (thn (ha pos pins s σ H _ I h) fun us s1 ⟨vs,H1,I1,r1,q1⟩=>?_) (by rw[hs,hs2]) (by rw[hs2];rfl)))
 obtain⟨a,b,bb,bc,xs,ys,e,q1,q2,q⟩:=q1
 subst e
 cases r1 with
 |cons r rr=>
  cases rr with
  |cons r' rr=>
   cases rr
   cases r
   cases r'
   obtain⟨its,v1,p1,_⟩:=I1.sq q1
   obtain⟨jts,v2,p2,_⟩:=I1.sq q2
   refine y1l p1 p2 fun h' z1 z2 z3 z4 z5 kp=>wpAny_pyIter_zip z1 ?_
   have I2:Inv X pins σ H1 {s1 with heap:=h'}:=I1.kept (t':=s1.toks) kp
   have ne:∀x y:Nat,x≠y→s1.heap.objs.size+x≠s1.heap.objs.size+y:=fun x y h e=>h (Nat.add_left_cancel e)
   have D:ZAp (s1.heap.objs.size+4) (s1.heap.objs.size+2) (s1.heap.objs.size+3) s1.heap.objs.size (s1.heap.objs.size+1):=
        ⟨ne 2 4 (by decide),ne 3 4 (by decide),ne 0 4 (by decide),ne 1 4 (by decide),ne 2 3 (by decide),ne 2 0 (by decide),ne 2 1 (by decide),ne 3 0 (by decide),ne 3 1 (by decide),ne 0 1 (by decide)⟩
   refine⟨_,[s1.heap.objs.size+4,s1.heap.objs.size+2,s1.heap.objs.size+3,s1.heap.objs.size,s1.heap.objs.size+1],_,_,H1,rfl,I2,y0o bb bc a b _ _ _ _ _ D,⟨z1,z2,⟨_,_,z3⟩,z4,z5⟩,fun c hc=>?_,q⟩
   have le:s1.heap.objs.size≤c:=by
        simp only[q0o,List.not_mem_nil,or_false] at hc
        rcases hc with rfl|rfl|rfl|rfl|rfl
        ·exact Nat.le_add_right _ _
        ·exact Nat.le_add_right _ _
        ·exact Nat.le_add_right _ _
        ·exact q0k _
        ·exact Nat.le_add_right _ _
   exact I1.fpOk le (I1.hok.fresh le)
end
end L2
namespace L2
open PySem PySem.Spec PyProof.Rows
structure z4O (J:It) (n:Nat) (Ok:Hp→Prop) (yl:Nat→Hp→V→Hp→Prop):Prop where
 go:∀i H,Ok H→i<n→J.go i H
 stop:∀H,Ok H→J.stop n H
 yld:∀i H x H',Ok H→i<n→J.yld i H x H'→yl i H x H'
theorem z0r (K:PySem.W.Frag) (a:Addr) (xs:List V):z4O (Itl K a) xs.length (fun H=>SqL K H a xs) (fun i H x H'=>H'=H∧xs[i]? =some x) where
 go:=fun i H h hi=>⟨xs,xs[i],h,by simp[hi]⟩
 stop:=fun H h=>⟨xs,h,q0k _⟩
 yld:=fun i H x H' h hi y=>⟨y.1,y.2 xs h⟩
theorem y0x (K:PySem.W.Frag) (a:Addr) (xs:List V):z4O (Itt K a) xs.length (fun H=>SqT K H a xs) (fun i H x H'=>H'=H∧xs[i]? =some x) where
 go:=fun i H h hi=>⟨xs,xs[i],h,by simp[hi]⟩
 stop:=fun H h=>⟨xs,h,q0k _⟩
 yld:=fun i H x H' h hi y=>⟨y.1,y.2 xs h⟩
theorem z0R (lo:Int) (n:Nat):z4O (Itr lo n) n (fun _=>True) (fun i H x H'=>H'=H∧x= .int (lo+i)) where
 go:=fun i H h hi=>hi
 stop:=fun H h=>q0k _
 yld:=fun i H x H' h hi y=>y
theorem y0w (K:PySem.W.Frag) (b c:Bool) (l m:Addr) (xs ys:List V):z4O (Itz K b c l m) (min xs.length ys.length) (fun H=>SqB b K H l xs∧SqB c K H m ys)
 (fun i H x H'=>∃p u v,x= .ref p∧H p=none∧xs[i]? =some u∧ys[i]? =some v∧H'=upd H p (.tup [u,v])) where
 go:=fun i H h hi=>⟨xs,ys,xs[i]'(by lia),ys[i]'(by lia),h.1,h.2,by simp,by simp⟩
 stop:=fun H h=>⟨xs,ys,h.1,h.2,by lia⟩
 yld:=fun i H x H' h hi y=>let ⟨p,u,v,e,hn,hu,hv,e2⟩:=y;⟨p,u,v,e,hn,hu xs h.1,hv ys h.2,e2⟩
theorem z0D {J:It}{n:Nat}{Ok:Hp→Prop}{yl:Nat→Hp→V→Hp→Prop} (R:z4O J n Ok yl) {g:TG}{tb:TS}{D:y1W}{σ:St}{H:Hp} (Pv:Nat→St→Hp→Prop) (h0:Pv 0 σ H) (hl:∀i σ H,i≤n→Pv i σ H→Ok H)
 (hs:∀i x σ H H',i<n→Pv i σ H→yl i H x H'→g x σ H' fun σ2 H2=>tb {D with nx:=Pv (i+1),ct:=Pv (i+1),bk:=D.nx} σ2 H2) (hd:∀σ H,Pv n σ H→D.nx σ H):
 ∃W:Nat→Nat→St→Hp→Prop,(∃m,W 0 m σ H)∧∀i m σ H,W i m σ H→
  (J.stop i H∧D.nx σ H)∨(J.go i H∧∃N:St→Hp→Prop,(∀σ' H',N σ' H'→∃m',m'<m∧W (i+1) m' σ' H')∧∀x H',J.yld i H x H'→g x σ H' fun σ2 H2=>tb {D with nx:=N,ct:=N,bk:=D.nx} σ2 H2):=by
 refine⟨fun i m σ H=>m=n - i∧i≤n∧Pv i σ H,⟨n,by simp,q0A _,h0⟩,?_⟩
 rintro i m σ H ⟨rfl,hi,p⟩
 have q:=hl i σ H hi p
 by_cases hlt:i<n
 ·exact .inr ⟨R.go i H q hlt,Pv (i+1),fun σ' H' p'=>⟨n - (i+1),by lia,rfl,hlt,p'⟩,fun x H' y=>hs i x σ H H' hlt p (R.yld i H x H' q hlt y)⟩
 ·have e:i=n:=by lia
  subst e
  exact .inl ⟨R.stop H q,hd σ H p⟩
theorem z2G {J:It}{n:Nat}{Ok:Hp→Prop}{yl:Nat→Hp→V→Hp→Prop} (R:z4O J n Ok yl) {fr:List (Option Nat)}{g:TG}{tt:TT}{te:TE}{σ:St}{H1:Hp}{Q:VK}{D:Addr} (Pv:Nat→List V→St→Hp→Prop)
 (h0:Pv 0 [] (z0z fr σ) (upd H1 D (.lst []))) (hl:∀i acc σ H,i≤n→Pv i acc σ H→Ok H∧acc.length≤i) (hn:n≤sizeLine)
 (hs:∀(N:Bool→V→St→Hp→Prop) (i:Nat) (x:V) (acc:List V) (σ:St) (H H':Hp),i<n→Pv i acc σ H→yl i H x H'→
  (∀v σ2 H4,H4 D=some (.lst acc)→Pv (i+1) (acc++[v]) σ2 (upd H4 D (.lst (acc++[v])))→N true v σ2 H4)→(∀σ2 H3,Pv (i+1) acc σ2 H3→N false .non σ2 H3)→
  g x σ H' fun σ2 H2=>tt σ2 H2 fun b H3=>if b=true then te σ2 H3 fun v H4=>N true v σ2 H4 else N false .non σ2 H3)
 (hd:∀acc σ H,Pv n acc σ H→Q (.ref D) H):
 z2s J g tt te Q D (z0z fr σ) (upd H1 D (.lst [])):=by
 refine⟨fun i m σ H=>m=n - i∧i≤n∧∃acc,Pv i acc σ H,⟨n,by simp,q0A _,[],h0⟩,?_⟩
 rintro i m σ H ⟨em,hi,acc,p⟩
 obtain⟨q,ha⟩:=hl i acc σ H hi p
 by_cases hlt:i<n
 ·refine .inr ⟨R.go i H q hlt,fun x H' y=>?_⟩
  exact hs (fun b v σ2 H4=>match b with|true=>∃acc' m',H4 D=some (.lst acc')∧acc'.length<sizeLine∧m'<m∧(m'=n - (i+1)∧i+1≤n∧∃acc2,Pv (i+1) acc2 σ2 (upd H4 D (.lst (acc'++[v]))))|false=>∃m',m'<m∧(m'=n - (i+1)∧i+1≤n∧∃acc2,Pv (i+1) acc2 σ2 H4))
   i x acc σ H H' hlt p (R.yld i H x H' q hlt y) (fun v σ2 H4 e pv=>⟨acc,n - (i+1),e,by lia,by lia,rfl,hlt,_,pv⟩) (fun σ2 H3 pv=>⟨n - (i+1),by lia,rfl,hlt,_,pv⟩)
 ·have e:i=n:=by lia
  subst e
  exact .inl ⟨R.stop H q,hd acc σ H p⟩
theorem z0F {α:Type} (xs:List α):xs.filter (fun _=>true)=xs:=List.filter_eq_self.mpr fun _ _=>rfl
theorem z1e {J:It}{n:Nat}{Ok:Hp→Prop}{xs:List V} (hx:n=xs.length) (R:z4O J n Ok (fun i H x H'=>H'=H∧xs[i]? =some x)) {fr:List (Option Nat)}{tt:TT}{te:TE}{σ:St}{H1:Hp}{Q:VK}{D:Addr} (hD:H1 D=none) (tst:V→Bool) (val:V→V)
 (hok:∀H,Same H1 H→Ok H) (hn:n≤sizeLine)
 (ht:∀x∈xs,∀Hc,Same H1 Hc→∀S:Bool→Hp→Prop,S (tst x) Hc→tt ((z0z fr σ).set 0 (some x)) Hc S)
 (hv:∀x∈xs,tst x=true→∀Hc,Same H1 Hc→∀S:VK,S (val x) Hc→te ((z0z fr σ).set 0 (some x)) Hc S)
 (q:Q (.ref D) (upd H1 D (.lst ((xs.filter tst).map val)))):
 z2s J (z8b 0) tt te Q D (z0z fr σ) (upd H1 D (.lst [])):=by
 subst hx
 have st:∀acc,Same H1 (upd H1 D (.lst acc)):=fun acc=>z0d hD _
 refine z2G R (fun i acc σ' H'=>(∃o,σ'=(z0z fr σ).set 0 o∨σ'=z0z fr σ)∧H'=upd H1 D (.lst acc)∧acc=((xs.take i).filter tst).map val) ⟨⟨none,.inr rfl⟩,rfl,by simp⟩ ?_ hn ?_ ?_
 ·rintro i acc σ' H' hi ⟨_,rfl,rfl⟩
  refine⟨hok _ (st _),?_⟩
  rw[q0a]
  refine q0q (q1f _ _) ?_
  rw[q0O];lia
 ·rintro N i x acc σ' H' H'' hi ⟨hσ,rfl,ha⟩ ⟨rfl,hx⟩ n1 n2
  have hm:x∈xs:=q0s hx
  have es:σ'.set 0 (some x)=(z0z fr σ).set 0 (some x):=by
   obtain⟨o,e|e⟩:=hσ
   ·rw[e,q1x]
   ·rw[e]
  show tt (σ'.set 0 (some x)) _ _
  rw[es]
  have tk:xs.take (i+1)=xs.take i++[x]:=by rw[q0L,hx];rfl
  refine ht x hm _ (st _) _ ?_
  cases hb:tst x with
  |true=>
   refine z5y (hv x hm hb _ (st _) _ (n1 _ _ _ z0b ⟨⟨_,.inl rfl⟩,z3d,?_⟩))
   rw[tk,q0Y,q0m,←ha]
   simp[hb]
  |false=>
   refine z1X (n2 _ _ ⟨⟨_,.inl rfl⟩,rfl,?_⟩)
   rw[tk,q0Y,q0m,←ha]
   simp[hb]
 ·rintro acc σ' H' ⟨_,rfl,rfl⟩
  rw[q0S]
  exact q
section
variable {X:Cx}{K:PySem.W.Frag}{tg:Expr}
theorem z0q (h:X.K=K):IxR X (rIxL K):=by subst h;exact z9B
theorem z1F (h:X.K=K):IxR X (rIxT K):=by subst h;exact y1L
theorem z4r (h:X.K=K):SlR X (rSlL K):=by subst h;exact z8C
def cLen (K:PySem.W.Frag):List V→Hp→VK→Prop:=fun xs H Q=>∃p ys,xs=[.ref p]∧SqA K H p ys∧Q (.int ys.length) H
theorem z0Q (h:X.K=K):z1J X (.builtin "len") (cLen K):=by subst h;exact z5I
def cAny (K:PySem.W.Frag):List V→Hp→VK→Prop:=fun xs H Q=>∃p ys,xs=[.ref p]∧SqA K H p ys∧(∀y∈ys,PlV y)∧Q (.bl (ys.any trV)) H
theorem z3L (h:X.K=K) (hc:X.calm=true):z1J X (.builtin "any") (cAny K):=by subst h;exact y1m hc
def cList (K:PySem.W.Frag):List V→Hp→VK→Prop:=fun xs H Q=>∃p ys,xs=[.ref p]∧SqA K H p ys∧∀l,H l=none→Q (.ref l) (upd H l (.lst ys))
theorem z0Y (h:X.K=K):z1J X (.type "list") (cList K):=by subst h;exact z5H
def y4b (K:PySem.W.Frag):List V→Hp→VK→Prop:=fun xs H Q=>∃p ys,xs=[.ref p]∧((SqL K H p ys∧∀l,H l=none→Q (.ref l) (upd H l (.tup ys)))∨(SqT K H p ys∧Q (.ref p) H))
theorem z1q (h:X.K=K):z1J X (.type "tuple") (y4b K):=by subst h;exact z4M
theorem z5m (h:X.K=K):OpR X (compareOp .NotIn) (rIn K true):=by subst h;exact z5l
theorem z0A (h:X.K=K) {l:Expr}{tl:TE} (hl:PE X l tl):PI X tg l (y3Q K tl):=by subst h;exact y2m hl
def iZipK (K:PySem.W.Frag) (tl:TA):TI:=fun σ H R=>tl σ H fun vs H1=>∃l m b c xs ys,vs=[.ref l,.ref m]∧SqB b K H1 l xs∧SqB c K H1 m ys∧R (Itz K b c l m) H1
theorem z9b (h:X.K=K) {elts:List Expr}{k:Nat}{tpos:Pos}{l m:Expr}{tl:TA}{p pos:Pos} (hg:Gl X "zip") (hm:X.mg "zip"=none) (ha:PA X [l,m] tl) (hs:starEach [l,m] X.env=[(false,eval l X.env),(false,eval m X.env)]:=by rfl) (hs2:starEach [m] X.env=[(false,eval m X.env)]:=by rfl):
 PI X (.Tuple elts k tpos) (.Call (.Name "zip" p) [l,m] [] pos) (iZipK K tl):=by subst h;exact y3m hg hm ha hs hs2
theorem z1h (h:X.K=K) {es:List Expr}{k:Nat}{pos:Pos}{t:TGs} (n:Nat) (hc:X.calm=true) (hp:PGs X es t) (hn:(assignEach es X.env).length =n:=by rfl) (hst:(assignEach es X.env).findIdx? (·.1)=none:=by rfl):PG X (.Tuple es k pos) (gTup K n t):=by
 subst h;exact y3n hc hp hn hst
end
end L2
namespace L2
open PySem PySem.Spec PySem.W PyProof.Rows
section
variable {X:Cx}{e:Expr}{te:TE}{a:Str}{j:Nat}{p1 p2 pos:Pos}
end
section
variable {X:Cx}{C W fI:Addr}{x:Str}{np apos cpos:Pos}{e1 e2:Expr}{ta:TA}
end
section
variable {X:Cx}{pins:List (Addr×Obj)}{σ:St}{H:Hp}{s:Shared}{h':Heap}
end
section
variable {X:Cx}{pins:List (Addr×Obj)}{σ:St}{H:Hp}{s:Shared}{C a:Addr}{f:Str}{v:Value}{y:V}
variable {o value:Expr}{ta tv:TE}{pos pos':Pos}
end
end L2
namespace L2
open PySem PySem.Spec PySem.W PyProof.Rows
section
variable {prog:Program}{w:World}{A:Around}{E:Value→Shared→Prop}{h:Heap}{g:Array GenState}{d:Drawn}{t:Nat}{os:OsState}
variable {nm q:Str}{C N:Addr}{bs bm:List Value}{hdct:Bool}{sn:List Str}{sub:List Value}{ab:Bool}{col:Option Bool}{dd:Option Addr}{k0 k1 k2 k3 k5:Option Value}{mN:Str→Option Value}{fI:Addr}{oI:Obj}
end
section
variable {X:Cx}{pins:List (Addr×Obj)}{σ:St}{H:Hp}{s:Shared}
variable {CX:CXT}{k:Nat}{C W fI:Addr}{fd:FuncData}{ps:List Str}{sp:Sp}{E:XK}{x:Str}{np pos:Pos}{e:Expr}{es:List Expr}{t:TA}
end
section
variable {X:Cx}{fx cx n:Str}{fp cpos xpos hp hpos tpos:Pos}{e:Expr}{es:List Expr}{ta:TA}{k j:Nat}{ps:List Str}{sp:Sp}{W:Addr}{st0:Stmt}{ts:TS}
end
section
variable {X:Cx}{K:Frag}
end
section
variable {prog:Program}{w:World}{A:Around}{E:Value→Shared→Prop}{h:Heap}{gn:Array GenState}{dr:Drawn}{tt:Nat}{os:OsState}{K:Frag}{x D:Addr}{ox od:Obj}{name:Str}
end
section
variable {X:Cx}{e:Expr}{f:Str}{pos:Pos}{ta:TE}{K:Frag}
end
end L2
namespace L2
open PySem PySem.Spec PyProof.Rows
section
variable {prog:Program}{w:World}{A:Around}{E:Value→Shared→Prop}{s:Shared}
end
section
variable {X:Cx}{K:PySem.W.Frag}
def Itq (K:PySem.W.Frag) (b:Bool) (a:Addr):It:=match b with
 |true=>Itl K a
 |false=>Itt K a
theorem z1L (K:PySem.W.Frag) (b:Bool) (a:Addr) (xs:List V):z4O (Itq K b a) xs.length (fun H=>SqB b K H a xs) (fun i H x H'=>H'=H∧xs[i]? =some x):=by
 cases b with
 |true=>exact z0r K a xs
 |false=>exact y0x K a xs
def iSq (K:PySem.W.Frag) (tl:TE):TI:=fun σ H R=>tl σ H fun x H1=>∃a b xs,x= .ref a∧SqB b K H1 a xs∧R (Itq K b a) H1
theorem z2L {tg l:Expr}{tl:TE} (h:X.K=K) (hl:PE X l tl):PI X tg l (iSq K tl):=by
 subst h
 intro pins s σ H R I q
 refine thn (hl pins s σ H _ I q) fun v s1 ⟨x,H1,I1,r1,a,b,xs,e,hq,q1⟩=>?_
 subst e
 cases r1
 cases b with
 |true=>
  obtain⟨its,rv,p,hz⟩:=I1.list hq
  refine wpAny_pyIter_list p.isList ⟨s1.heap.objs.size,[s1.heap.objs.size],_,_,H1,rfl,I1.kept (t':=s1.toks) fun b o e=>q0d _ e,z4S a _,⟨_,q0l _ rfl,rfl,rfl⟩,fun b hb=>?_,q1⟩
  have e:b=s1.heap.objs.size:=by simpa using hb
  subst e
  exact I1.fpOk (q0k _) (I1.hok.fresh (q0k _))
 |false=>
  obtain⟨its,rv,p,hz⟩:=I1.tuple hq
  refine wpAny_pyIter_tuple (show s1.heap.IsTuple a its.toArray from p) ⟨s1.heap.objs.size,[s1.heap.objs.size],_,_,H1,rfl,I1.kept (t':=s1.toks) fun b o e=>q0d _ e,z7s a _,⟨_,q0l _ rfl,rfl,rfl⟩,fun b hb=>?_,q1⟩
  have e:b=s1.heap.objs.size:=by simpa using hb
  subst e
  exact I1.fpOk (q0k _) (I1.hok.fresh (q0k _))
def rSlA (K:PySem.W.Frag):V→Option Int→Option Int→Hp→VK→Prop:=fun x lo hi H Q=>rSlL K x lo hi H Q∨rSlT K x lo hi H Q
theorem z8E (h:X.K=K):SlR X (rSlA K):=by subst h;exact SlR.or z8C y3b
def rIxA (K:PySem.W.Frag):R2:=fun x y H Q=>rIxL K x y H Q∨rIxT K x y H Q
theorem z4H (h:X.K=K):IxR X (rIxA K):=by subst h;exact IxR.or z9B y1L
theorem z9g (h:X.K=K) (hu:X.A.units+64<cLine):OpR X (compareOp .Eq) (rEqD K):=by subst h;exact y3z hu
theorem z1O (h:X.K=K) (hu:X.A.units+64<cLine):OpR X (compareOp .NotEq) (rNeD K):=by subst h;exact y3w hu
end
theorem SqB.same {b:Bool}{K:PySem.W.Frag}{H H':Hp}{a:Addr}{xs:List V} (g:Same H H') (h:SqB b K H a xs):SqB b K H' a xs:=by
 cases b with
 |true=>exact SqL.same g h
 |false=>exact SqT.same g h
theorem z0l {n:Nat} (h:n≤16777216):n≤sizeLine:=by rw[sizeLine_eq];exact h
theorem z1E {n:Nat} (h:n<16777216):n<sizeLine:=by rw[sizeLine_eq];exact h
end L2
namespace L2
open PySem PySem.Spec PyProof.Rows
section
variable {X:Cx}{tg iter elt:Expr}{ifs:List Expr}{scope:Scope}{pos:Pos}{cl:List (Str×Addr)}{Nc:List Str}{fr:List (Option Nat)}{wi:TI}{g:TG}{tt:TT}{te:TE}
theorem z2x {y:Str}{py spos:Pos}{jj:Nat} (hsw:swapsWith (.ListComp elt [⟨tg,iter,ifs,0⟩] scope pos) (some (.Name y py)) spos.line X.env=pure true) (hN:X.N.Nodup) (hj:X.N[jj]? =some y) (hx:Loc X.env.scope y) (hf:X.fn y=true∨X.env.scope.names.lookup y=some .local)
 (hc:X.calm=true) (hi:PI X tg iter wi) (hcl:closureFor scope X.env=pure cl) (hcell:∀y∈scope.names,y.2≠ .cell) (hk:scope.kind= .function) (hnm:∀y∈scope.names,y.2= .local →scope.names.lookup y.1=some .local)
 (hall:(scope.names.all fun p=>p.2 != .free || (cl.lookup p.1).isSome)=true) (cc:CapC X.env cl) (cn:CapN X scope cl Nc fr)
 (hg:∀C s2 H2 fp,PG (z1H X Nc scope cl C s2 H2 fp) tg g) (ht:∀C s2 H2 fp,PTs (z1H X Nc scope cl C s2 H2 fp) ifs tt) (he:∀C s2 H2 fp,PE (z1H X Nc scope cl C s2 H2 fp) elt te)
 (hs:∀x,foldedSetIterable iter X.env x=pure x:=by intro _;rfl):PS X (.Assign [.Name y py] (.ListComp elt [⟨tg,iter,ifs,0⟩] scope pos) spos) (tAsg (y2W fr wi g tt te) (z8b jj)):=by
 intro pins s σ H Ds I h
 rw[exec_Assign_Name_used _ _ _ _ hsw]
 refine wpAny_bind (wpAny_standAt (wpAny_bind ?_))
 show wpAny _ X.A (do let _ ←comprehension (.ListComp elt [⟨tg,iter,ifs,0⟩] scope pos) scope X.env _ (newList []) false (eval iter X.env) (some (assign (.Name y py) X.env))) _ _ s
 refine wpAny_bind (wpAny_mono (wpAny_comprehension_free (use:=some (assign (.Name y py) X.env)) (Q:=fun _ s'=>SP X pins Ds .next s') rfl hs hcl hk hnm ?_) (fun _ s' hq=>wpAny_pure (wpAny_pure hq)) fun _ _ e=>e)
 refine wpAny_mono (hi pins s σ H _ I h) (fun xv s1 h1=>wpAny_mono h1 (fun itv s2 h2=>?_) fun _ _ e=>e) fun _ _ e=>e
 obtain⟨it,fp,tn,J,H2,rfl,I2,T,st2,f2,q2⟩:=h2
 obtain⟨W,⟨m0,w0⟩,turn⟩:=q2 s2.heap.objs.size (I2.hok.fresh (q0k _))
 refine wpAny_newObj_type (wpAny_newFunctionEnv hcell (by intro y hy;simp at hy) (fun h4 ns4 sb4=>?_) hk)
 dsimp only at ns4 sb4 ⊢
 generalize hD:s2.heap.objs.size=D at*
 generalize hL:s2.heap.push {cls:= .type "list",dict:=none,data:= .seq ([]:List Value).toArray}=hl at ns4 sb4 ⊢
 have hlsz:hl.objs.size=D+1:=by rw[←hL,q1s,hD]
 rw[hlsz] at ns4 sb4 ⊢
 have DC:D≠D+1:=q0u (Nat.lt_succ_self _)
 have low:∀b o,s2.heap.get? b=some o→b<D:=fun b o e=>by rw[←hD];exact q0p e
 have kp:∀b o,s2.heap.get? b=some o→h4.get? b=some o:=fun b o e=>by
  have z:=low b o e
  refine sb4.extBut b o (q0u (q0U z)) (q0d _ ?_)
  rw[←hL]
  exact q0d _ e
 have hD4:h4.get? D=some {cls:= .type "list",dict:=none,data:= .seq ([]:List Value).toArray}:=by
  refine sb4.extBut D _ DC (q0d _ ?_)
  rw[←hL,←hD]
  exact q0l _ rfl
 have hn:H2 D=none:=by rw[←hD];exact I2.hok.fresh (q0k _)
 have hnC:H2 (D+1)=none:=I2.hok.fresh (by rw[hD];exact q1r _)
 let Y:=z1H X Nc scope cl (D+1) s2 H2 fp
 have ixv:∀b∈fp,b<D:=fun b hb=>by
  obtain⟨o,e,_⟩:=T.obj 0 _ st2 b hb
  exact low b o e
 have okY:Y.Ok:=by
  refine⟨I2.ok.mod,?_,I2.ok.glob,I2.ok.blt,?_,?_,?_,?_,fun _=>I2.ok.hd hc,I2.ok.frames,.inl rfl,?_,I2.bs,?_,?_,?_,I2.stack,I2.stkFree⟩
  ·exact hk
  ·show s2.heap.objs.size≤D+1
   lia
  ·intro x y c e1 e2
   exact I2.ok.inj x y c (cc.mem x c e1) (cc.mem y c e2)
  ·intro x hx
   exact z1Y hcell hall x hx
  ·intro x c e
   cases e
  ·intro b hb
   refine⟨fun z=>?_,fun x c e z=>?_⟩
   ·exact absurd z (q0u (q0U (ixv b hb)))
   ·exact (f2 b hb).2.2.2.2.1 x c (cc.mem x c e) z
  ·exact q0q I2.ok.bsz I2.sz
  ·intro b o e hb
   have z:=(f2 b hb).2.2.2.1
   rcases z with z|z
   ·exact I2.ok.noex b o e z
   ·exact absurd (q0B (q0p (I2.ok.bs b o e).1) z) (q1l _)
  ·intro b hb z
   have e2:=q0o.mp (I2.stkSub b z)
   rcases e2 with e2|e2
   ·exact (f2 b hb).2.1 e2
   ·exact (f2 b hb).2.2.1 e2
 have IY:Inv Y [] (z0z fr σ) (upd H2 D (.lst [])) {s2 with heap:=h4,toks:=s2.toks+([]:List (Str×Value)).length}:=by
  refine⟨okY,rfl,I2.bare,⟨fun b o e n _ _=>kp b o e,fun b o e n _ _=>⟨o.slots,kp b o e⟩,fun b o e n _=>?_,fun b o e _=>⟨o,kp b o e⟩,fun b xs e=>?_,fun b o u e=>?_,fun b ps e=>⟨#[],?_⟩⟩,?_,fun x c e=>?_,?_,fun x c e=>?_,fun p hp=>?_,fun b u e=>?_,?_⟩
  ·rw[z0h (q0u (low b o e))];exact n
  ·rw[z0h (z0f e hn)];exact e
  ·rw[z0h (z0f e hn)];exact e
  ·rw[z0h (z0f e hn),show H2 b=_ from e];simp
  ·refine⟨_,ns4,fun j x v e1 e2 e3=>?_⟩
   have e2':(fr.map fun o=>o.bind fun k=>(σ[k]?).join)[j]? =some (some v):=e2
   rw[q0j] at e2'
   obtain⟨o,ho,hv⟩:=q0v.mp e2'
   cases o with
   |none=>cases hv
   |some k=>
    obtain⟨c1,c2,c3,c4⟩:=cn.at j x k e1 ho
    have hσ:σ[k]? =some (some v):=by
        have hv':(σ[k]?).join =some v:=hv
        cases z:σ[k]? with
        |none=>rw[z] at hv';cases hv'
        |some w'=>rw[z] at hv';exact congrArg some hv'
    obtain⟨m,hm,hlk⟩:=I2.loc
    obtain⟨u,r,lk⟩:=hlk k x v c1 hσ (.inr (.inl c2))
    refine⟨u,r,.inr ⟨.inl c4,?_⟩⟩
    rcases lk with⟨z,_⟩|⟨_,c,ec,oc,hoc,dc⟩
    ·rw[c2] at z;cases z
    ·obtain⟨c',ec'⟩:=Option.isSome_iff_exists.mp c3
     have:=cc.mem x c' ec'
     rw[ec] at this;cases this
     exact⟨c,ec',oc,kp c oc hoc,dc⟩
  ·obtain⟨v,oc,hoc,dc⟩:=I2.cell x c (cc.mem x c e)
   exact⟨v,oc,kp c oc hoc,dc⟩
  ·show upd H2 D (.lst []) (D+1)=none
   rw[z0h (Ne.symm DC)];exact hnC
  ·obtain⟨v,oc,hoc,dc⟩:=I2.cell x c (cc.mem x c e)
   rw[z0h (q0u (low c oc hoc))]
   exact I2.freeC x c (cc.mem x c e)
  ·simp[Y,z1H] at hp
  ·by_cases hb:b=D
   ·subst hb
    rw[z0b] at e;cases e
    exact⟨q0A _,[],_,.nil,hD4⟩
   ·rw[z0h hb] at e
    exact (I2.hok b u e).stay (fun c v _ q=>kp c v q) (fun c q=>by rw[z0h (z0f q hn)];exact q) fun c xs q=>by rw[z0h (z0f q hn)];exact q
  ·show (fr.map _).length =Nc.length
   rw[q0a];exact cn.length
 have fY:∀{H':Hp},(∀b∈fp,H' b=none)→∀b∈fp,y0j Y [] H' b:=fun {H'} hn' b hb=>by
  refine⟨hn' b hb,fun z=>?_,fun z=>?_,.inl hb,fun x c e z=>?_,fun p hp=>?_⟩
  ·exact absurd z (q0u (q0U (ixv b hb)))
  ·exact okY.exfs b hb z
  ·exact (f2 b hb).2.2.2.2.1 x c (cc.mem x c e) z
  ·simp[Y,z1H] at hp
 have st4:tn 0 h4:=T.keep _ _ _ st2 fun b hb o e=>kp b o e
 have fr4:∀b∈fp,upd H2 D (.lst []) b=none:=fun b hb=>by
  rw[z0h (q0u (ixv b hb))]
  exact (f2 b hb).1
 have loop:∀s3:Shared,s3={s2 with heap:=h4,toks:=s2.toks+([]:List (Str×Value)).length}→
  codeAny (model X.prog X.w) X.A (.compLoop (.ListComp elt [⟨tg,iter,ifs,0⟩] scope pos) 0 (.ref it) (.ref D) (compEnvC scope cl (D+1) X.env)) (compPost (model X.prog X.w) X.A X.xe (some (assign (.Name y py) X.env)) (fun _ s'=>SP X pins Ds .next s') (.ref D) (D+1)) s3:=by
  rintro s3 rfl
  refine codeAny_loop rfl (fun n s'=>∃i σ' H',Inv Y [] σ' H' s'∧tn i s'.heap∧(∀b∈fp,H' b=none)∧W i n σ' H') (fun n s5 hI=>?_) m0 ⟨0,_,_,IY,st4,fr4,w0⟩
  obtain⟨i,σ5,H5,I5,st5,fr5,w5⟩:=hI
  show wpAny _ X.A ((compTurn (.ListComp elt [⟨tg,iter,ifs,0⟩] scope pos) 0 (.ref it) (.ref D) (compEnvC scope cl (D+1) X.env)).onRaise (fun x=>do noteFrame x (compEnvC scope cl (D+1) X.env);theTreesLotGoes x)) _ _ s5
  refine wpAny_noted ?_
  rw[compTurn_list]
  refine wpAny_bind (wpAny_standAt (wpAny_bind ?_))
  rcases turn i n σ5 H5 w5 with⟨stop,qn⟩|⟨go,step⟩
  ·refine wpAny_mono (T.done Y rfl rfl rfl rfl i [] s5 σ5 H5 (fun _ _=>False) I5 (fY fr5) st5 stop) (fun r s6 ⟨hr,I6⟩=>?_) fun _ _ z=>z.elim
   subst hr
   refine wpAny_pure ?_
   obtain⟨m6,hm6,_⟩:=id I6.loc
   have sb7:Heap.SameBut (D+1) s6.heap s6.heap:=Heap.SameBut.refl ..
   have un:Un (frs X.stack) fp H2 H5 s2.heap s6.heap:=by
        have b6:=I6.base
        have nc:∀b o,s2.heap.get? b=some o→b≠D+1:=fun b o e=>q0u (q0U (low b o e))
        refine⟨fun b o e n1 n2 n3=>(sb7.2 b (nc b o e)).trans (b6.keep b o e n1 n2 n3),fun b o e n1 n2 n3=>?_,b6.free,fun b o e n3=>?_,b6.tups,b6.frzs,b6.tbls⟩
        ·obtain⟨sl,z⟩:=b6.slot b o e n1 n2 n3
         exact⟨sl,(sb7.2 b (nc b o e)).trans z⟩
        ·obtain⟨o',z⟩:=b6.there b o e n3
         exact⟨o',(sb7.2 b (nc b o e)).trans z⟩
   have hok7:HOk X.prog X.w H5 s6.heap:=fun b u e=>by
        refine (I6.hok b u e).stay (fun c v hc' q=>(sb7.2 c fun z=>?_).trans q) (fun _ q=>q) fun _ _ q=>q
        have fC:H5 (D+1)=none:=I6.free
        subst z
        rcases hc' with z|z
        ·rw[←z,fC] at e;cases e
        ·rw[fC] at z;cases z
   have IX:=I2.call' (s':={s6 with heap:=s6.heap}) (ch:=fp) I6.os un hok7 I6.bare fun b hb=>⟨(f2 b hb).2.2.2.1,(f2 b hb).2.1,(f2 b hb).2.2.2.2.1,(f2 b hb).2.2.2.2.2⟩
   have lx:X.env.locals<D:=by
        obtain⟨m,⟨o,_,_,ho,_⟩,_⟩:=I2.loc
        exact low _ o ho
   refine wpAny_assign_Name (z4W IX hN hj hx (show RelV (.ref D) (.ref D) from rfl) (fun s7 I7 ⟨a7,sa7,ha7⟩=>?_) hf)
   have al:a7<D:=by
        rcases ha7 with z|z
        ·rw[z];exact lx
        ·obtain⟨v,o,ho,_⟩:=I2.cell y a7 z
         exact low _ o ho
   refine⟨m6,hm6.sameBut sa7 (Ne.symm (q0u (q0U al))),fun h8 sb8=>?_⟩
   have I8:Inv X pins (σ.set jj (some (.ref D))) H5 {s7 with heap:=h8}:=I7.turned (t':=s7.toks) (it:=D+1) (fun b o hb e=>(sb8.2 b hb).trans e) I6.free (Ne.symm (q0u (q0U lx))) (.inr (by
    have:=I2.sz
    rw[hD] at this
    exact Nat.le_succ_of_le this)) (fun x c e z=>by
    obtain⟨v,o,ho,_⟩:=I2.cell x c e
    have:=low _ o ho
    rw[z] at this
    exact absurd this (Nat.not_lt.mpr (q1r _))) (fun p hp z=>by
    have:=low _ _ (I2.pin p hp).1
    rw[z] at this
    exact absurd this (Nat.not_lt.mpr (q1r _)))
   exact⟨_,H5,I8,qn⟩
  ·refine wpAny_mono (T.item Y rfl rfl rfl rfl i [] s5 σ5 H5 (fun _ _=>False) I5 (fY fr5) st5 go) (fun r s6 ⟨u,hr,h6⟩=>?_) fun _ _ z=>z.elim
   subst hr
   refine wpAny_bind (wpAny_mono h6 (fun _ s7 ⟨x,H7,I7,r7,y7,st7,fr7⟩=>?_) fun _ _ z=>z.elim)
   have I7':=I7.pinned (fY fr7) (T.obj _ _ st7)
   refine wpAny_bind (wpAny_mono (hg _ _ _ _ _ s7 σ5 H7 x u _ I7' r7 (step x H7 y7)) (fun _ s8 ⟨σ8,H8,I8,q8⟩=>?_) fun _ _ z=>z.elim)
   have again:∀{σ':St}{H':Hp}{s':Shared}{k:Nat},Inv Y ([]++z4d fp s7.heap) σ' H' s'→W (i+1) k σ' H'→∃i' σ'' H'',Inv Y [] σ'' H'' s'∧tn i' s'.heap∧(∀b∈fp,H'' b=none)∧W i' k σ'' H'':=fun {σ' H' s' k} I' w'=>by
        refine⟨i+1,σ',H',I'.unpinned,T.keep _ _ _ st7 fun b hb o e=>(I'.pin (b,o) (q0z _ (q0z _ (z1n hb e)))).1,fun b hb=>?_,w'⟩
        obtain⟨o,e,d⟩:=T.obj _ _ st7 b hb
        exact (I'.pin (b,o) (q0z _ (q0z _ (z1n hb e)))).2.1
   refine wpAny_bind (wpAny_mono (ht _ _ _ _ _ s8 σ8 H8 _ I8 q8) (fun ok s9 ⟨H9,I9,q9⟩=>?_) fun _ _ z=>z.elim)
   cases ok with
   |false=>
    obtain⟨m',hm',w'⟩:=q9
    exact wpAny_pure ⟨rfl,m',hm',again I9 w'⟩
   |true=>
    refine wpAny_bind (wpAny_bind (wpAny_mono (he _ _ _ _ _ s9 σ8 H9 _ I9 q9) (fun ev s10 ⟨v,H10,I10,r10,acc,m',hacc,hlen,hm',w'⟩=>?_) fun _ _ z=>z.elim))
    refine wpAny_bind (wpAny_mono (z1b (X:=Y) _ s10 σ8 H10 (.ref D) [v] (.ref D) [ev] (fun r H'=>r= .non ∧H'=upd H10 D (.lst (acc++[v]))) I10 rfl (.cons r10 .nil) ⟨D,acc,v,rfl,rfl,hacc,hlen,rfl,rfl⟩) (fun _ s11 ⟨_,H11,I11,_,_,e11⟩=>?_) fun _ _ z=>z.elim)
    subst e11
    exact wpAny_pure (wpAny_pure ⟨rfl,m',hm',again I11 w'⟩)
 exact codeAny_compStart_list (loop _ rfl) (T.self _ _ _ _ _ st4 (loop _ rfl))
end
end L2
namespace L2
open PySem PySem.Spec PySem.W PyProof.Rows
section
variable {X:Cx}{K:Frag}
open Classical in
theorem z9J {pins:List (Addr×Obj)}{σ:St}{H:Hp}{s:Shared}{A:Around} (I:Inv X pins σ H s) (hu:A.units+9<cLine) {x:V}{v:Value}{e:Dt} (hx:IsD X.K H x e) (rx:RelV x v):∀{xs:List V}{ds:List Dt}{its:List Value},IsDs X.K H xs ds→Vals xs its→(∀d∈ds,Dt.ok 9 d e=true)→
 ∃f:Value→Bool,(∀w∈its,SeqAt.EqAt A s w v (f w))∧its.any f=ds.any fun d=>Dt.eqb d e:=by
 intro xs ds its hd rv ok
 have T:=told I 9 A hu
 have each:∀{xs:List V}{ds:List Dt}{its:List Value},IsDs X.K H xs ds→Vals xs its→(∀d∈ds,Dt.ok 9 d e=true)→(∀w∈its,∃d,(w,d)∈its.zip ds)∧∀w d,(w,d)∈its.zip ds→SeqAt.EqAt A s w v (Dt.eqb d e):=by
  intro xs ds its hd rv ok
  induction its generalizing xs ds with
  |nil=>exact⟨fun w h=>by simp at h,fun w d h=>by simp at h⟩
  |cons u us ih=>
   cases rv with
   |cons r1 r2=>
    cases hd with
    |cons h1 h2=>
     obtain⟨i1,i2⟩:=ih h2 r2 fun d hd=>ok d (q0f _ hd)
     refine⟨fun w hw=>?_,fun w d hw=>?_⟩
     ·rcases q0o.mp hw with rfl|hw
      ·exact⟨_,q0i⟩
      ·obtain⟨d,q⟩:=i1 w hw
       exact⟨d,q0f _ q⟩
     ·rcases q0o.mp hw with z|hw
      ·cases z
       exact T _ _ _ _ _ _ h1 hx r1 rx (ok _ q0i)
      ·exact i2 w d hw
 obtain⟨i1,i2⟩:=each hd rv ok
 have hlen:its.length=ds.length:=by
  have a:=rv.length
  have b:xs.length=ds.length:=by
   clear rv ok i1 i2 a
   induction ds generalizing xs with
   |nil=>cases hd;rfl
   |cons d r ih=>cases hd with|cons h1 h2=>rw[List.length_cons,List.length_cons,ih h2]
  lia
 refine⟨fun w=>decide (∃d,(w,d)∈its.zip ds∧Dt.eqb d e=true),fun w hw=>?_,?_⟩
 ·by_cases h:∃d,(w,d)∈its.zip ds∧Dt.eqb d e=true
  ·obtain⟨d,h1,h2⟩:=h
   have:=i2 w d h1
   rw[h2] at this
   dsimp only
   rw[decide_eq_true (⟨d,h1,h2⟩:∃d,(w,d)∈its.zip ds∧Dt.eqb d e=true)]
   exact this
  ·obtain⟨d,h1⟩:=i1 w hw
   have:=i2 w d h1
   have hf:Dt.eqb d e=false:=by
        cases z:Dt.eqb d e with
        |false=>rfl
        |true=>exact absurd ⟨d,h1,z⟩ h
   rw[hf] at this
   dsimp only
   rw[decide_eq_false h]
   exact this
 ·rw[q1p,q1i,q1i]
  constructor
  ·rintro⟨w,hw,h⟩
   obtain⟨d,h1,h2⟩:=of_decide_eq_true h
   exact⟨d,(q1v h1).2,h2⟩
  ·rintro⟨d,hd',h⟩
   obtain⟨i,hi,e1⟩:=q0Q.mp hd'
   have hi2:i<its.length:=by lia
   have hm:(its[i],d)∈its.zip ds:=by
     refine q0Q.mpr ⟨i,by rw[List.length_zip];lia,?_⟩
     rw[List.getElem_zip,e1]
   exact⟨its[i],q0F hi2,decide_eq_true ⟨d,hm,h⟩⟩
def rInD (K:Frag) (neg:Bool):R2:=fun x y H Q=>∃p xs ds e,y= .ref p∧SqA K H p xs∧IsDs K H xs ds∧IsD K H x e∧(∀d∈ds,Dt.ok 9 d e=true)∧Q (.bl (if neg then !(ds.any fun d=>Dt.eqb d e) else ds.any fun d=>Dt.eqb d e)) H
theorem z7J (h:X.K=K) (hu:X.A.units+64<cLine):OpR X (compareOp .NotIn) (rInD K true):=by
 subst h
 intro pins s σ H x y v u Q I rx ry h
 obtain⟨p,xs,ds,e,rfl,hq,hd,hx,ok,q⟩:=h
 cases ry
 rcases hq with hq|hq
 ·obtain⟨its,r,pl,hz⟩:=I.list hq
  obtain⟨f,f1,f2⟩:=z9J (A:=X.A.in1) I (by show X.A.units+1+9<cLine;lia) hx rx hd r ok
  refine SeqAt.notIn_listAt f pl.isList (fun w hw=>f1 w (by simpa using hw)) ⟨.bl _,H,I,rfl,?_⟩
  rw[show its.toArray.any f=its.any f by simp,f2]
  exact q
 ·obtain⟨its,r,pl,hz⟩:=I.tuple hq
  obtain⟨f,f1,f2⟩:=z9J (A:=X.A.in1) I (by show X.A.units+1+9<cLine;lia) hx rx hd r ok
  refine SeqAt.notIn_tupleAt f pl (fun w hw=>f1 w (by simpa using hw)) ⟨.bl _,H,I,rfl,?_⟩
  rw[show its.toArray.any f=its.any f by simp,f2]
  exact q
end
end L2
namespace L2
open PySem PySem.Spec PySem.W PyProof.Rows
section
variable {X:Cx}{K:Frag}
end
end L2
namespace L2
open PySem PySem.Spec PyProof.Rows
theorem z7h {prog:Program}{w:World}{A:Around} (hh:A.handled=none) (b:Bool) (it a:Addr) (hne:a≠it) (its:Array Value):
 Draws prog w A it [it,a] its.size (fun i v=>its[i]? =some v) (fun i h=>SIt b h it a i∧SAt b h a its) where
 live:=fun _ _ st=>let ⟨o,_,ho,_⟩:=st.1.ob;⟨o,ho⟩
 frame:=fun _ _ _ st hk=>⟨st.1.keep fun o e=>hk it (by simp) o e,st.2.keep fun o e=>hk a (by simp) o e⟩
 item:=fun i s Q E hi st hQ=>by
  refine z2m st.1 st.2 (x:=its[i]) (by simp[hi]) fun h' hit' hs'=>?_
  exact hQ _ h' s.toks (by simp[hi]) ⟨hit',st.2.keep fun o e=>hs'.extBut _ o hne e⟩ hs'
 done:=fun s Q E st hE=>z4E hh st.1 st.2 (by simp) hE
abbrev eA (h:Heap) (b:Bool) (a:Addr):Heap:=h.push (itO b a)
abbrev eB (h:Heap) (b:Bool) (a:Addr):Heap:=(eA h b a).push {cls:= .type "enumerate",data:= .fields #[.none,.bool false,.ref h.objs.size,rawInt 0,.none,.none]}
theorem z7T (b:Bool) (l:Addr) (xs:Array Value):
 Meets (Builtin.«enumerate.__new__» ⟨[.type "enumerate",.ref l],[]⟩) (fun _ R s=>SAt b s.heap l xs∧R (.ok (.ret (.ref (eA s.heap b l).objs.size))) {s with heap:=eB s.heap b l}):=
 .of_wp fun prog w A R s h=>by
  obtain⟨hp,g,d,tk,os⟩:=s;obtain⟨h1,h⟩:=h
  have hsub:=sub_enumerate
  have k1:SAt b (Shared.heap ⟨hp,g,d,tk,os⟩) l xs:=h1
  wp_walk
  refine wpAny_stack_any fun st=>wpAny_pure ?_
  split
  ·rename_i c _ _ _ _ _
   cases (c==Value.type "enumerate")
   ·wp_walk using z3B k1
    exact⟨_,rfl,h⟩
   ·wp_walk using z3B k1
    exact⟨_,rfl,h⟩
  ·wp_walk using z3B k1
   exact⟨_,rfl,h⟩
section
variable {prog:Program}{w:World}{A:Around}{E:Value→Shared→Prop}{s:Shared}
theorem z8m {b:Bool}{l:Addr}{xs:Array Value}{Q:Value→Shared→Prop} (hl:SAt b s.heap l xs)
 (h:∀h',IsEnum h' (s.heap.objs.size+1) s.heap.objs.size 0 .none →SIt b h' s.heap.objs.size l 0→(∀p o,s.heap.get? p=some o→h'.get? p=some o)→Q (.ref (s.heap.objs.size+1)) {s with heap:=h'}):
 wpAny (model prog w) A (call (.type "enumerate") [.ref l]) Q E s:=by
 refine callType_new F.called_enumerate (by decide) (F.typeCall_enumerate_1 _) (F.newCall_enumerate_1 _) (fun obj=>F.args_object_init_2 obj _) F.entry_enumerate_new (z7T b l xs) ⟨hl,?_⟩
 have z1:(eA s.heap b l).objs.size =s.heap.objs.size+1:=q1s ..
 have g2:(eB s.heap b l).get? (eA s.heap b l).objs.size =some _:=q0l _ rfl
 have g1:SIt b (eB s.heap b l) s.heap.objs.size l 0:=SIt.new.keep fun o e=>q0d _ e
 show _∧_
 rw[z1] at g2
 rw[z1]
 exact⟨⟨_,g2,rfl⟩,h _ g2 g1 fun p o e=>q0d _ (q0d _ e)⟩
end
def Iteb (K:PySem.W.Frag) (b:Bool) (a:Addr):It:=
 ⟨fun i H=>∃xs x,SqB b K H a xs∧xs[i]? =some x,
  fun i H x H'=>∃p v,x= .ref p∧H p=none∧(∀xs,SqB b K H a xs→xs[i]? =some v)∧H'=upd H p (.tup [.int i,v]),
  fun i H=>∃xs,SqB b K H a xs∧xs.length=i⟩
theorem z7v {P:Program}{w:World}{K:PySem.W.Frag}{elts:List Expr}{k:Nat}{pos:Pos} (b:Bool) (a e it:Addr) (hne:e≠it):
 y1V P w K (.Tuple elts k pos) (Iteb K b a) [e,it] e (fun i h=>(∃old,IsEnum h e it ((i:Nat):Int) old)∧SIt b h it a i) where
 mem:=by simp
 obj:=fun i h st c hb=>by
  obtain⟨⟨old,st1⟩,st2⟩:=st
  rcases q0o.mp hb with rfl|hb
  ·exact⟨_,st1,fun v z=>by
        have z':Data.fields _=Data.cell v:=z
        cases z'⟩
  ·have e':=q0g.mp hb
   subst e'
   obtain⟨o,_,q,_,_,d⟩:=st2.ob
   exact⟨o,q,fun v z=>by rw[d] at z;cases z⟩
 keep:=fun i h h' st k=>⟨let ⟨old,q⟩:=st.1;⟨old,k e (by simp) _ q⟩,st.2.keep fun o q=>k it (by simp) o q⟩
 item:=by
  intro X hP hw hK hc i pins s σ H E I hf st hg
  subst hP hw hK
  obtain⟨xs,x,hq,hx⟩:=hg
  obtain⟨its,rv,p,hz⟩:=I.sq hq
  obtain⟨u,hu,ru⟩:=rv.get hx
  obtain⟨⟨old,st1⟩,st2⟩:=st
  have he:=hf e (by simp)
  have hi:=hf it (by simp)
  have hlt:e<s.heap.objs.size:=q0p st1
  have hlt2:it<s.heap.objs.size:=by obtain⟨o,_,q,_⟩:=st2.ob;exact q0p q
  have ane:a≠it:=I.sq_ne hq hi
  have aee:a≠e:=I.sq_ne hq he
  have hlt3:i<its.toArray.size:=by
   rw[q0h]
   exact (q0E.mp hu).1
  refine wpAny_pyNext_enum_itemD (z7h (prog:=X.prog) (w:=X.w) (A:=X.A.in1) (I.ok.hd hc) b it a ane its.toArray) st1 ⟨st2,p⟩ hlt3 hne (by simp[hne,Ne.symm aee]) fun x2 h' tk hP ho' st' hT hsz kk=>?_
  have ex:x2=u:=by
   have:its[i]? =some x2:=by simpa using hP
   rw[hu] at this
   exact (Option.some.inj this).symm
  subst ex
  refine⟨_,rfl,wpAny_letOwnedTupleGo_enum ho' fun h2 he2 hs2=>?_⟩
  have hT2:h2.get? s.heap.objs.size=some {cls:= .type "tuple",data:= .seq #[.int i tk,x2]}:=hs2.extBut _ _ (q1w hlt) hT
  have I1:Inv X pins σ (upd H s.heap.objs.size (.tup [.int i,x])) {s with heap:=h2,toks:=tk+1}:=by
   refine I.turnedLaid (fp:=[e,it]) hf (fun c ob hb q=>?_) (q0k _) ?_
   ·have hb1:c≠e:=fun z=>hb (by simp[z])
    have hb2:c≠it:=fun z=>hb (by simp[z])
    exact hs2.extBut c ob hb1 (kk c ob hb1 hb2 q)
   ·exact⟨by show 2≤sizeLine;decide,[.int i tk,x2],.cons ⟨_,rfl⟩ (.cons ru .nil),_,hT2,rfl,_,rfl⟩
  refine⟨.ref s.heap.objs.size,_,I1,rfl,⟨_,x,rfl,I.hok.fresh (q0k _),fun ys hy=>by rw[I.sq_inj hy hq];exact hx,rfl⟩,⟨⟨_,by simpa using he2⟩,?_⟩,fun c hb=>?_⟩
  ·exact st'.1.keep fun o q=>hs2.extBut it o (Ne.symm hne) q
  ·rcases q0o.mp hb with rfl|hb
   ·rw[z0h (q0u hlt)];exact he.1
   ·have e':=q0g.mp hb
    subst e'
    rw[z0h (q0u hlt2)];exact hi.1
 done:=by
  intro X hP hw hK hc i pins s σ H E I hf st hg
  subst hP hw hK
  obtain⟨xs,hq,hx⟩:=hg
  obtain⟨its,rv,p,hz⟩:=I.sq hq
  obtain⟨⟨old,st1⟩,st2⟩:=st
  have hl:=rv.length
  have ane:a≠it:=I.sq_ne hq (hf it (by simp))
  have en:i=its.toArray.size:=by rw[q0h];lia
  subst en
  refine wpAny_pyNext_enum_endD (z7h (prog:=X.prog) (w:=X.w) (A:=X.A.in1) (I.ok.hd hc) b it a ane its.toArray) st1 ⟨st2,p⟩ fun h' eb=>⟨rfl,?_⟩
  exact I.turnedAll (t':=s.toks) (fp:=[e,it]) hf fun c ob hb q=>eb c ob (fun z=>hb (by simp[z])) q
 self:=fun _ _ _ _ _ st h=>let ⟨_,q⟩:=st.1;wpAny_pyIter_enum q h
section
variable {X:Cx}{K:PySem.W.Frag}
def y3S (K:PySem.W.Frag) (tl:TA):TI:=fun σ H R=>tl σ H fun vs H1=>∃a b xs,vs=[.ref a]∧SqB b K H1 a xs∧R (Iteb K b a) H1
theorem z6I (h:X.K=K) {elts:List Expr}{k:Nat}{tpos:Pos}{l:Expr}{tl:TA}{p pos:Pos} (hg:Gl X "enumerate") (hm:X.mg "enumerate"=none) (ha:PA X [l] tl) (hs:starEach [l] X.env=[(false,eval l X.env)]:=by rfl):
 PI X (.Tuple elts k tpos) (.Call (.Name "enumerate" p) [l] [] pos) (y3S K tl):=by
 subst h
 intro pins s σ H R I h
 refine Call_ (z2N I hg hm boot_enumerate (PyProof.Rows.callWith_type1 (thn (ha pos pins s σ H _ I h) fun us s1 ⟨vs,H1,I1,r1,q1⟩=>?_) hs rfl))
 obtain⟨a,b,xs,e,hq,q⟩:=q1
 subst e
 cases r1 with
 |cons r rr=>
  cases rr
  cases r
  obtain⟨its,rv,p1,_⟩:=I1.sq hq
  refine z8m p1 fun h' he hit kk=>wpAny_pyIter_enum he ?_
  have I2:Inv X pins σ H1 {s1 with heap:=h'}:=I1.kept (t':=s1.toks) kk
  refine⟨_,[s1.heap.objs.size+1,s1.heap.objs.size],_,_,H1,rfl,I2,z7v b a _ _ (Nat.succ_ne_self _),⟨⟨_,he⟩,hit⟩,fun c hb=>?_,q⟩
  have fr:∀c,s1.heap.objs.size≤c→H1 c=none:=fun c hc=>I1.hok.fresh hc
  rcases q0o.mp hb with rfl|hb
  ·exact I1.fpOk (q1r _) (fr _ (q1r _))
  ·have e':=q0g.mp hb
   subst e'
   exact I1.fpOk (q0k _) (fr _ (q0k _))
theorem z7D (K:PySem.W.Frag) (b:Bool) (a:Addr) (xs:List V):z4O (Iteb K b a) xs.length (fun H=>SqB b K H a xs) (fun i H x H'=>∃p v,x= .ref p∧H p=none∧xs[i]? =some v∧H'=upd H p (.tup [.int i,v])) where
 go:=fun i H h hi=>⟨xs,xs[i],h,by simp[hi]⟩
 stop:=fun H h=>⟨xs,h,rfl⟩
 yld:=fun i H x H' h hi y=>let ⟨p,v,e,hn,hv,e2⟩:=y;⟨p,v,e,hn,hv xs h,e2⟩
end
end L2
namespace L2
open PySem PySem.Spec PyProof.Rows
theorem z5U {α:Type} (L:List α) (a b c d:α):((((L.set 0 a).set 1 b).set 0 c).set 1 d)=(L.set 0 c).set 1 d:=by
 match L with
 |[]=>rfl
 |[_]=>rfl
 |_::_::_=>rfl
theorem z3K {J:It}{n:Nat}{Ok:Hp→Prop}{ps:List (V×V)} (hx:n=ps.length) (R:z4O J n Ok (fun i H x H'=>∃p u v,x= .ref p∧H p=none∧ps[i]? =some (u,v)∧H'=upd H p (.tup [u,v]))) {fr:List (Option Nat)}{g:TG}{tt:TT}{te:TE}{σ:St}{H1:Hp}{Q:VK}{D:Addr} (hD:H1 D=none) (tst:V×V→Bool) (val:V×V→V)
 (hg:∀p u v σ H,H p=some (.tup [u,v])→∀S:St→Hp→Prop,S ((σ.set 0 (some u)).set 1 (some v)) H→g (.ref p) σ H S)
 (hok:∀H,Same H1 H→Ok H) (hn:n≤sizeLine)
 (ht:∀c∈ps,∀Hc,Same H1 Hc→∀S:Bool→Hp→Prop,S (tst c) Hc→tt (((z0z fr σ).set 0 (some c.1)).set 1 (some c.2)) Hc S)
 (hv:∀c∈ps,tst c=true→∀Hc,Same H1 Hc→∀S:VK,S (val c) Hc→te (((z0z fr σ).set 0 (some c.1)).set 1 (some c.2)) Hc S)
 (q:∀H',Same H1 H'→H' D=some (.lst ((ps.filter tst).map val))→Q (.ref D) H'):
 z2s J g tt te Q D (z0z fr σ) (upd H1 D (.lst [])):=by
 subst hx
 refine z2G R (fun i acc σ' H'=>((∃o1 o2,σ'=((z0z fr σ).set 0 o1).set 1 o2)∨σ'=z0z fr σ)∧Same H1 H'∧H' D=some (.lst acc)∧acc=((ps.take i).filter tst).map val) ⟨.inr rfl,z0d hD _,z0b,by simp⟩ ?_ hn ?_ ?_
 ·rintro i acc σ' H' hi ⟨_,hs,_,rfl⟩
  refine⟨hok _ hs,?_⟩
  rw[q0a]
  refine q0q (q1f _ _) ?_
  rw[q0O];lia
 ·rintro N i x acc σ' H' H'' hi ⟨hσ,hs,hd,ha⟩ ⟨p,u,v,rfl,hp,hc,rfl⟩ n1 n2
  have g2:=z0d hp (.tup [u,v])
  have hs2:=hs.trans g2
  have hd2:=g2 _ _ hd
  have e2:upd H' p (.tup [u,v]) p=some (.tup [u,v]):=z0b
  generalize upd H' p (.tup [u,v])=H2 at*
  have hm:(u,v)∈ps:=q0s hc
  have tk:ps.take (i+1)=ps.take i++[(u,v)]:=by rw[q0L,hc];rfl
  have eσ:(σ'.set 0 (some u)).set 1 (some v)=((z0z fr σ).set 0 (some u)).set 1 (some v):=by
   rcases hσ with⟨o1,o2,rfl⟩|rfl
   ·exact z5U _ _ _ _ _
   ·rfl
  refine hg p u v σ' H2 e2 _ ?_
  rw[eσ]
  refine ht (u,v) hm H2 hs2 _ ?_
  cases hb:tst (u,v) with
  |true=>
   refine z5y ?_
   refine hv (u,v) hm hb H2 hs2 _ ?_
   refine n1 _ _ _ hd2 ⟨.inl ⟨_,_,rfl⟩,fun b o e=>?_,z0b,?_⟩
   ·rw[z0h (z0f e hD)];exact hs2 _ _ e
   ·rw[tk,ha,q0Y,q0m,q1b hb];rfl
  |false=>
   refine z1X ?_
   refine n2 _ _ ⟨.inl ⟨_,_,rfl⟩,hs2,hd2,?_⟩
   rw[tk,ha,q0Y,q0m,q1c (by simp[hb])];simp
 ·rintro acc σ' H' ⟨_,hs,hd,ha⟩
  rw[q0S] at ha
  exact q H' hs (by rw[hd,ha])
def z2S (xs:List V):List (V×V):=xs.mapIdx fun i x=>(.int (i:Nat),x)
theorem z4a (K:PySem.W.Frag) (b:Bool) (a:Addr) (xs:List V):z4O (Iteb K b a) (z2S xs).length (fun H=>SqB b K H a xs) (fun i H x H'=>∃p u v,x= .ref p∧H p=none∧(z2S xs)[i]? =some (u,v)∧H'=upd H p (.tup [u,v])):=by
 have r:=z7D K b a xs
 have el:(z2S xs).length =xs.length:=List.length_mapIdx
 rw[el]
 exact⟨r.go,r.stop,fun i H x H' h hi y=>by
  obtain⟨p,v,e,hn,hv,e2⟩:=r.yld i H x H' h hi y
  exact⟨p,_,v,e,hn,by unfold z2S;rw[List.getElem?_mapIdx,hv];rfl,e2⟩⟩
theorem z5e (K:PySem.W.Frag) (b c:Bool) (l m:Addr) (xs ys:List V):z4O (Itz K b c l m) (xs.zip ys).length (fun H=>SqB b K H l xs∧SqB c K H m ys) (fun i H x H'=>∃p u v,x= .ref p∧H p=none∧(xs.zip ys)[i]? =some (u,v)∧H'=upd H p (.tup [u,v])):=by
 have r:=y0w K b c l m xs ys
 have el:(xs.zip ys).length =min xs.length ys.length:=List.length_zip
 rw[el]
 exact⟨r.go,r.stop,fun i H x H' h hi y=>by
  obtain⟨p,u,v,e,hn,hu,hv,e2⟩:=r.yld i H x H' h hi y
  exact⟨p,u,v,e,hn,by rw[List.getElem?_zip_eq_some];exact⟨hu,hv⟩,e2⟩⟩
end L2
namespace L2
open PySem PySem.Spec PyProof.Rows
inductive Each {α β:Type} (R:α→β→Prop):List α→List β→Prop
 |nil:Each R [] []
 |cons {a:α}{b:β}{as:List α}{bs:List β}:R a b→Each R as bs→Each R (a::as) (b::bs)
theorem Each.snoc {α β:Type}{R:α→β→Prop}{as:List α}{bs:List β}{a:α}{b:β} (h:Each R as bs) (e:R a b):Each R (as++[a]) (bs++[b]):=by
 induction h with
 |nil=>exact .cons e .nil
 |cons h1 _ ih=>exact .cons h1 ih
theorem Each.imp {α β:Type}{R S:α→β→Prop}{as:List α}{bs:List β} (f:∀a b,R a b→S a b) (h:Each R as bs):Each S as bs:=by
 induction h with
 |nil=>exact .nil
 |cons h1 _ ih=>exact .cons (f _ _ h1) ih
theorem Each.length {α β:Type}{R:α→β→Prop}{as:List α}{bs:List β} (h:Each R as bs):as.length=bs.length:=by
 induction h with
 |nil=>rfl
 |cons _ _ ih=>rw[List.length_cons,List.length_cons,ih]
theorem z1V {J:It}{n:Nat}{Ok:Hp→Prop}{xs:List V} (hx:n=xs.length) (R:z4O J n Ok (fun i H x H'=>H'=H∧xs[i]? =some x)) {fr:List (Option Nat)}{tt:TT}{te:TE}{σ:St}{H1:Hp}{Q:VK}{D:Addr} (hD:H1 D=none) (tst:V→Bool) (Rel:Hp→V→V→Prop)
 (hrel:∀H H' x u,(∀b o,b≠D→H b=some o→H' b=some o)→(∃acc,H D=some (.lst acc))→Rel H x u→Rel H' x u)
 (hok:∀H,Same H1 H→Ok H) (hn:n≤sizeLine)
 (ht:∀x∈xs,∀Hc,Same H1 Hc→∀S:Bool→Hp→Prop,(∀H',Same Hc H'→S (tst x) H')→tt ((z0z fr σ).set 0 (some x)) Hc S)
 (hv:∀x∈xs,tst x=true→∀Hc,Same H1 Hc→(∃acc,Hc D=some (.lst acc))→∀S:VK,(∀u H',Same Hc H'→Rel H' x u→S u H')→te ((z0z fr σ).set 0 (some x)) Hc S)
 (q:∀us H',Same H1 H'→H' D=some (.lst us)→Each (Rel H') (xs.filter tst) us→Q (.ref D) H'):
 z2s J (z8b 0) tt te Q D (z0z fr σ) (upd H1 D (.lst [])):=by
 subst hx
 refine z2G R (fun i acc σ' H'=>(∃o,σ'=(z0z fr σ).set 0 o∨σ'=z0z fr σ)∧Same H1 H'∧H' D=some (.lst acc)∧Each (Rel H') ((xs.take i).filter tst) acc) ⟨⟨none,.inr rfl⟩,z0d hD _,z0b,.nil⟩ ?_ hn ?_ ?_
 ·rintro i acc σ' H' hi ⟨_,hs,_,he⟩
  refine⟨hok _ hs,?_⟩
  rw[←he.length]
  refine q0q (q1f _ _) ?_
  rw[q0O];lia
 ·rintro N i x acc σ' H' H'' hi ⟨hσ,hs,hd,he⟩ ⟨rfl,hx⟩ n1 n2
  have hm:x∈xs:=q0s hx
  have es:σ'.set 0 (some x)=(z0z fr σ).set 0 (some x):=by
   obtain⟨o,e|e⟩:=hσ
   ·rw[e,q1x]
   ·rw[e]
  show tt (σ'.set 0 (some x)) _ _
  rw[es]
  have tk:xs.take (i+1)=xs.take i++[x]:=by rw[q0L,hx];rfl
  refine ht x hm _ hs _ fun H3 g3=>?_
  have hs3:=hs.trans g3
  have hd3:=g3 _ _ hd
  have he3:Each (Rel H3) ((xs.take i).filter tst) acc:=he.imp fun a b h=>hrel _ _ _ _ (fun c o _ e=>g3 _ _ e) ⟨_,hd⟩ h
  cases hb:tst x with
  |true=>
   refine z5y ?_
   refine hv x hm hb _ hs3 ⟨_,hd3⟩ _ fun u H4 g4 hr=>?_
   have hd4:=g4 _ _ hd3
   refine n1 _ _ _ hd4 ⟨⟨_,.inl rfl⟩,fun c o e=>?_,z0b,?_⟩
   ·rw[z0h (z0f e hD)];exact g4 _ _ (hs3 _ _ e)
   ·have up:∀a b,Rel H4 a b→Rel (upd H4 D (.lst (acc++[u]))) a b:=fun a b h=>hrel _ _ _ _ (fun c o hc e=>by rw[z0h hc];exact e) ⟨_,hd4⟩ h
    rw[tk,q0Y,q1b hb]
    exact ((he3.imp fun a b h=>up a b (hrel _ _ _ _ (fun c o _ e=>g4 _ _ e) ⟨_,hd3⟩ h)).snoc (up _ _ hr))
  |false=>
   refine z1X ?_
   refine n2 _ _ ⟨⟨_,.inl rfl⟩,hs3,hd3,?_⟩
   rw[tk,q0Y,q1c (by simp[hb])]
   simpa using he3
 ·rintro acc σ' H' ⟨_,hs,hd,he⟩
  rw[q0S] at he
  exact q acc H' hs hd he
theorem z5F {J:It}{n:Nat}{Ok:Hp→Prop}{xs:List V} (hx:n=xs.length) (R:z4O J n Ok (fun i H x H'=>H'=H∧xs[i]? =some x)) {fr:List (Option Nat)}{tt:TT}{te:TE}{σ:St}{H1:Hp}{Q:VK}{D:Addr} (hD:H1 D=none) (tst:V→Bool) (Rel:Hp→V→V→Prop)
 (hrel:∀H H' x u,(∀b o,b≠D→H b=some o→H' b=some o)→(∃acc,H D=some (.lst acc))→Rel H x u→Rel H' x u)
 (hok:∀H,Same H1 H→Ok H) (hn:n≤sizeLine)
 (ht:∀x∈xs,∀Hc,Same H1 Hc→∀S:Bool→Hp→Prop,(∀H',Same Hc H'→S (tst x) H')→tt ((z0z fr σ).set 0 (some x)) Hc S)
 (hv:∀x∈xs,tst x=true→∀Hc,Same H1 Hc→∀S:VK,(∀u H',Same Hc H'→Rel H' x u→S u H')→te ((z0z fr σ).set 0 (some x)) Hc S)
 (q:∀us H',Same H1 H'→H' D=some (.lst us)→Each (Rel H') (xs.filter tst) us→Q (.ref D) H'):
 z2s J (z8b 0) tt te Q D (z0z fr σ) (upd H1 D (.lst [])):=
 z1V hx R hD tst Rel hrel hok hn ht (fun x hx1 ht1 Hc g1 _=>hv x hx1 ht1 Hc g1) q
end L2
namespace L2
open PySem PySem.Spec PyProof.Rows
theorem z3t {α β:Type}{R:α→β→Prop}{l2 l2':List β} (h:l2'.Perm l2):∀{l1:List α},Paired R l1 l2→∃l1',l1'.Perm l1∧Paired R l1' l2':=by
 induction h with
 |nil=>intro l1 p;cases p;exact⟨[],.nil,.nil⟩
 |cons x _ ih=>
  intro l1 p
  cases p with
  |cons r t=>
   obtain⟨l,h1,h2⟩:=ih t
   exact⟨_::l,h1.cons _,.cons r h2⟩
 |swap x y l=>
  intro l1 p
  cases p with
  |cons r t=>
   cases t with
   |cons r2 t=>exact⟨_,.swap ..,.cons r2 (.cons r t)⟩
 |trans _ _ ih1 ih2=>
  intro l1 p
  obtain⟨l,a,b⟩:=ih2 p
  obtain⟨l',c,d⟩:=ih1 b
  exact⟨l',c.trans a,d⟩
abbrev KR (p:Int×V) (q:Int×Value):Prop:=p.1=q.1∧RelV p.2 q.2
theorem y1H:∀{xs:List V}{us:List Value} (kz:List Int),Vals xs us→Paired KR (kz.zip xs) (kz.zip us)
 |_,_,[],_=>by simp;exact .nil
 |_,_,_::_,.nil =>by simp;exact .nil
 |_,_,k::kz,.cons r t=> .cons ⟨rfl,r⟩ (y1H kz t)
theorem y1I:∀{qs:List (Int×V)}{ps:List (Int×Value)},Paired KR qs ps→Vals (qs.map Prod.snd) (ps.map Prod.snd)
 |_,_,.nil => .nil
 |_,_,.cons r t=> .cons r.2 (y1I t)
theorem y1J:∀{qs:List (Int×V)}{ps:List (Int×Value)},Paired KR qs ps→qs.map Prod.fst=ps.map Prod.fst
 |_,_,.nil =>rfl
 |_,_,.cons r t=>by rw[List.map_cons,List.map_cons,r.1,y1J t]
def EL (a:Addr) (e1:Nat):HO:= .ext fun h=>h.get? a=some (seqObj "list" #[] e1)
theorem EL.ok {P:Program}{w:World}{H:Hp}{h:Heap}{a:Addr}{e1:Nat} (e:h.get? a=some (seqObj "list" #[] e1)):ObjOk P w H h a (EL a e1):=⟨e,⟨_,e⟩,fun h1 h2 q k=>k _ q⟩
theorem z3D:∀{kz:List Int}{us:List Value},Vals (kz.map V.int) us→IntsAre us kz
 |[],_,.nil => .nil
 |k::kz,_,.cons r t=>by
  obtain⟨tk,rfl⟩:=r
  exact .cons k tk (z3D t)
section
variable {X:Cx}{pins:List (Addr×Obj)}{σ:St}{H:Hp}{s:Shared}{A:Around}{E:Value→Shared→Prop}{kS a:Addr}{e1:Nat}{xs:List V}{us:List Value}{kz:List Int}{W:PySem.Fin→Shared→Prop}
theorem z5b {keys:Array Value}{st:SortSt} (I:Inv X pins σ H s) (hK:H kS=some (.lst (kz.map V.int))) (hA:H a=some (EL a e1)) (hk:IntsAre keys.toList kz) (hlen:kz.length=us.length) (h64:us.length<64) (hV:Vals xs us)
 (hp:(arrOf st).Perm (keys.zip us.toArray)) (hs:SortedTo (arrOf st) (arrOf st).size) (hfl:failedOf st=none)
 (q:∀(qs:List (Int×V)) (s':Shared),Inv X pins σ (upd (upd H kS (.lst [])) a (.lst (qs.map Prod.snd))) s'→qs.Perm (kz.zip xs)→qs.Pairwise (fun x y=>x.1≤y.1)→W (.done (.ret .none)) s'):
 wpAny (model X.prog X.w) A (ksk_tail a false e1 (.ref kS) st) W E s:=by
 obtain⟨z,its,n,r,hl,ek⟩:=I.lstM hK
 have nA:s.heap.get? a=some (seqObj "list" #[] e1):=(I.hok a _ hA).1
 have hka:kS≠a:=fun z=>by rw[z,hA] at hK;cases hK
 have I1:=I.lset (its':=[]) (ys:=[]) (f:=fun _=> #[]) (t':=s.toks) hK ek rfl .nil (q0A _)
 have nA1:(s.heap.update kS (Obj.mapSeq fun _=>(#[]:Array Value))).get? a=some (seqObj "list" #[] e1):=(q0P s.heap _ hka).trans nA
 have hu1:(upd H kS (.lst [])) a=some (EL a e1):=by rw[z0h hka.symm];exact hA
 have hsz:keys.size=us.length:=by
  have:=hk.length
  rw[q0K] at this
  lia
 have hsz2:(arrOf st).size =us.length:=by rw[hp.size_eq,Array.size_zip,hsz,q0h,Nat.min_self]
 obtain⟨ps,hp2,ho,hw⟩:=ksk_out (b:=false) hk hp hs
 obtain⟨qs,hq1,hq2⟩:=z3t hp2 (y1H kz hV)
 have out:((arrOf st).map (·.2)).toList =ps.map Prod.snd:=ho
 obtain⟨c2,hc2⟩:∃c2,((s.heap.update kS (Obj.mapSeq fun _=>(#[]:Array Value))).update a (Obj.mapSeq fun _=>(arrOf st).map (·.2))).get? a=some (seqObj "list" ((arrOf st).map (·.2)) c2):=⟨_,get?_update_seq nA1 fun _=>(arrOf st).map (·.2)⟩
 have hle:qs.length=us.length:=by
  rw[hq1.length_eq,List.length_zip,hV.length];lia
 unfold ksk_tail
 dsimp only
 refine wpAny_bind (listUpdate_at ek rfl ?_ (by rw[q0h,←hl];exact z) (q0A _))
 refine wpAny_bind (wpAny_letGo ?_)
 refine wpAny_bind (seqEpoch_at nA1 rfl ?_)
 refine wpAny_bind (listUpdate_at nA1 rfl ?_ (q0A _) (q0q (Nat.le_of_eq (by show (Array.map _ (arrOf st)).size =us.length;rw[Array.size_map];exact hsz2)) (by rw[sizeLine_eq];lia)))
 rw[hfl]
 simp only[bne_self_eq_false,q0Z,if_false]
 refine wpAny_pure (q qs _ ?_ hq1 ?_)
 ·refine I1.write (x:=a) (e:=a) (t':=s.toks) (by rw[hu1];exact trivial) (.inl rfl) (fun b u hb hu=>(q0P _ _ (Ne.symm hb)).trans hu) ⟨_,hc2⟩ ?_
  refine⟨by rw[q0a,hle,sizeLine_eq];lia,ps.map Prod.snd,c2,y1I hq2,?_⟩
  rw[hc2,←out,Array.toArray_toList]
 ·have e1:=y1J hq2
  have hw':ps.Pairwise fun x y=>x.1≤y.1:=hw
  have w1:(ps.map Prod.fst).Pairwise (· ≤ ·):=by rw[q0M];exact hw'
  rw[←e1,q0M] at w1
  exact w1
theorem y0t {keys:Array Value} (I:Inv X pins σ H s) (hK:H kS=some (.lst (kz.map V.int))) (hA:H a=some (EL a e1)) (hk:IntsAre keys.toList kz) (hlen:kz.length=us.length) (h64:us.length<64) (hV:Vals xs us)
 (q:∀(qs:List (Int×V)) (s':Shared),Inv X pins σ (upd (upd H kS (.lst [])) a (.lst (qs.map Prod.snd))) s'→qs.Perm (kz.zip xs)→qs.Pairwise (fun x y=>x.1≤y.1)→W (.done (.ret .none)) s'):
 wpAny (model X.prog X.w) A (ksk_end a false us.toArray e1 (.ref kS) keys) W E s:=by
 have hsz:keys.size=us.length:=by
  have:=hk.length
  rw[q0K] at this
  lia
 have hzs:(keys.zip us.toArray).size =us.length:=by rw[Array.size_zip,hsz,q0h,Nat.min_self]
 unfold ksk_end
 dsimp only
 simp only[q0Z,if_false]
 by_cases h2:us.toArray.size<2
 ·rw[if_pos h2,if_pos h2]
  refine wpAny_bind (wpAny_pure ?_)
  rw[StateT.run_pure]
  refine wpAny_bind (wpAny_pure ?_)
  dsimp only
  refine z5b (st:=SortSt.mk' general' (keys.zip us.toArray) #[] 7 none) I hK hA hk hlen h64 hV (Array.Perm.refl _) (fun i j hij hj=>?_) rfl q
  have hj2:j<(keys.zip us.toArray).size :=hj
  rw[hzs] at hj2
  rw[q0h] at h2
  have:i=j:=by lia
  rw[this]
  exact Int.le_refl _
 ·rw[if_neg h2,if_neg h2]
  rw[q0h] at h2
  rw[ksk_kind hk (by rw[hsz];lia)]
  refine wpAny_bind (wpAny_pure ?_)
  refine wpAny_bind (wpAny_mono (wpS_sortRuns (a₀:=keys.zip us.toArray) (st:=SortSt.mk' oneType' (keys.zip us.toArray) #[] 7 none)
   (Q:=fun _ st'=>(arrOf st').Perm (keys.zip us.toArray)∧failedOf st'=none∧SortedTo (arrOf st') (keys.zip us.toArray).size)
   (ksk_intKeys hk) ⟨Array.Perm.refl _,rfl,rfl,rfl⟩ (by rw[hzs];lia) (by rw[hzs];exact h64) fun st' a1 a2 a3=>⟨a1,a2,a3⟩) ?_ fun _ _ e=>e)
  rintro⟨⟨⟩,st'⟩ s' ⟨rfl,hp,hf,hs⟩
  dsimp only
  exact z5b I hK hA hk hlen h64 hV hp (by rw[hp.size_eq];exact hs) hf q
theorem z8A {f:Value} (I:Inv X pins σ H s) (hK:H kS=some (.lst [])) (hA:H a=some (EL a e1)) (hlen:kz.length=us.length) (h64:us.length<64) (hV:Vals xs us)
 (turn:∀(i:Nat) (x:V) (u:Value) (k:Int),xs[i]? =some x→us[i]? =some u→kz[i]? =some k→∀(H1:Hp) (s1:Shared),Inv X pins σ H1 s1→(∀b o,b≠kS→H b=some o→H1 b=some o)→
  wpAny (model X.prog X.w) A (call f [u]) (fun v s2=>∃H2 t,Inv X pins σ H2 s2∧v= .int k t∧Same H1 H2) (fun _ _=>False) s1)
 (q:∀(H1:Hp) (qs:List (Int×V)) (s':Shared),(∀b o,b≠kS→H b=some o→H1 b=some o)→Inv X pins σ (upd (upd H1 kS (.lst [])) a (.lst (qs.map Prod.snd))) s'→qs.Perm (kz.zip xs)→qs.Pairwise (fun x y=>x.1≤y.1)→W (.done (.ret .none)) s'):
 wpAny (model X.prog X.w) A (ksk_rest a f false us.toArray e1 (.ref kS)) W E s:=by
 have hka:a≠kS:=fun z=>by rw[←z,hA] at hK;cases hK
 unfold ksk_rest
 refine wpAny_bind (wpAny_rule ?_)
 first
  |rw[List.forIn_toArray]
  |(rw[←Array.forIn_toList];simp only[List.toList_toArray])
  |rw[←Array.forIn_toList]
 refine wpAny_bind (ksk_fold (fun i s'=>∃H1,Inv X pins σ H1 s'∧(∀b o,b≠kS→H b=some o→H1 b=some o)∧H1 kS=some (.lst ((kz.take i).map V.int))) us 0 s ⟨H,I,fun _ _ _ e=>e,hK⟩ ?step ?done)
 case step=>
  rintro j u s' hu ⟨H1,I1,g1,k1⟩
  simp only[Nat.zero_add] at k1 ⊢
  have hj:j<us.length:=(q0E.mp hu).1
  obtain⟨k,hkj⟩:∃k,kz[j]? =some k:=⟨_,q0b (by lia)⟩
  obtain⟨x,hx⟩:∃x,xs[j]? =some x:=⟨_,q0b (by rw[hV.length];exact hj)⟩
  refine wpAny_bind (wpAny_attempt (wpAny_mono (turn j x u k hx hu hkj H1 s' I1 g1) (fun v s'' he=>?_) fun _ _ hF=>hF.elim))
  obtain⟨H2,t,I2,rfl,g2⟩:=he
  dsimp only
  have k2:=g2 _ _ k1
  obtain⟨z,its,n,r,hl,ek⟩:=I2.lstM k2
  have ek2:kz.take (j+1)=kz.take j++[k]:=by rw[q0L,hkj];rfl
  have hl2:its.length≤us.length:=by rw[←hl,q0a,q0O];lia
  refine wpAny_bind (listUpdate_at ek rfl ?_ (by rw[q0h,sizeLine_eq];lia) (by rw[Array.size_push,q0h,sizeLine_eq];lia))
  refine wpAny_pure ⟨rfl,upd H2 kS (.lst ((kz.take (j+1)).map V.int)),?_,fun b o hb e=>?_,z0b⟩
  ·refine I2.lset (its':=its++[.int k t]) (f:=(·.push (.int k t))) (t':=_) k2 ek (by simp) ?_ ?_
   ·rw[ek2,q0m]
    exact r.append (.cons ⟨t,rfl⟩ .nil)
   ·rw[q0a,q0O,sizeLine_eq];lia
  ·rw[z0h hb];exact g2 _ _ (g1 b o hb e)
 case done=>
  rintro s' ⟨H1,I1,g1,k1⟩
  have e3:kz.take (0+us.length)=kz:=List.take_of_length_le (by lia)
  rw[e3] at k1
  obtain⟨z,its,n,r,hl,ek⟩:=I1.lstM k1
  try dsimp only
  refine wpAny_bind (listItems_at ek rfl ?_)
  exact y0t I1 k1 (g1 _ _ hka hA) (by rw[q1k];exact z3D r) hlen h64 hV fun qs s2 I2 p1 p2=>q H1 qs s2 g1 I2 p1 p2
end
section
variable {X:Cx}{pins:List (Addr×Obj)}{σ:St}{H:Hp}{s:Shared}{k:Nat}{g l:Addr}{gd:FuncData}{ps:List Str}{sp:Sp}{xs:List V}{kz:List Int}
theorem z8K {Q:VK} (Fn:FnOk X.prog X.w X.K X.mg X.base CX0 k g gd ps sp) (hr:Room (k+2) X.A) (hb:Binds X.K gd ps []) (I:Inv X pins σ H s) (hl:H l=some (.lst xs)) (hk:kz.length=xs.length) (h64:xs.length<64)
 (turn:∀(i:Nat) (x:V) (n:Int),xs[i]? =some x→kz[i]? =some n→∀H1,Same H H1→sp [x] H1 (fun v H2=>v= .int n∧Same H1 H2) E0)
 (q:∀(D:Addr) (qs:List (Int×V)) (H':Hp),H D=none→Same H H'→qs.Perm (kz.zip xs)→qs.Pairwise (fun x y=>x.1≤y.1)→H' D=some (.lst (qs.map Prod.snd))→Q (.ref D) H'):
 wpAny (model X.prog X.w) X.A (call (.builtin "sorted") [.ref l] [(Str.ofString "key",.ref g)]) (EP X pins σ Q) X.xe s:=by
 obtain⟨z,us,n,hV,hlen,el⟩:=I.lstM hl
 refine call_function_entry_kw kind_sorted plain_sorted entry_sorted (ksk_s1 _ _) ?_
 unfold Builtin.«sorted»
 refine wpAny_bind (m:=checkCount "sorted" 1 1 _) (wpAny_pure ?_)
 refine wpAny_bind (collect_list (vs:=us) ⟨_,el,rfl,_,rfl⟩ ?_ (by rw[←hlen];exact z))
 refine wpAny_bind (wpAny_newList ?_ (by rw[←hlen];exact z))
 have hsz:((s.heap.push (seqObj "list" #[] 0)).update s.heap.objs.size (Obj.mapSeq (· ++us.toArray))).objs.size =s.heap.objs.size+1:=by
  rw[Heap.size_update,size_push']
 have hoL:(((s.heap.push (seqObj "list" #[] 0)).update s.heap.objs.size (Obj.mapSeq (· ++us.toArray))).push (seqObj "list" us.toArray 0)).get? (s.heap.objs.size+1)=some (seqObj "list" us.toArray 0):=by
  rw[←hsz];exact q0l _ rfl
 have keep:∀b o,s.heap.get? b=some o→(((s.heap.push (seqObj "list" #[] 0)).update s.heap.objs.size (Obj.mapSeq (· ++us.toArray))).push (seqObj "list" us.toArray 0)).get? b=some o:=fun b o e=>by
  have hlt:b<s.heap.objs.size:=q0p e
  rw[Heap.get?_push_ne _ _ _ (by rw[hsz];exact q0u (q0U hlt)),Heap.get?_update_ne _ _ _ _ (q0u hlt),Heap.get?_push_ne _ _ _ (q0u hlt)]
  exact e
 have fr1:H (s.heap.objs.size+1)=none:=I.hok.fresh (q1r _)
 have I1:=I.laid (a:=s.heap.objs.size+1) (o:= .lst xs) (t':=s.toks) keep (q1r _) ⟨z,us,0,hV,hoL⟩
 show wpAny _ _ _ _ _ {s with heap:=((s.heap.push (seqObj "list" #[] 0)).update s.heap.objs.size (Obj.mapSeq (· ++us.toArray))).push (seqObj "list" us.toArray 0)}
 rw[hsz]
 generalize hD:s.heap.objs.size+1=D at*
 generalize hh1:((s.heap.push (seqObj "list" #[] 0)).update s.heap.objs.size (Obj.mapSeq (· ++us.toArray))).push (seqObj "list" us.toArray 0)=h1 at*
 refine wpAny_bind (wpAny_holding (wpAny_call_entry_kw slot_list_sort ⟨_,hoL,rfl⟩ entry_list_sort ?body (ksk_l1 _ _)))
 case body=>
  show wpAny (model X.prog X.w) X.A.in1.in1 (Builtin.«list.sort» ⟨[.ref D],[(Str.ofString "key",.ref g)]⟩) _ _ _
  rw[ksk_t1]
  unfold ksk_tree
  refine wpAny_bind (listItems_at hoL rfl ?_)
  refine wpAny_bind (listUpdate_at hoL rfl ?_ (by rw[q0h,←hlen];exact z) (q0A _))
  obtain⟨e1,ho1⟩:∃e1,(h1.update D (Obj.mapSeq fun _=>(#[]:Array Value))).get? D=some (seqObj "list" #[] e1):=⟨_,get?_update_seq hoL fun _=> #[]⟩
  have I2:=I1.write (x:=D) (e:=D) (o:=EL D e1) (h':=h1.update D (Obj.mapSeq fun _=>(#[]:Array Value))) (t':=s.toks) (by rw[z0b];exact trivial) (.inl rfl) (fun b u hb hu=>(q0P _ _ (Ne.symm hb)).trans hu) ⟨_,ho1⟩ (EL.ok ho1)
  rw[z3d] at I2
  generalize h1.update D (Obj.mapSeq fun _=>(#[]:Array Value))=h2 at*
  refine wpAny_bind (seqEpoch_at ho1 rfl ?_)
  refine wpAny_bind (wpAny_newTuple ?_ (by rw[q1k,←hlen];exact z))
  refine wpAny_bind (wpAny_newList ?_ (q0A _))
  refine wpAny_holding ?_
  have I3:=I2.kept (h':=h2.push (seqObj "tuple" us.toArray 0)) (t':=s.toks) (fun b u e=>q0d _ e)
  have I4:=I3.laid (a:=(h2.push (seqObj "tuple" us.toArray 0)).objs.size) (o:= .lst []) (h':=(h2.push (seqObj "tuple" us.toArray 0)).push (seqObj "list" #[] 0)) (t':=s.toks) (fun b u e=>q0d _ e) (q0k _) ⟨q0A _,[],0,.nil,q0l _ rfl⟩
  have fr2:upd H D (EL D e1) (h2.push (seqObj "tuple" us.toArray 0)).objs.size =none:=I3.hok.fresh (q0k _)
  generalize (h2.push (seqObj "tuple" us.toArray 0)).objs.size =kS at*
  generalize hh4:(h2.push (seqObj "tuple" us.toArray 0)).push (seqObj "list" #[] 0)=h4 at*
  have hDk:D≠kS:=fun e=>by rw[←e,z0b] at fr2;cases fr2
  have hHk:H kS=none:=by rw[z0h hDk.symm] at fr2;exact fr2
  have key:∀H1:Hp,(∀b o,b≠kS→upd (upd H D (EL D e1)) kS (.lst []) b=some o→H1 b=some o)→Same H H1:=fun H1 gg b o e=>gg b o (z0f e hHk) (by rw[z0h (z0f e hHk),z0h (z0f e fr1)];exact e)
  refine z8A (kS:=kS) (a:=D) (e1:=e1) (kz:=kz) (xs:=xs) I4 z0b (by rw[z0h hDk,z0b]) (by rw[hk,hlen]) (by rw[←hlen];exact h64) hV (fun i x u n hx hu hn H1 s1 J1 g1=>?_) fun H1 qs s2 g1 J2 p1 p2=>⟨_,rfl,?_⟩
  ·have hq:=turn i x n hx hn H1 (key H1 g1)
   obtain⟨u',hu',rxu⟩:=hV.get hx
   rw[hu] at hu'
   cases hu'
   have hll:([u]++[]:List Value).length =ps.length:=by
        have:=Fn.len _ _ _ _ hq
        rw[←this];rfl
   have hbb:=hb s1 [u] J1.kIn hll
   rw[q1n] at hbb
   refine wpAny_call (codeAny_mono (Fn.run X.A.in1.in1 X.stack s1 H1 ⟨[u],[]⟩ [u] [x] _ E0 hr.in1.in1 J1.env0.in1.in1 hbb (.cons rxu .nil) hq) fun rr s' hq'=>?_)
   cases rr with
   |error ev=>exact hq'.elim
   |ok fl=>
    cases fl with
    |ret w'=>
     obtain⟨v,H2,J2,rv,ev,g2⟩:=J1.after hq'
     subst ev
     obtain⟨t,rfl⟩:=rv
     exact⟨H2,t,J2,rfl,g2⟩
    |next=>exact False.elim hq'
    |brk=>exact False.elim hq'
    |cont=>exact False.elim hq'
  ·refine wpAny_pure ⟨_,rfl,?_⟩
   refine⟨.ref D,_,J2,rfl,q D qs _ fr1 (fun b o e=>?_) p1 p2 z0b⟩
   rw[z0h (z0f e fr1),z0h (z0f e hHk)]
   exact key H1 g1 b o e
def y1z (sp:Sp):V→Hp→VK→Prop:=fun x H Q=>∃(l:Addr) (xs:List V) (kz:List Int),x= .ref l∧H l=some (.lst xs)∧kz.length=xs.length∧xs.length<64∧(∀(i:Nat) (x:V) (n:Int),xs[i]? =some x→kz[i]? =some n→∀H1,Same H H1→sp [x] H1 (fun v H2=>v= .int n∧Same H1 H2) E0)∧
 ∀(D:Addr) (qs:List (Int×V)) (H':Hp),H D=none→Same H H'→qs.Perm (kz.zip xs)→qs.Pairwise (fun x y=>x.1≤y.1)→H' D=some (.lst (qs.map Prod.snd))→Q (.ref D) H'
def y2S (sp:Sp) (ta:TE):TE:=fun σ H Q=>ta σ H fun x H1=>y1z sp x H1 Q
def oneQ (sp:Sp) (Q:VK):List V→Hp→Prop:=fun vs H=>match vs with
 |[x]=>y1z sp x H Q
 |_=>False
theorem y0M {f:Str}{p p2 kp pos:Pos}{e:Expr}{te:TE} (c:Cal X.prog X.w X.K X.mg X.base k f ps sp) (hr:Room (k+2) X.A) (hg:Gl X "sorted") (hm:X.mg "sorted"=none) (hgf:Gl X f) (ha:PE X e te) (hd:(f==("__debug__":Str))=false:=by decide)
 (he:starEach [e] X.env=(false,eval e X.env)::starEach [] X.env:=by rfl):PE X (.Call (.Name "sorted" p) [e] [⟨some (Str.ofString "key"),.Name f p2,kp⟩] pos) (y2S sp te):=by
 intro pins s σ H Q I h
 obtain⟨g,gd,F,b,kk,m⟩:=c.ex
 refine wpAny_Call_Name_kw (z2N I hg hm boot_sorted ?_)
 refine callWith_kw (thn (z0a ha z0e he pos pins s σ H (oneQ sp Q) I h) fun us s1 ⟨vs,H1,I1,r1,q1⟩=>?_) (by rw[he];rfl) (by rw[he];rfl)
 match vs,q1 with
 |[x],⟨l,xs,kz,e1,e2,e3,e4,e5,e6⟩=>
  subst e1
  have PKf:PK X [⟨some (Str.ofString "key"),.Name f p2,kp⟩] (y0r (tC (.ref g)) tNil):=z9a (y2n hgf m rfl hd) y1C
  refine thn (PKf pos pins s1 σ H1 (fun zs H2=>zs=[.ref g]∧H2=H1) I1 ⟨rfl,rfl⟩) fun ws s2 ⟨zs,H2,I2,rz,ez,eh⟩=>?_
  subst ez eh
  obtain⟨u,rfl,ru⟩:=r1.one
  obtain⟨w',rfl,rw'⟩:=rz.one
  cases ru
  cases rw'
  exact z8K F hr b I2 e2 e3 e4 e5 e6
end
end L2
namespace L2
open PySem PySem.Spec PyProof.Rows PySem.MeetsSeq
section
variable {X:Cx}{K:PySem.W.Frag}
end
end L2
namespace L2
open PySem PySem.Spec PyProof.Rows
section
variable {X:Cx}{tg iter elt:Expr}{ifs:List Expr}{scope:Scope}{pos:Pos}{cl:List (Str×Addr)}{Nc:List Str}{fr:List (Option Nat)}{wi:TI}{g:TG}{tt:TT}{te:TE}
end
end L2
namespace L2
open PySem PySem.Spec PyProof.Rows
section
variable {X:Cx}{K:PySem.W.Frag}
def cSum (K:PySem.W.Frag):List V→Hp→VK→Prop:=fun xs H Q=>∃(p:Addr) (ns:List Int),xs=[.ref p]∧SqL K H p (ns.map V.int)∧Q (.int ns.sum) H
theorem z5G (hK:X.K=K) (hc:X.calm=true):z1J X (.builtin "sum") (cSum K):=by
 subst hK
 intro pins s σ H xs us Q I r h
 obtain⟨p,ns,rfl,hq,q⟩:=h
 obtain⟨u,rfl,rx⟩:=r.one
 cases rx
 obtain⟨its,r',pl,hz⟩:=I.list hq
 have hi:=z3D r'
 have hl:=pl.isList
 have hn:numsOf its.toArray.toList=ns:=by rw[show its.toArray.toList=its from rfl,hi.numsOf]
 obtain⟨zs,e⟩:=hi.allInts.items
 rw[e] at hl hn
 rw[nums_intItems] at hn
 refine sum_intListG (I.ok.hd hc) hl fun h' tk t' hk=>?_
 refine⟨.int ns.sum,H,I.kept (t':=tk) hk,⟨t',?_⟩,q⟩
 rw[preSum_eq,List.take_of_length_le (by simp)]
 rw[←hn]
end
end L2
namespace L2
open PySem PySem.Spec PyProof.Rows
section
variable {X:Cx}
end
end L2
namespace L2
open PySem PySem.Spec PyProof.Rows
section
variable {κ:Type} [DecidableEq κ]
def z8o (kvs:List (κ×V)) (k:κ):Option V:=(kvs.find? fun kv=>decide (kv.1=k)).map (·.2)
def z7F (kvs:List (κ×V)) (k:κ) (v:V):List (κ×V):=
 if (kvs.any fun kv=>decide (kv.1=k))=true then kvs.map (fun kv=>if kv.1=k then (kv.1,v) else kv) else kvs++[(k,v)]
theorem z2T {p:κ×V}{r:List (κ×V)}{k:κ} (e:p.1=k):z8o (p::r) k=some p.2:=by simp[z8o,List.find?_cons,e]
theorem z2U {p:κ×V}{r:List (κ×V)}{k:κ} (e:¬p.1=k):z8o (p::r) k=z8o r k:=by simp[z8o,List.find?_cons,e]
theorem z6u (k:κ):∀kvs:List (κ×V),(kvs.any fun kv=>decide (kv.1=k))=(z8o kvs k).isSome
 |[]=>rfl
 |p::r=>by
  rw[List.any_cons]
  by_cases e:p.1=k
  ·simp only[z2T e,decide_eq_true e,Bool.true_or,Option.isSome_some]
  ·rw[z2U e,decide_eq_false e,Bool.false_or];exact z6u k r
theorem z3z (kvs:List (κ×V)) (k:κ) (v:V):(z7F kvs k v).length ≤kvs.length+1:=by
 unfold z7F
 split
 ·rw[q0a];lia
 ·rw[q0x,q0D,List.length_nil];lia
theorem RelO.isSome_eq {o:Option V}{u:Option Value} (r:RelO o u):o.isSome=u.isSome:=by
 cases o with
 |none=>cases u with
  |none=>rfl
  |some _=>exact (show False from r).elim
 |some _=>cases u with
  |none=>exact (show False from r).elim
  |some _=>rfl
theorem KV.val {kvs:List (κ×V)}{vs:List (κ×Value)} (r:KV kvs vs) (k:κ):RelO (z8o kvs k) (valueAt vs k):=by
 unfold KV at r
 induction r with
 |nil=>exact True.intro
 | @cons p q ps qs h t ih=>
   obtain⟨h1,h2⟩:=h
   by_cases e:p.1=k
   ·have e':q.1=k:=h1.symm.trans e
    have b:valueAt (q::qs) k=some q.2:=by simp[valueAt,List.find?_cons,e']
    rw[z2T e,b];exact h2
   ·have e':¬q.1=k:=fun z=>e (h1.trans z)
    have b:valueAt (q::qs) k=valueAt qs k:=by simp[valueAt,List.find?_cons,e']
    rw[z2U e,b];exact ih
theorem KV.any {kvs:List (κ×V)}{vs:List (κ×Value)} (r:KV kvs vs) (k:κ):(kvs.any fun kv=>decide (kv.1=k))=vs.any fun kv=>decide (kv.1=k):=by
 unfold KV at r
 induction r with
 |nil=>rfl
 |cons h t ih=>rw[List.any_cons,List.any_cons,ih,h.1]
theorem KV.repl {kvs:List (κ×V)}{vs:List (κ×Value)} (r:KV kvs vs) (k:κ) {y:V}{u:Value} (ry:RelV y u):
 KV (kvs.map fun kv=>if kv.1=k then (kv.1,y) else kv) (vs.map fun kv=>if kv.1=k then (kv.1,u) else kv):=by
 unfold KV at r ⊢
 induction r with
 |nil=>exact .nil
 | @cons p q ps qs h t ih=>
   rw[q0t,q0t]
   refine .cons ?_ ih
   obtain⟨h1,h2⟩:=h
   by_cases e:p.1=k
   ·rw[if_pos e,if_pos (h1.symm.trans e)];exact⟨h1,ry⟩
   ·rw[if_neg e,if_neg (fun z=>e (h1.trans z))];exact⟨h1,h2⟩
theorem KV.put {kvs:List (κ×V)}{vs:List (κ×Value)} (r:KV kvs vs) (k:κ) {y:V}{u:Value} (ry:RelV y u):KV (z7F kvs k y) (stored vs k u):=by
 unfold z7F stored
 rw[r.any k]
 by_cases e:(vs.any fun kv=>decide (kv.1=k))=true
 ·rw[if_pos e,if_pos e];exact r.repl k ry
 ·rw[if_neg e,if_neg e];exact Paired.snoc r ⟨rfl,ry⟩
theorem KV.length {kvs:List (κ×V)}{vs:List (κ×Value)} (r:KV kvs vs):kvs.length=vs.length:=Paired.length r
end
theorem y2y {P:Program}{w:World}{k:Key}{u:Value} (r:RelV (kV k) u):(z0K P w).is k u=true:=by
 cases k with
 |inl i=>obtain⟨t,e⟩:=(show ∃t,u=Value.int i t from r);subst e;exact z6j P w i t
 |inr x=>obtain⟨t,e⟩:=(show ∃t,u=Value.str x t from r);subst e;exact z6i P w x t
theorem z5w {P:Program}{w:World}:∀{ks:List Key}{us:List Value},Vals (ks.map kV) us→ItemsAre (z0K P w) ks us
 |[],_,r=>by rw[List.map_nil] at r;cases r;exact .nil
 |k::ks,_,r=>by
  rw[q0t] at r
  cases r with
  |cons h t=>exact .cons (y2y h) (z5w t)
abbrev KT (H:Hp):List (List Key×V)→List (List Key×Addr×Value)→Prop:=Paired fun p q=>p.1=q.1∧H q.2.1=some (.tup (p.1.map kV))∧RelV p.2 q.2.2
theorem KT.val {H:Hp}{kvs:List (List Key×V)}{xs:List (List Key×Addr×Value)} (r:KT H kvs xs) (k:List Key):RelO (z8o kvs k) ((atKey xs k).map (·.2)):=by
 induction r with
 |nil=>exact True.intro
 | @cons p q ps qs h t ih=>
   obtain⟨h1,_,h2⟩:=h
   by_cases e:p.1=k
   ·have e':q.1=k:=h1.symm.trans e
    have b:atKey (q::qs) k=some q.2:=by simp[atKey,List.find?_cons,e']
    rw[z2T e,b];exact h2
   ·have e':¬q.1=k:=fun z=>e (h1.trans z)
    have b:atKey (q::qs) k=atKey qs k:=by simp[atKey,List.find?_cons,e']
    rw[z2U e,b];exact ih
theorem KT.repl {H:Hp}{kvs:List (List Key×V)}{xs:List (List Key×Addr×Value)} (r:KT H kvs xs) (k:List Key) {y:V}{u:Value} (ry:RelV y u):
 KT H (kvs.map fun kv=>if kv.1=k then (kv.1,y) else kv) (xs.map (putAt k u)):=by
 induction r with
 |nil=>exact .nil
 | @cons p q ps qs h t ih=>
   rw[q0t,q0t]
   refine .cons ?_ ih
   obtain⟨h1,h2,h3⟩:=h
   unfold putAt
   by_cases e:p.1=k
   ·rw[if_pos e,if_pos (h1.symm.trans e)];exact⟨h1,h2,ry⟩
   ·rw[if_neg e,if_neg (fun z=>e (h1.trans z))];exact⟨h1,h2,h3⟩
theorem KT.put {H:Hp}{kvs:List (List Key×V)}{xs:List (List Key×Addr×Value)} (r:KT H kvs xs) (k:List Key) {b:Addr}{y:V}{u:Value} (hb:H b=some (.tup (k.map kV))) (ry:RelV y u):
 KT H (z7F kvs k y) (storedH xs k b u):=by
 have e:(kvs.any fun kv=>decide (kv.1=k))=(atKey xs k).isSome :=by
  rw[z6u,(r.val k).isSome_eq,Option.isSome_map]
 unfold z7F storedH
 rw[e]
 by_cases q:(atKey xs k).isSome =true
 ·rw[if_pos q,if_pos q];exact r.repl k ry
 ·rw[if_neg q,if_neg q];exact Paired.snoc r ⟨rfl,hb,ry⟩
theorem KT.keeps {H H':Hp}{kvs:List (List Key×V)}{xs:List (List Key×Addr×Value)} (r:KT H kvs xs) (ht:∀b ys,H b=some (.tup ys)→H' b=some (.tup ys)):KT H' kvs xs:=
 Paired.mapP r fun _ _ z=>⟨z.1,ht _ _ z.2.1,z.2.2⟩
section
variable {P:Program}{w:World}{H:Hp}{h:Heap}{a:Addr}
theorem y3g {u:HO} (ok:HOk P w H h) (e:Rd H a u):ObjOk P w H h a u:=e.ok ok
theorem y2H {kvs:List (Key×V)} (ok:HOk P w H h) (e:Rd H a (.dK kvs)):kvs.length≤sizeLine∧(a==sysModules)=false∧∃vs,KV kvs vs∧h.DictOf (z0K P w) a vs:=
 show ObjOk P w H h a (.dK kvs) from y3g ok e
theorem dk_of {kvs:List (Key×V)} (ok:HOk P w H h) (e:H a=some (.dK kvs)):kvs.length≤sizeLine∧(a==sysModules)=false∧∃vs,KV kvs vs∧h.DictOf (z0K P w) a vs:=y2H ok (.inl e)
theorem z6R {ks:List Key} (ok:HOk P w H h) (e:H a=some (.tup (ks.map kV))):(tupleKind (z0K P w)).is h ks a:=by
 obtain⟨_,its,r,o,h1,h2,n,h3⟩:=(show ObjOk P w H h a (.tup (ks.map kV)) from ok a _ e)
 exact⟨o,its.toArray,n,h1,h2,h3,by simpa using z5w r⟩
theorem y2E {kvs:List (List Key×V)} (ok:HOk P w H h) (e:Rd H a (.dT kvs)):kvs.length≤sizeLine∧(a==sysModules)=false∧
 ∃xs,KT H kvs xs∧h.DictOfH (tupleKind (z0K P w)) a xs:=by
 obtain⟨z,y,xs,r,o,es,ep,h1,h2,h3,h4,h5⟩:=(show ObjOk P w H h a (.dT kvs) from y3g ok e)
 refine⟨z,y,xs,r,o,es,ep,h1,h2,h3,h4,fun x hx=>?_,h5⟩
 have all:∀{l:List (List Key×V)}{m:List (List Key×Addr×Value)},KT H l m→∀x∈m,(tupleKind (z0K P w)).is h x.1 x.2.1:=by
  intro l m q
  induction q with
  |nil=>intro x hx;exact nomatch hx
  | @cons p q ps qs hq t ih=>
    intro x hx
    rcases q0o.mp hx with e|hx
    ·subst e
     exact z6R ok (by rw[←hq.1];exact hq.2.1)
    ·exact ih x hx
 exact all r x hx
theorem dt_of {kvs:List (List Key×V)} (ok:HOk P w H h) (e:H a=some (.dT kvs)):kvs.length≤sizeLine∧(a==sysModules)=false∧
 ∃xs,KT H kvs xs∧h.DictOfH (tupleKind (z0K P w)) a xs:=y2E ok (.inl e)
end
def DGet (H:Hp) (a:Addr) (y:V) (r:Option V):Prop:=
 (∃kvs k,Rd H a (.dK kvs)∧y=kV k∧r=z8o kvs k)∨∃kvs k b,Rd H a (.dT kvs)∧y= .ref b∧H b=some (.tup (k.map kV))∧r=z8o kvs k
def DPut (H:Hp) (a:Addr) (y v:V) (H':Hp):Prop:=
 (∃kvs k,H a=some (.dK kvs)∧y=kV k∧kvs.length<sizeLine∧H'=upd H a (.dK (z7F kvs k v)))∨
 ∃kvs k b,H a=some (.dT kvs)∧y= .ref b∧H b=some (.tup (k.map kV))∧kvs.length<sizeLine∧H'=upd H a (.dT (z7F kvs k v))
theorem DPut.t {H:Hp}{a b:Addr}{kvs:List (List Key×V)}{k:List Key}{v:V} (e:H a=some (.dT kvs)) (eb:H b=some (.tup (k.map kV))) (hl:kvs.length<sizeLine):
 DPut H a (.ref b) v (upd H a (.dT (z7F kvs k v))):= .inr ⟨kvs,k,b,e,rfl,eb,hl,rfl⟩
section
variable {X:Cx}{pins:List (Addr×Obj)}{σ:St}{H:Hp}{s:Shared}{a:Addr}{y v:V}{u r:Value}{o:Option V}{A:Around}{E:Value→Shared→Prop}
theorem Inv.big (I:Inv X pins σ H s):sysModules<s.heap.objs.size:=by
 have h:mainGlobals<s.heap.objs.size:=(I.mod.glob.keeps I.bk).lt
 exact Nat.lt_trans (by decide) h
theorem y0a {Q:Value→Shared→Prop} (hu:A.units+1<cLine) (I:Inv X pins σ H s) (g:DGet H a y (some v)) (ry:RelV y u) (h:∀w' s',Inv X pins σ H s'→RelV v w'→Q w' s'):
 wpAny (model X.prog X.w) A (getItem (.ref a) u) Q E s:=by
 rcases g with⟨kvs,k,e,ey,l⟩|⟨kvs,k,b,e,ey,eb,l⟩
 ·subst ey
  obtain⟨z,hd,vs,rel,dd⟩:=y2H I.hok e
  obtain⟨w',hw,rw'⟩:=RelO.some_of (v:=v) (o:=valueAt vs k) (by rw[l];exact rel.val k)
  exact wpAny_getItem_of (y2y ry) dd.mapOf hw (h w' _ (I.tok _) rw')
 ·subst ey
  cases (show u=Value.ref b from ry)
  obtain⟨z,hd,xs,rel,dd⟩:=y2E I.hok e
  obtain⟨w',hw,rw'⟩:=RelO.some_of (v:=v) (o:=(atKey xs k).map (·.2)) (by rw[l];exact rel.val k)
  obtain⟨p,hp,hp2⟩:=q0v.mp hw
  refine wpAny_getItem_heap (tupleKind_room_in1 hu) (z6R I.hok eb) dd hp ?_
  rw[hp2]
  exact h w' _ (I.tok _) rw'
theorem z2F {h':Heap}{t':Nat}{ob:HO} (I:Inv X pins σ H s) (mu:Mut (H a)) (hs:Heap.SameBut a s.heap h') (he:∃q,h'.get? a=some q) (new:ObjOk X.prog X.w (upd H a ob) h' a ob):
 Inv X pins σ (upd H a ob) {s with heap:=h',toks:=t'}:=
 I.write (x:=a) (e:=a) mu (.inl rfl) (fun b q hb z=>(hs.2 b hb).trans z) he new
theorem y3Z {P:Program}{w:World}{H':Hp}{h':Heap}{kvs:List (Key×V)}{vs:List (Key×Value)} (z:kvs.length≤sizeLine) (hd:(a==sysModules)=false) (rel:KV kvs vs) (dd:h'.DictOf (z0K P w) a vs):
 ObjOk P w H' h' a (.dK kvs):=⟨z,hd,vs,rel,dd⟩
theorem z9Z {H':Hp}{Q:Unit→Shared→Prop} (hu:A.units+1<cLine) (I:Inv X pins σ H s) (g:DPut H a y v H') (ry:RelV y u) (rv:RelV v r) (h:∀s',Inv X pins σ H' s'→Q () s'):
 wpAny (model X.prog X.w) A (setItem (.ref a) u r) Q E s:=by
 rcases g with⟨kvs,k,e,ey,l,eH⟩|⟨kvs,k,b,e,ey,eb,l,eH⟩
 ·subst ey eH
  obtain⟨z,hd,vs,rel,dd⟩:=dk_of I.hok e
  have hz:vs.length≤sizeLine:=by rw[←rel.length];exact z
  have hl:(z7F kvs k v).length ≤sizeLine:=by have:=z3z kvs k v;lia
  refine wpAny_setItem_pairs (hsz:=hz) (y2y ry) dd fun h' dd' hs=>h _ ?_
  have he:∃q,h'.get? a=some q:=let ⟨q,_,_,hq,_⟩:=dd';⟨q,hq⟩
  exact z2F I (by rw[e];exact True.intro) hs he (y3Z hl hd (rel.put k rv) dd')
 ·subst ey eH
  cases (show u=Value.ref b from ry)
  obtain⟨z,hd,xs,rel,dd⟩:=dt_of I.hok e
  have hz:xs.length≤sizeLine:=by rw[←Paired.length rel];exact z
  have hl:(z7F kvs k v).length ≤sizeLine:=by have:=z3z kvs k v;lia
  refine wpAny_setItem_heap (hsz:=hz) (tupleKind_room_in1 hu) (z6R I.hok eb) dd fun h' dd' hs=>h _ ?_
  obtain⟨q,es,ep,hq,h2,h3,h4,_,h5⟩:=dd'
  refine z2F I (by rw[e];exact True.intro) hs ⟨q,hq⟩ ⟨hl,hd,_,(rel.put k eb rv).keeps fun c ys ec=>?_,q,es,ep,hq,h2,h3,h4,h5⟩
  rw[z0h (ne_of ec e (fun z=>nomatch z))]
  exact ec
end
section
variable {X:Cx}{pins:List (Addr×Obj)}{σ:St}{H:Hp}{s:Shared}{a:Addr}{kvs:List (Key×V)}{k:Key}{u:Value}{A:Around}{E:Value→Shared→Prop}
end
def NoSl (i:Expr):Prop:=∀ov iv,subscripted i false ov iv=operate [ov,iv] (getItem ov iv)
theorem y2d {prog:Program}{w:World}{A:Around}{E:Value→Shared→Prop}{s:Shared}{env:Env}{value slice:Expr}{pos:Pos}{T id:String}{Q:Value→Shared→Prop}
 (hl:typeLookup (.type T) "__getitem__"=pure (some (.builtin id))) (hs:NoSl slice)
 (h:wpAny (model prog w) A (eval value env) (fun o s₁=>wpAny (model prog w) A (eval slice env) (fun i s₂=>s₂.TypeIs o T∧wpAny (model prog w) A (getItem o i) Q E s₂) E s₁) E s):
 wpAny (model prog w) A (eval (.Subscript value slice pos) env) Q E s:=by
 refine Subscript_ (wpAny_mono h (fun o s₁ h₁=>wpAny_mono h₁ (fun i s₂ h₂=>?_) fun _ _ x=>x) fun _ _ x=>x)
 obtain⟨hT,h₂⟩:=h₂
 unfold subscriptTail
 refine wpAny_bind ?_
 rw[getitemInPython_of_ne hT.not_modules]
 refine wpAny_bind (wpAny_specialOf hT hl ?_)
 have fin:wpAny (model prog w) A (subscripted slice false o i) (fun r s₃=>wpAny (model prog w) A (letTemporaryGo value o r>>= fun _=>pure r) Q E s₃) E s₂:=by
  rw[hs o i]
  exact wpAny_operating (wpAny_mono h₂ (fun r s₃ h₃=>wpAny_bind (wpAny_letTemporaryGo (wpAny_pure h₃))) fun _ _ x=>x)
 first
  |exact wpAny_pure (wpAny_bind fin)
  |exact wpAny_bind (wpAny_pure (wpAny_bind fin))
  |exact wpAny_bind fin
theorem z6q {X:Cx}{pins:List (Addr×Obj)}{σ:St}{H:Hp}{s:Shared}{a:Addr}{y:V}{o:Option V} (I:Inv X pins σ H s) (g:DGet H a y o):s.TypeIs (.ref a) "dict":=by
 rcases g with⟨kvs,k,e,_,_⟩|⟨kvs,k,b,e,_,_,_⟩
 ·obtain⟨_,_,vs,_,dd⟩:=y2H I.hok e
  exact dd.typeIs
 ·obtain⟨_,_,xs,_,dd⟩:=y2E I.hok e
  exact dd.typeIs
def tDGet (td ty:TE):TE:=fun σ H Q=>td σ H fun x H1=>ty σ H1 fun y H2=>∃a v,x= .ref a∧DGet H2 a y (some v)∧Q v H2
def sDPut (td ty tv:TE):TS:=fun D σ H=>tv σ H fun v H1=>td σ H1 fun x H2=>ty σ H2 fun y H3=>∃a H4,x= .ref a∧DPut H3 a y v H4∧D.nx σ H4
section
variable {X:Cx}{o i e value:Expr}{pos pos' tpos:Pos}{td ty tv:TE}
theorem y2o (hu:X.A.units+1<cLine) (ho:PE X o td) (hi:PE X i ty) (hs:NoSl i):PE X (.Subscript o i pos) (tDGet td ty):=by
 intro pins s σ H Q I h
 refine y2d PySem.F.slot_dict_getitem.lookup hs (thn (ho pins s σ H _ I h) fun u s1 ⟨x,H1,I1,rx,q1⟩=>thn (hi pins s1 σ H1 _ I1 q1) fun iv s2 ⟨y,H2,I2,ry,a,v,ex,g,q2⟩=>?_)
 subst ex
 obtain rfl:u=Value.ref a:=rx
 exact⟨z6q I2 g,y0a hu I2 g ry fun w' s3 I3 rw'=>⟨v,H2,I3,rw',q2⟩⟩
theorem y2l (hu:X.A.units+1<cLine) (ho:PE X o td) (hi:PE X i ty) (hv:PE X value tv) (hs:swapsWith value (some (.Subscript o i pos')) pos.line X.env=pure false):
 PS X (.Assign [.Subscript o i pos'] value pos) (sDPut td ty tv):=by
 intro pins s σ H D I h
 refine wpAny_Assign_Subscript (thn (hv pins s σ H _ I h) fun r s1 ⟨v,H1,I1,rv,q1⟩=>thn (ho pins s1 σ H1 _ I1 q1) fun u s2 ⟨x,H2,I2,rx,q2⟩=>thn (hi pins s2 σ H2 _ I2 q2) fun iv s3 ⟨y,H3,I3,ry,a,H4,ex,g,q3⟩=>?_) hs
 subst ex
 obtain rfl:u=Value.ref a:=rx
 exact z9Z hu I3 g ry rv fun s4 I4=>⟨σ,H4,I4,q3⟩
end
theorem y1g {P:Program}{w:World}{H:Hp} (h:Heap) (hb:sysModules<h.objs.size):ObjOk P w H (h.push {cls:= .type "dict",data:= .dict #[]}) h.objs.size (.dT []):=
 ⟨q0A _,beq_eq_false_iff_ne.mpr (Ne.symm (q0u hb)),[],.nil,_,#[],0,q0l _ rfl,⟨rfl,rfl,rfl⟩,rfl,rfl,List.nodup_nil⟩
def y2V:TE:=fun _ H Q=>∀p,H p=none→Q (.ref p) (upd H p (.dT []))
section
variable {X:Cx}{pos:Pos}
theorem y0N:PE X (.Dict [] [] pos) y2V:=fun pins s σ H Q I h=>
 wpAny_Dict_empty ⟨.ref s.heap.objs.size,_,I.laid (a:=s.heap.objs.size) (o:= .dT []) (t':=s.toks) (fun _ _ q=>q0d _ q) (q0k _) (y1g s.heap I.big),rfl,h _ (I.hok.fresh (q0k _))⟩
end
end L2
namespace L2
open PySem PySem.Spec PyProof.Rows
section
theorem z6x {M:Model}{A:Around}{E:Value→Shared→Prop}{s:Shared}{Q:Value→Shared→Prop}
 (q:∀(h':Heap) (e:Addr),(∀b o,s.heap.get? b=some o→h'.get? b=some o)→(∃oe,h'.get? e=some oe∧oe.cls= .type "StopIteration")→Q (.ref e) {s with heap:=h'}):
 wpAny M A (newExc (Value.type "StopIteration") []) Q E s:=by
 rw[newExc.eq_1]
 obtain⟨hp,g,d,tk,os⟩:=s
 unfold newTuple
 refine wpAny_bind (wpAny_newObj_type ?_ (by size_fits))
 have:firstArgMember (Value.type "StopIteration") []=pure Value.none:=by
  with_unfolding_all rfl
 rw[this]
 refine wpAny_bind (wpAny_pure ?_)
 refine wpAny_newObj_type ?_ (by size_fits)
 refine q _ _ (fun b o e=>q0d _ (q0d _ e)) ⟨_,q0l _ rfl,rfl⟩
variable {prog:Program}{w:World}{A:Around}{E:Value→Shared→Prop}{s:Shared}{it d:Addr}{i n ep:Nat}{o:Obj}{es:Array DictEntry}{e:DictEntry}
section
variable {Q:Option Value→Shared→Prop}
theorem z6S (hI:s.heap.IsKeyIter it d i n ep) (hd:s.heap.get? d=some o) (ho:o.data= .dict es ep) (hn:es.size=n) (he:es[i]? =some e)
 (q:∀h',h'.IsKeyIter it d (i+1) n ep→Heap.ExtBut it s.heap h'→Q (some e.key) {s with heap:=h'}):wpAny (model prog w) A (pyNext (.ref it)) Q E s:=by
 unfold pyNext
 refine wpAny_bind (wpAny_attempt (wpAny_callSpecial?_slot hI.typeIs F.slot_dict_keyiterator_next (call_meetsIn F.slot_dict_keyiterator_next hI.typeIs F.entry_dict_keyiterator_next (F.args_dict_keyiterator_next_1 _) (S:=fun A R s=>wpAny (model prog w) A.in1 (Builtin.«dict_keyiterator.__next__» {pos:=[Value.ref it]}) (fun fin s'=>
  match fin with
  |Fin.done f=>R (Except.ok f) s'
  |Fin.again c'=>c'.quiet=true∧codeAny (model prog w) A c' R s')
        (fun e s'=>R (Except.error e) s') s) (fun _ _ _ h=>h) ?_)))
 obtain⟨oi,h1,h2,h3⟩:=hI
 have hT:s.TypeIs (Value.ref it) "dict_keyiterator":=Heap.IsKeyIter.typeIs (d:=d) (i:=i) (n:=n) (ep:=ep) ⟨oi,h1,h2,h3⟩
 show wpAny _ _ (Builtin.Dict_items.slot0 "__next__" {pos:=[Value.ref it]}>>= _) _ _ s
 refine wpAny_bind ?_
 show wpAny _ _ (pure (Value.ref it)) _ _ s
 refine wpAny_pure ?_
 refine wpAny_bind ?_
 have hbase:∀{s:Shared}{Q:Nat→Shared→Prop}{E:Value→Shared→Prop},s.TypeIs (Value.ref it) "dict_keyiterator"→Q 0 s→wpAny (model prog w) A.in1 (typeNameOfWhole (Value.ref it)>>= fun n=>pure (if Builtin.Dict_items.ownsTuple n=true then 2 else 0)) Q E s:=fun hT q=>
  wpAny_bind (wpAny_typeNameOfWhole_keyiter hT (wpAny_pure q))
 show wpAny _ _ ((typeNameOfWhole (Value.ref it)>>= fun n=>pure (if Builtin.Dict_items.ownsTuple n=true then 2 else 0))>>= _) _ _ s
 refine wpAny_bind (hbase hT ?_)
 refine wpAny_bind (wpAny_fieldsOf h1 h3 ?_)
 show wpAny _ _ (Builtin.Dict_items.addrOf (Value.ref d)>>= _) _ _ s
 refine wpAny_bind (wpAny_pure ?_)
 refine wpAny_bind (wpAny_dictEntries hd ho ?_)
 dsimp only
 rw[if_neg (by rw[hn];simp)]
 refine wpAny_bind (wpAny_pure ?_)
 refine wpAny_bind (wpAny_dictEpoch hd ho ?_)
 rw[if_neg (by simp)]
 refine wpAny_pure ?_
 dsimp only
 rw[if_neg (by lia),q0G,he]
 dsimp only
 refine wpAny_bind (hbase hT ?_)
 refine wpAny_bind (wpAny_isOneOf_keyiter hT ?_)
 rw[if_neg (by decide)]
 have hsz:0+1<(#[Value.ref d,Value.int (i:Int) 0,Value.int (n:Int) 0,Value.int (ep:Int) 0]:Array Value).size :=(by show 0+1<4;decide)
 refine wpAny_bind (wpAny_setField h1 h3 hsz ?_)
 have m1:=z5u h3 (·.setIfInBounds (0+1) (rawInt ((i:Int)+1)))
 have e2:(s.heap.update it (Obj.mapFields (·.setIfInBounds (0+1) (rawInt ((i:Int)+1))))).get? it=some {oi with data:= .fields #[Value.ref d,Value.int ((i+1:Nat):Int) 0,Value.int (n:Int) 0,Value.int (ep:Int) 0]}:=by
  have:=Heap.get?_update_self (Obj.mapFields (·.setIfInBounds (0+1) (rawInt ((i:Int)+1)))) h1 (Obj.isFreed_of_fields (Obj.data_mapFields h3 _))
  rw[m1] at this
  exact this
 have kI:(s.heap.update it (Obj.mapFields (·.setIfInBounds (0+1) (rawInt ((i:Int)+1))))).IsKeyIter it d (i+1) n ep:=⟨_,e2,h2,rfl⟩
 have sb:Heap.ExtBut it s.heap (s.heap.update it (Obj.mapFields (·.setIfInBounds (0+1) (rawInt ((i:Int)+1))))):=fun b u hb e=>by rw[q0P _ _ (Ne.symm hb)];exact e
 refine wpAny_bind (wpAny_holding ?_)
 show wpAny _ _ (Builtin.Dict_items.isOneOf (Value.ref it) ["dict_keyiterator","dict_reversekeyiterator"]>>= _) _ _ _
 refine wpAny_bind (wpAny_isOneOf_keyiter kI.typeIs ?_)
 rw[if_pos (by decide)]
 refine wpAny_pure ?_
 refine wpAny_pure ?_
 refine wpAny_pure ?_
 exact q _ kI sb
theorem z9x (hI:s.heap.IsKeyIter it d i n ep) (hd:s.heap.get? d=some o) (ho:o.data= .dict es ep) (hn:es.size=n) (he:es[i]? =none) (hh:A.handled=none)
 (q:∀h',Heap.ExtBut it s.heap h'→Q none {s with heap:=h'}):wpAny (model prog w) A (pyNext (.ref it)) Q E s:=by
 unfold pyNext
 refine wpAny_bind (wpAny_attempt (wpAny_callSpecial?_slot hI.typeIs F.slot_dict_keyiterator_next (call_meetsIn F.slot_dict_keyiterator_next hI.typeIs F.entry_dict_keyiterator_next (F.args_dict_keyiterator_next_1 _) (S:=fun A R s=>wpAny (model prog w) A.in1 (Builtin.«dict_keyiterator.__next__» {pos:=[Value.ref it]}) (fun fin s'=>
  match fin with
  |Fin.done f=>R (Except.ok f) s'
  |Fin.again c'=>c'.quiet=true∧codeAny (model prog w) A c' R s')
        (fun e s'=>R (Except.error e) s') s) (fun _ _ _ h=>h) ?_)))
 obtain⟨oi,h1,h2,h3⟩:=hI
 have hT:s.TypeIs (Value.ref it) "dict_keyiterator":=Heap.IsKeyIter.typeIs (d:=d) (i:=i) (n:=n) (ep:=ep) ⟨oi,h1,h2,h3⟩
 show wpAny _ _ (Builtin.Dict_items.slot0 "__next__" {pos:=[Value.ref it]}>>= _) _ _ s
 refine wpAny_bind ?_
 show wpAny _ _ (pure (Value.ref it)) _ _ s
 refine wpAny_pure ?_
 refine wpAny_bind ?_
 have hbase:∀{s:Shared}{Q:Nat→Shared→Prop}{E:Value→Shared→Prop},s.TypeIs (Value.ref it) "dict_keyiterator"→Q 0 s→wpAny (model prog w) A.in1 (typeNameOfWhole (Value.ref it)>>= fun n=>pure (if Builtin.Dict_items.ownsTuple n=true then 2 else 0)) Q E s:=fun hT q=>
  wpAny_bind (wpAny_typeNameOfWhole_keyiter hT (wpAny_pure q))
 show wpAny _ _ ((typeNameOfWhole (Value.ref it)>>= fun n=>pure (if Builtin.Dict_items.ownsTuple n=true then 2 else 0))>>= _) _ _ s
 refine wpAny_bind (hbase hT ?_)
 refine wpAny_bind (wpAny_fieldsOf h1 h3 ?_)
 show wpAny _ _ (Builtin.Dict_items.addrOf (Value.ref d)>>= _) _ _ s
 refine wpAny_bind (wpAny_pure ?_)
 refine wpAny_bind (wpAny_dictEntries hd ho ?_)
 dsimp only
 rw[if_neg (by rw[hn];simp)]
 refine wpAny_bind (wpAny_pure ?_)
 refine wpAny_bind (wpAny_dictEpoch hd ho ?_)
 rw[if_neg (by simp)]
 refine wpAny_pure ?_
 dsimp only
 rw[if_neg (by lia),q0G,he]
 dsimp only
 refine wpAny_bind (hbase hT ?_)
 have hsz:0<(#[Value.ref d,Value.int (i:Int) 0,Value.int (n:Int) 0,Value.int (ep:Int) 0]:Array Value).size :=(by show 0<4;decide)
 refine wpAny_bind (wpAny_setField h1 h3 hsz ?_)
 have sb:Heap.ExtBut it s.heap (s.heap.update it (Obj.mapFields (·.setIfInBounds 0 Value.none))):=fun b u hb e=>by rw[q0P _ _ (Ne.symm hb)];exact e
 refine wpAny_bind (z6x fun h' e kp ⟨oe,e1,e2⟩=>?_)
 refine wpAny_raiseNew_none hh ?_
 refine wpAny_bind (wpAny_isInstance (T:="StopIteration") ⟨oe,e1,e2⟩ (b:=true) (by with_unfolding_all rfl) ?_)
 rw[if_pos rfl]
 refine wpAny_pure ?_
 exact q _ fun b u hb e=>kp b u (sb b u hb e)
end
theorem z4g {Q:Value→Shared→Prop} (hd:s.heap.get? d=some o) (hc:o.cls= .type "dict") (ho:o.data= .dict es ep) (hs:(d==sysModules)=false)
 (q:Q (.ref s.heap.objs.size) {s with heap:=s.heap.push {cls:= .type "dict_keyiterator",data:= .fields #[.ref d,.int 0 0,.int (es.size:Int) 0,.int (ep:Int) 0]}}):wpAny (model prog w) A (pyIter (.ref d)) Q E s:=by
 have hT:s.TypeIs (Value.ref d) "dict":=⟨o,hd,hc⟩
 refine wpAny_pyIter_slot hT F.slot_dict_iter (call_meetsIn F.slot_dict_iter hT F.entry_dict_iter (F.args_dict_iter_1 _) (S:=fun A R s=>wpAny (model prog w) A.in1 (Builtin.«dict.__iter__» {pos:=[Value.ref d]}) (fun fin s'=>
  match fin with
  |Fin.done f=>R (Except.ok f) s'
  |Fin.again c'=>c'.quiet=true∧codeAny (model prog w) A c' R s')
        (fun e s'=>R (Except.error e) s') s) (fun _ _ _ h=>h) ?_)
 show wpAny _ _ (Builtin.Dict.dictSlotNone "__iter__" {pos:=[Value.ref d]}>>= _) _ _ s
 refine wpAny_bind ?_
 show wpAny _ _ (Builtin.Dict.notOrdered "__iter__" {pos:=[Value.ref d]}>>= _) _ _ s
 refine wpAny_bind ?_
 show wpAny _ _ (typeOf (Value.ref d)>>= _) _ _ s
 refine wpAny_bind (wpAny_typeOf hT ?_)
 rw[if_neg (by decide)]
 refine wpAny_pure ?_
 show wpAny _ _ (pure (Value.ref d)) _ _ s
 refine wpAny_pure ?_
 refine wpAny_bind (wpAny_pure ?_)
 unfold Builtin.Dict.showsAll
 rw[hs]
 refine wpAny_bind ?_
 rw[if_neg (by decide)]
 refine wpAny_pure ?_
 refine wpAny_bind (wpAny_dictEntries hd ho ?_)
 refine wpAny_bind (wpAny_dictEpoch hd ho ?_)
 unfold newFields
 refine wpAny_bind (wpAny_newObj_type ?_ (by size_fits))
 refine wpAny_pure ?_
 exact⟨_,_,⟨_,q0l _ rfl,rfl⟩,F.slot_dict_keyiterator_next.lookup,q⟩
def DAt (d:Addr) (es:Array DictEntry) (ep:Nat) (h:Heap):Prop:=∃o,h.get? d=some o∧o.cls= .type "dict"∧o.data= .dict es ep
theorem z9w (hh:A.handled=none) (I:Addr) (hn:d≠I):Walks prog w A I [I,d] [I] es.size (fun i v=>∃e,es[i]? =some e∧v=e.key) (fun i h=>h.IsKeyIter I d i es.size ep∧DAt d es ep h) where
 sub:=fun b hb=>by rw[q0g.mp hb];exact q0i
 frame:=fun i h h' ⟨⟨oi,a1,a2,a3⟩,⟨o,b1,b2,b3⟩⟩ k=>⟨⟨oi,k _ (by simp) _ a1,a2,a3⟩,⟨o,k _ (by simp) _ b1,b2,b3⟩⟩
 item:=fun i s Q E hi ⟨hI,⟨o,b1,b2,b3⟩⟩ q=>z6S hI b1 b3 rfl (Array.getElem?_eq_getElem hi) fun h' kI x=>q _ h' s.toks ⟨_,Array.getElem?_eq_getElem hi,rfl⟩ ⟨kI,⟨o,x _ _ hn b1,b2,b3⟩⟩ fun b o hb e=>x b o (fun z=>hb (by rw[z];exact q0g.mpr rfl)) e
 done:=fun s Q E ⟨hI,⟨o,b1,b2,b3⟩⟩ q=>z9x hI b1 b3 rfl (Array.getElem?_eq_none (q0k _)) hh fun h' x=>q h' s.toks fun b o hb e=>x b o (fun z=>hb (by rw[z];exact q0g.mpr rfl)) e
 self:=fun i s Q E ⟨hI,_⟩ q=>wpAny_pyIter_keyiter hI q
theorem y2x (hs:(d==sysModules)=false):W.KdlSrc prog w "dict" d d es.size (fun i v=>∃e,es[i]? =some e∧v=e.key) (DAt d es ep) where
 type:=fun s ⟨o,h1,h2,_⟩=>⟨o,h1,h2⟩
 there:=fun h ⟨o,h1,_,_⟩=>⟨q0p h1,q0p h1⟩
 keep:=fun h h' ⟨o,h1,h2,h3⟩ k=>⟨o,k _ (.inl rfl) _ h1,h2,h3⟩
 notList:=by decide
 notTuple:=by decide
 hint:=fun A E s Q ⟨o,h1,h2,_⟩ q=>W.kdl_hint_dict ⟨o,h1,h2⟩ q
 iter:=fun A s hh ⟨o,h1,h2,h3⟩=>⟨_,_,fun E Q q=>z4g h1 h2 h3 hs q,z9w hh _ (q0u (q0p h1)),⟨_,q0l _ rfl,rfl,rfl⟩,⟨o,q0d _ h1,h2,h3⟩⟩
end
section
variable {X:Cx}
theorem z5h:∀(bs:List Addr) (us:List Value),us.length=bs.length→(∀(i:Nat) (u:Value),us[i]? =some u→∃b,bs[i]? =some b∧u= .ref b)→Vals (bs.map V.ref) us
 |[],us,h,_=>by
  have:us=[]:=q0J.mp h
  subst this
  exact .nil
 |b::bs,[],h,_=>by simp at h
 |b::bs,u::us,h,hx=>by
  obtain⟨b',e1,e2⟩:=hx 0 u rfl
  have e3:b=b':=by simpa using e1
  subst e3
  rw[q0t]
  exact .cons (by rw[e2];rfl) (z5h bs us (by simpa using h) fun i u hu=>by
   obtain⟨b',z1,z2⟩:=hx (i+1) u (by simpa using hu)
   exact⟨b',by simpa using z1,z2⟩)
end
end L2
namespace L2
open PySem PySem.Spec PyProof.Rows
section
variable {X:Cx}
end
end L2
namespace L2
open PySem PySem.Spec PySem.W PyProof.Rows
section
variable {X:Cx}{mth cx n:Str}{apos cpos xpos hp hpos tpos:Pos}{o e:Expr}{es:List Expr}{tob:TE}{ta:TA}{k j:Nat}{ps:List Str}{sp:Sp}{W C0 g:Addr}{gd:FuncData}{st0:Stmt}{ts:TS}
end
end L2
namespace L2
open PySem PySem.Spec PyProof.Rows
section
variable {X:Cx}
end
end L2
namespace L2
open PySem PySem.Spec PyProof.Rows
theorem z0S {δ:Type}{J:It}{n:Nat}{Ok:Hp→Prop}{xs:List V} (ds:List δ) (hx:n=ds.length) (R:z4O J n Ok (fun i H x H'=>H'=H∧xs[i]? =some x)) {fr:List (Option Nat)}{g:TG}{tt:TT}{te:TE}{σ:St}{H1:Hp}{Q:VK}{D:Addr} (hD:H1 D=none) (pt:δ→St→St) (hpt:∀d e σ,pt d (pt e σ)=pt d σ) (tst:δ→Bool) (Rel:Hp→δ→V→Prop)
 (hrel:∀H H' d u,(∀b o,b≠D→H b=some o→H' b=some o)→(∃acc,H D=some (.lst acc))→Rel H d u→Rel H' d u)
 (hok:∀H,Same H1 H→Ok H) (hn:n≤sizeLine)
 (hg:∀(i:Nat) x d,xs[i]? =some x→ds[i]? =some d→∀σ H,Same H1 H→∀S:St→Hp→Prop,S (pt d σ) H→g x σ H S)
 (ht:∀d∈ds,∀Hc,Same H1 Hc→∀S:Bool→Hp→Prop,(∀H',Same Hc H'→S (tst d) H')→tt (pt d (z0z fr σ)) Hc S)
 (hv:∀d∈ds,tst d=true→∀Hc,Same H1 Hc→(∃acc,Hc D=some (.lst acc))→∀S:VK,(∀u H',Same Hc H'→Rel H' d u→S u H')→te (pt d (z0z fr σ)) Hc S)
 (q:∀us H',Same H1 H'→H' D=some (.lst us)→Each (Rel H') (ds.filter tst) us→Q (.ref D) H'):
 z2s J g tt te Q D (z0z fr σ) (upd H1 D (.lst [])):=by
 subst hx
 refine z2G R (fun i acc σ' H'=>((∃e,σ'=pt e (z0z fr σ))∨σ'=z0z fr σ)∧Same H1 H'∧H' D=some (.lst acc)∧Each (Rel H') ((ds.take i).filter tst) acc) ⟨.inr rfl,z0d hD _,z0b,.nil⟩ ?_ hn ?_ ?_
 ·rintro i acc σ' H' hi ⟨_,hs,_,he⟩
  refine⟨hok _ hs,?_⟩
  rw[←he.length]
  refine q0q (q1f _ _) ?_
  rw[q0O];lia
 ·rintro N i x acc σ' H' H'' hi ⟨hσ,hs,hd,he⟩ ⟨rfl,hx⟩ n1 n2
  have hdi:ds[i]? =some ds[i]:=q0b hi
  have hm:ds[i]∈ds:=q0F hi
  generalize ds[i]=d at hdi hm
  have es:pt d σ'=pt d (z0z fr σ):=by
   rcases hσ with⟨e,rfl⟩|rfl
   ·rw[hpt]
   ·rfl
  refine hg i x d hx hdi _ _ hs _ ?_
  rw[es]
  have tk:ds.take (i+1)=ds.take i++[d]:=by rw[q0L,hdi];rfl
  refine ht d hm _ hs _ fun H3 g3=>?_
  have hs3:=hs.trans g3
  have hd3:=g3 _ _ hd
  have he3:Each (Rel H3) ((ds.take i).filter tst) acc:=he.imp fun a b h=>hrel _ _ _ _ (fun c o _ e=>g3 _ _ e) ⟨_,hd⟩ h
  cases hb:tst d with
  |true=>
   refine z5y ?_
   refine hv d hm hb _ hs3 ⟨_,hd3⟩ _ fun u H4 g4 hr=>?_
   have hd4:=g4 _ _ hd3
   refine n1 _ _ _ hd4 ⟨.inl ⟨_,rfl⟩,fun c o e=>?_,z0b,?_⟩
   ·rw[z0h (z0f e hD)];exact g4 _ _ (hs3 _ _ e)
   ·have up:∀a b,Rel H4 a b→Rel (upd H4 D (.lst (acc++[u]))) a b:=fun a b h=>hrel _ _ _ _ (fun c o hc e=>by rw[z0h hc];exact e) ⟨_,hd4⟩ h
    rw[tk,q0Y,q1b hb]
    exact ((he3.imp fun a b h=>up a b (hrel _ _ _ _ (fun c o _ e=>g4 _ _ e) ⟨_,hd3⟩ h)).snoc (up _ _ hr))
  |false=>
   refine z1X ?_
   refine n2 _ _ ⟨.inl ⟨_,rfl⟩,hs3,hd3,?_⟩
   rw[tk,q0Y,q1c (by simp[hb])]
   simpa using he3
 ·rintro acc σ' H' ⟨_,hs,hd,he⟩
  rw[q0S] at he
  exact q acc H' hs hd he
end L2
set_option maxHeartbeats 4000000
namespace L2
open PySem PySem.Spec PyProof.Rows
namespace Srt
open PySem.SeqAt PySem.AutoSeq1 PySem.MeetsSeq PySem.MeetsSeq2 PySem.MeetsSeq3
def LtAt (A:Around) (s:Shared) (y x:Value) (b:Bool):Prop:=
 ∀(prog:Program) (w:World) (E:Value→Shared→Prop) (Q:Value→Shared→Prop),Q (.bool b) s→wpAny (model prog w) A (richCompare .Lt y x) Q E s
def lx (e t:Nat→Bool):List Nat→Bool→Bool
 |[],fin=>fin
 |i::is,fin=>if e i=true then lx e t is fin else t i
theorem z9q (l b:Addr) (items items2:Array Value) (n n2:Nat) (dd dd2:Option Addr) (sl sl2:Array (Option Value)) (e t:Nat→Bool) (k:Nat):
 ∀i:Nat,min items.size items2.size - i=k→Meets (Builtin.«list.__eq__.loop» ⟨[.ref l,.ref b,rawInt i,rawInt 0],[]⟩)
  (fun A R s=>s.heap.get? l=some {cls:= .type "list",dict:=dd,data:= .seq items n,slots:=sl}∧s.heap.get? b=some {cls:= .type "list",dict:=dd2,data:= .seq items2 n2,slots:=sl2}∧
   (∀j (h1:j<items.size) (h2:j<items2.size),EqAt A.in1 s items[j] items2[j] (e j))∧(∀j (h1:j<items.size) (h2:j<items2.size),e j=false→LtAt A.in1 s items[j] items2[j] (t j))∧
   R (.ok (.ret (.bool (lx e t ((List.range (min items.size items2.size)).drop i) (decide (items.size<items2.size)))))) s):=by
 induction k with
 |zero=>
  intro i hk prog w A R s h
  obtain⟨hp,g,d,tk,os⟩:=s;obtain⟨hl,hb,he,ht,h⟩:=h
  wp_walk using wpAny_loadPart' hl,wpAny_loadPart' hb
  have hd:(List.range (min items.size items2.size)).drop i=[]:=by simp;lia
  rw[hd] at h
  by_cases c:items.size≤i
  ·have hi1:items[((i:Nat):Int).toNat]? =none:=by simp;lia
   rw[hi1]
   wp_walk using wpAny_loadPart' hl,wpAny_loadPart' hb
   exact h
  ·have hi1:items[((i:Nat):Int).toNat]? =some items[i]:=by simp[show i<items.size by lia]
   have hi2:items2[((i:Nat):Int).toNat]? =none:=by simp;lia
   rw[hi1,hi2]
   wp_walk using wpAny_loadPart' hl,wpAny_loadPart' hb
   exact h
 |succ k ih=>
  intro i hk prog w A R s h
  obtain⟨hp,g,d,tk,os⟩:=s;obtain⟨hl,hb,he,ht,h⟩:=h
  wp_walk using wpAny_loadPart' hl,wpAny_loadPart' hb
  have hlt:i<items.size:=by lia
  have hlt2:i<items2.size:=by lia
  have hi1:items[((i:Nat):Int).toNat]? =some items[i]:=by simp[hlt]
  have hi2:items2[((i:Nat):Int).toNat]? =some items2[i]:=by simp[hlt2]
  have hd:(List.range (min items.size items2.size)).drop i=i::(List.range (min items.size items2.size)).drop (i+1):=by
   rw[q1A (by simp;lia)];simp
  have hc:((i:Int)+1)=((i+1:Nat):Int):=by push_cast;rfl
  rw[hd,lx] at h
  rw[hi1,hi2]
  refine wpAny_bind (he i hlt hlt2 prog w _ _ ?_)
  cases hb':e i with
  |true=>
   rw[hb',if_pos rfl] at h
   wp_walk
   rw[hc]
   exact⟨plainId_quiet plain_eq_loop _,codeAny_builtin entry_eq_loop (by
        rw[Around.under_plainId plain_eq_loop _]
        exact ih (i+1) (by lia) prog w A R _ ⟨hl,hb,he,ht,h⟩)⟩
  |false=>
   rw[hb',if_neg (by decide)] at h
   wp_walk using wpAny_loadPart' hl,wpAny_loadPart' hb
   rw[hi1,hi2]
   refine wpAny_bind (ht i hlt hlt2 hb' prog w _ _ ?_)
   wp_walk
   exact h
theorem z9s (l b:Addr) (items items2:Array Value) (n n2:Nat) (dd dd2:Option Addr) (sl sl2:Array (Option Value)) (e t:Nat→Bool):
 Meets (Builtin.«list.__lt__» ⟨[.ref l,.ref b],[]⟩)
  (fun A R s=>s.heap.get? l=some {cls:= .type "list",dict:=dd,data:= .seq items n,slots:=sl}∧s.heap.get? b=some {cls:= .type "list",dict:=dd2,data:= .seq items2 n2,slots:=sl2}∧
        (∀j (h1:j<items.size) (h2:j<items2.size),EqAt A.in1 s items[j] items2[j] (e j))∧(∀j (h1:j<items.size) (h2:j<items2.size),e j=false→LtAt A.in1 s items[j] items2[j] (t j))∧
        R (.ok (.ret (.bool (lx e t (List.range (min items.size items2.size)) (decide (items.size<items2.size)))))) s):=by
 intro prog w A R s h
 obtain⟨hp,g,d,tk,os⟩:=s;obtain⟨hl,hb,he,ht,h⟩:=h
 have f3:=AutoSeq1.sub_list_list
 wp_walk using wpAny_loadPart' hl,wpAny_loadPart' hb
 exact⟨plainId_quiet plain_eq_loop _,codeAny_builtin entry_eq_loop (by
  rw[Around.under_plainId plain_eq_loop _]
  exact z9q l b items items2 n n2 dd dd2 sl sl2 e t _ 0 rfl prog w A R _ ⟨hl,hb,he,ht,by simpa using h⟩)⟩
theorem z7w (l b:Addr) (items items2:Array Value) (n n2:Nat) (dd dd2:Option Addr) (sl sl2:Array (Option Value)) (e t:Nat→Bool):
 Meets (Builtin.«tuple.__lt__» ⟨[.ref l,.ref b],[]⟩)
  (fun A R s=>s.heap.get? l=some {cls:= .type "tuple",dict:=dd,data:= .seq items n,slots:=sl}∧s.heap.get? b=some {cls:= .type "tuple",dict:=dd2,data:= .seq items2 n2,slots:=sl2}∧
        (∀j (h1:j<items.size) (h2:j<items2.size),EqAt A.in1 s items[j] items2[j] (e j))∧(∀j (h1:j<items.size) (h2:j<items2.size),e j=false→LtAt A.in1 s items[j] items2[j] (t j))∧
        R (.ok (.ret (.bool (lx e t (List.range (min items.size items2.size)) (decide (items.size<items2.size)))))) s):=
 .of_wp fun prog w A R s h=>by
  obtain⟨hp,g,d,tk,os⟩:=s;obtain⟨hl,hb,he,ht,h⟩:=h
  have f2:=AutoSeq1.sub_tuple_tuple
  have hZ:(items.toList.zip items2.toList).length =min items.size items2.size:=by simp
  wp_walk using wpAny_loadPart' hl,wpAny_loadPart' hb,wpAny_forIn_list _ (fun rest b s'=>b.1=none∧s'=⟨hp,g,d,tk,os⟩∧∃i,rest=(items.toList.zip items2.toList).drop i∧
   R (.ok (.ret (.bool (lx e t ((List.range (min items.size items2.size)).drop i) (decide (items.size<items2.size)))))) ⟨hp,g,d,tk,os⟩) _
  case turn=>
   rintro⟨y,x⟩ rest b s' ⟨hb',rfl,i,hz,hR⟩
   have hlt:i<(items.toList.zip items2.toList).length :=by
        rcases Nat.lt_or_ge i (items.toList.zip items2.toList).length with h'|h'
        ·exact h'
        ·rw[List.drop_of_length_le h'] at hz;cases hz
   have hm:i<min items.size items2.size:=hZ▸hlt
   have h1:i<items.size:=q0B hm (Nat.min_le_left _ _)
   have h2:i<items2.size:=q0B hm (Nat.min_le_right _ _)
   rw[q1A hlt] at hz
   injection hz with hyx hrest
   have hy:y=items[i]:=by have:=congrArg Prod.fst hyx;simpa using this
   have hx:x=items2[i]:=by have:=congrArg Prod.snd hyx;simpa using this
   subst hy hx
   have hd:(List.range (min items.size items2.size)).drop i=i::(List.range (min items.size items2.size)).drop (i+1):=by
        rw[q1A (by simp;lia)];simp
   rw[hd,lx] at hR
   refine wpAny_bind (he i h1 h2 prog w _ _ ?_)
   cases hy:e i with
   |true=>
    rw[hy,if_pos rfl] at hR
    wp_walk
    exact⟨rfl,rfl,i+1,hrest,hR⟩
   |false=>
    rw[hy,if_neg (by decide)] at hR
    refine wpAny_ite_split (fun _=>?_) (fun hn=>absurd rfl hn)
    refine wpAny_bind (wpAny_rule (wpAny_bind (ht i h1 h2 hy prog w _ _ ?_)))
    wp_walk
    exact⟨_,rfl,hR⟩
  case fin=>
   rintro⟨b1,b2⟩ s' ⟨hb',rfl,i,hz,hR⟩
   simp only at hb'
   subst hb'
   have hge:min items.size items2.size≤i:=by
        rcases Nat.lt_or_ge i (items.toList.zip items2.toList).length with h'|h'
        ·rw[q1A h'] at hz;cases hz
        ·exact hZ▸h'
   rw[List.drop_of_length_le (by simpa using hge),lx] at hR
   wp_walk
   exact⟨_,rfl,by simpa[Builtin.Tuple.tupleCompareSizes] using hR⟩
  case h=>
   exact⟨rfl,rfl,0,rfl,by simpa using h⟩
section
variable {A:Around}{s:Shared}
theorem LtAt.int (a:Int) (t:Tok) (b:Int) (u:Tok):LtAt A s (.int a t) (.int b u) (decide (a<b)):=fun prog w E Q h=>wpAny_lt_int h
theorem LtAt.tuples {l b:Addr}{items items2:Array Value}{e t:Nat→Bool} (hl:s.heap.IsTuple l items) (hb:s.heap.IsTuple b items2) (hu:A.units<cLine)
 (he:∀j (h1:j<items.size) (h2:j<items2.size),EqAt A.in1 s items[j] items2[j] (e j)) (ht:∀j (h1:j<items.size) (h2:j<items2.size),e j=false→LtAt A.in1 s items[j] items2[j] (t j)):
 LtAt A s (.ref l) (.ref b) (lx e t (List.range (min items.size items2.size)) (decide (items.size<items2.size))):=fun prog w E Q h=>by
 obtain⟨⟨cls,dd,data,sl⟩,ho,hc,n,hd⟩:=id hl
 obtain⟨⟨cls2,dd2,data2,sl2⟩,ho2,hc2,n2,hd2⟩:=id hb
 simp only at hc hd hc2 hd2
 subst hc hd hc2 hd2
 exact richCompare_meets_room (op:= .Lt) ⟨_,ho,rfl⟩ ⟨_,ho2,rfl⟩ F.slot_tuple_lt F.entry_tuple_lt (F.args_tuple_lt_2 _ _) (z7w l b items items2 n n2 dd dd2 sl sl2 e t)
  ⟨ho,ho2,he,ht,show Value.bool _≠Value.notImplemented∧Q (.bool _) s from⟨(fun x=>nomatch x),h⟩⟩ hu
theorem LtAt.lists {l b:Addr}{items items2:Array Value}{e t:Nat→Bool} (hl:s.heap.IsList l items) (hb:s.heap.IsList b items2) (hu:A.units<cLine)
 (he:∀j (h1:j<items.size) (h2:j<items2.size),EqAt A.in1 s items[j] items2[j] (e j)) (ht:∀j (h1:j<items.size) (h2:j<items2.size),e j=false→LtAt A.in1 s items[j] items2[j] (t j)):
 LtAt A s (.ref l) (.ref b) (lx e t (List.range (min items.size items2.size)) (decide (items.size<items2.size))):=fun prog w E Q h=>by
 obtain⟨⟨cls,dd,data,sl⟩,ho,hc,n,hd⟩:=id hl
 obtain⟨⟨cls2,dd2,data2,sl2⟩,ho2,hc2,n2,hd2⟩:=id hb
 simp only at hc hd hc2 hd2
 subst hc hd hc2 hd2
 exact richCompare_meets_room (op:= .Lt) ⟨_,ho,rfl⟩ ⟨_,ho2,rfl⟩ F.slot_list_lt F.entry_list_lt (F.args_list_lt_2 _ _) (z9s l b items items2 n n2 dd dd2 sl sl2 e t)
  ⟨ho,ho2,he,ht,show Value.bool _≠Value.notImplemented∧Q (.bool _) s from⟨(fun x=>nomatch x),h⟩⟩ hu
end
end Srt
end L2
namespace L2
open PySem PySem.Spec PyProof.Rows
namespace Srt
open PySem.SeqAt
mutual
def ltb:Dt→Dt→Bool
 | .i n,.i m=>decide (n<m)
 | .t a,.t b=>lts a b
 | .l a,.l b=>lts a b
 |_,_=>false
def lts:List Dt→List Dt→Bool
 |[],[]=>false
 |[],_::_=>true
 |_::_,[]=>false
 |x::a,y::b=>if Dt.eqb x y=true then lts a b else ltb x y
end
theorem y1F (e t:Nat→Bool) (fin:Bool):∀is:List Nat,lx e t (is.map (· +1)) fin=lx (fun j=>e (j+1)) (fun j=>t (j+1)) is fin
 |[]=>rfl
 |i::is=>by rw[List.map_cons,lx,lx,y1F e t fin is]
theorem z9p:∀ds es:List Dt,lx (fun j=>Dt.eqb (ds.getD j (.i 0)) (es.getD j (.i 0))) (fun j=>ltb (ds.getD j (.i 0)) (es.getD j (.i 0))) (List.range (min ds.length es.length)) (decide (ds.length<es.length))=lts ds es
 |[],[]=>by simp[lx,lts]
 |[],_::_=>by simp[lx,lts]
 |_::_,[]=>by simp[lx,lts]
 |x::a,y::b=>by
  have ih:=z9p a b
  have hm:min (x::a).length (y::b).length =min a.length b.length+1:=by simp only[q0D];lia
  have hf:decide ((x::a).length <(y::b).length)=decide (a.length<b.length):=by simp
  rw[hm,hf,List.range_succ_eq_map,lx,lts]
  show (if Dt.eqb x y=true then lx _ _ ((List.range (min a.length b.length)).map (· +1)) _ else ltb x y)=_
  rw[y1F,←ih]
  rfl
section
variable {X:Cx}{pins:List (Addr×Obj)}{σ:St}{H:Hp}{s:Shared}
theorem z2O {K:PySem.W.Frag}:∀{xs:List V}{ds:List Dt}{its:List Value},IsDs K H xs ds→Vals xs its→∀j (hj:j<its.length),∃v,IsD K H v (ds.getD j (.i 0))∧RelV v its[j]:=by
 intro xs
 induction xs with
 |nil=>
  intro ds its h1 h2 j hj
  cases h2
  exact absurd hj (q1t _)
 |cons x xs ih=>
  intro ds its h1 h2 j hj
  cases h1 with
  |cons a1 a2=>
  cases h2 with
  |cons b1 b2=>
  cases j with
  |zero=>exact⟨x,a1,b1⟩
  |succ j=>exact ih a2 b2 j (by simpa using hj)
theorem z3v {n:Nat}:∀{ds es:List Dt},Dt.oks n ds es=true→∀j,j<ds.length→j<es.length→Dt.ok n (ds.getD j (.i 0)) (es.getD j (.i 0))=true
 |[],_,_,j,h,_=>absurd h (Nat.not_lt_zero _)
 |_::_,[],_,j,_,h=>absurd h (Nat.not_lt_zero _)
 |d::ds,e::es,h,j,h1,h2=>by
  rw[Dt.oks,q1j] at h
  cases j with
  |zero=>exact h.1
  |succ j=>exact z3v h.2 j (by simpa using h1) (by simpa using h2)
def LTold (X:Cx) (H:Hp) (s:Shared) (n:Nat) (A:Around):Prop:=∀(v u:V) (d e:Dt) (x y:Value),IsD X.K H v d→IsD X.K H u e→RelV v x→RelV u y→Dt.ok n d e=true→LtAt A s x y (ltb d e)
theorem y2u (I:Inv X pins σ H s):∀(n:Nat) (A:Around),A.units+n<cLine→LTold X H s n A:=by
 intro n
 induction n with
 |zero=>
  intro A hu v u d e x y hv hw r1 r2 ok
  cases hv with
  |i k=>
   cases hw with
   |i m=>
    obtain⟨t,rfl⟩:=r1
    obtain⟨t',rfl⟩:=r2
    exact LtAt.int k t m t'
   |t _ _=>simp[Dt.ok] at ok
   |l _ _=>simp[Dt.ok] at ok
  |t _ _=>cases hw<;>simp[Dt.ok] at ok
  |l _ _=>cases hw<;>simp[Dt.ok] at ok
 |succ n ih=>
  intro A hu v u d e x y hv hw r1 r2 ok
  have P:=told I n A.in1 (by show A.units+1+n<cLine;lia)
  have P2:=ih A.in1 (by show A.units+1+n<cLine;lia)
  cases hv with
  |i k=>
   cases hw with
   |i m=>
    obtain⟨t,rfl⟩:=r1
    obtain⟨t',rfl⟩:=r2
    exact LtAt.int k t m t'
   |t _ _=>simp[Dt.ok] at ok
   |l _ _=>simp[Dt.ok] at ok
  | @t a xs ds q1 d1=>
    cases hw with
    |i m=>simp[Dt.ok] at ok
    |l _ _=>simp[Dt.ok] at ok
    | @t b ys es q2 d2=>
      cases (show x=Value.ref a from r1)
      cases (show y=Value.ref b from r2)
      obtain⟨its,rv,p,hz⟩:=I.tuple q1
      obtain⟨its2,rv2,p2,hz2⟩:=I.tuple q2
      have ok':Dt.oks n ds es=true:=by simpa[Dt.ok] using ok
      have l1:its.length=ds.length:=by rw[←rv.length,d1.length]
      have l2:its2.length=es.length:=by rw[←rv2.length,d2.length]
      have z:=LtAt.tuples (A:=A) (s:=s) (e:=fun j=>Dt.eqb (ds.getD j (.i 0)) (es.getD j (.i 0))) (t:=fun j=>ltb (ds.getD j (.i 0)) (es.getD j (.i 0))) (show s.heap.IsTuple a its.toArray from p) (show s.heap.IsTuple b its2.toArray from p2) (by lia)
       (fun j h1 h2=>by
        obtain⟨v1,c1,c2⟩:=z2O d1 rv j (by simpa using h1)
        obtain⟨v2,c3,c4⟩:=z2O d2 rv2 j (by simpa using h2)
        simpa using P v1 v2 _ _ _ _ c1 c3 c2 c4 (z3v ok' j (by rw[←l1];simpa using h1) (by rw[←l2];simpa using h2)))
       (fun j h1 h2 _=>by
        obtain⟨v1,c1,c2⟩:=z2O d1 rv j (by simpa using h1)
        obtain⟨v2,c3,c4⟩:=z2O d2 rv2 j (by simpa using h2)
        simpa using P2 v1 v2 _ _ _ _ c1 c3 c2 c4 (z3v ok' j (by rw[←l1];simpa using h1) (by rw[←l2];simpa using h2)))
      rw[q0h,q0h,l1,l2,z9p] at z
      exact z
  | @l a xs ds q1 d1=>
    cases hw with
    |i m=>simp[Dt.ok] at ok
    |t _ _=>simp[Dt.ok] at ok
    | @l b ys es q2 d2=>
      cases (show x=Value.ref a from r1)
      cases (show y=Value.ref b from r2)
      obtain⟨its,rv,p,hz⟩:=I.list q1
      obtain⟨its2,rv2,p2,hz2⟩:=I.list q2
      have ok':Dt.oks n ds es=true:=by simpa[Dt.ok] using ok
      have l1:its.length=ds.length:=by rw[←rv.length,d1.length]
      have l2:its2.length=es.length:=by rw[←rv2.length,d2.length]
      have z:=LtAt.lists (A:=A) (s:=s) (e:=fun j=>Dt.eqb (ds.getD j (.i 0)) (es.getD j (.i 0))) (t:=fun j=>ltb (ds.getD j (.i 0)) (es.getD j (.i 0))) p.isList p2.isList (by lia)
       (fun j h1 h2=>by
        obtain⟨v1,c1,c2⟩:=z2O d1 rv j (by simpa using h1)
        obtain⟨v2,c3,c4⟩:=z2O d2 rv2 j (by simpa using h2)
        simpa using P v1 v2 _ _ _ _ c1 c3 c2 c4 (z3v ok' j (by rw[←l1];simpa using h1) (by rw[←l2];simpa using h2)))
       (fun j h1 h2 _=>by
        obtain⟨v1,c1,c2⟩:=z2O d1 rv j (by simpa using h1)
        obtain⟨v2,c3,c4⟩:=z2O d2 rv2 j (by simpa using h2)
        simpa using P2 v1 v2 _ _ _ _ c1 c3 c2 c4 (z3v ok' j (by rw[←l1];simpa using h1) (by rw[←l2];simpa using h2)))
      rw[q0h,q0h,l1,l2,z9p] at z
      exact z
end
end Srt
end L2
namespace L2
open PySem PySem.Spec PyProof.Rows
namespace Srt
open PySem.W (KasT kas_sort kas_count kas_bin kas_place kas_descPart kas_tail3 kas_desc kas_asc kas_rev kas_item kas_st kas_cmp kas_runs kasC kas_range)
def TrT {α:Type} (n:Nat) (R:α→Prop):KasT α→Prop
 | .ret a=>R a
 | .ask i j k=>i<n∧j<n∧∀b,TrT n R (k b)
def z0T {α:Type} (c:Nat→Nat→Bool):KasT α→α
 | .ret a=>a
 | .ask i j k=>z0T c (k (c i j))
theorem TrT.bind {α β:Type}{n:Nat}{R:α→Prop}{S:β→Prop}{f:α→KasT β}:∀{t:KasT α},TrT n R t→(∀a,R a→TrT n S (f a))→TrT n S (t.bind f)
 | .ret a,h,hf=>hf a h
 | .ask i j k,h,hf=>⟨h.1,h.2.1,fun b=>TrT.bind (h.2.2 b) hf⟩
theorem TrT.run {α:Type}{n:Nat}{R:α→Prop} (c:Nat→Nat→Bool):∀(t:KasT α),TrT n R t→R (z0T c t)
 | .ret _,h=>h
 | .ask i j k,h=>TrT.run c (k (c i j)) (h.2.2 (c i j))
theorem TrT.wp {α:Type}{n:Nat}{R:α→Prop}{c:Nat→Nat→Bool}{cmp:Nat→Nat→(Bool→Shared→Prop)→Shared→Prop}{s:Shared}{Q:α→Shared→Prop} (hc:∀i j C,i<n→j<n→C (c i j) s→cmp i j C s):∀{t:KasT α},TrT n R t→Q (z0T c t) s→t.kasWp cmp Q s
 | .ret _,_,q=>q
 | .ask i j k,h,q=>hc i j _ h.1 h.2.1 (TrT.wp hc (h.2.2 (c i j)) q)
def Pm (n:Nat) (p:Array Nat):Prop:=p.toList.Perm (List.range n)
theorem Pm.lt {n:Nat}{p:Array Nat} (h:Pm n p) (hn:0<n) (i:Nat):p.getD i 0<n:=by
 rw[Array.getD_eq_getD_getElem?]
 cases e:p[i]? with
 |none=>exact hn
 |some x=>
  have:x∈p.toList:=by
   obtain⟨hi,rfl⟩:=Array.getElem?_eq_some_iff.mp e
   exact Array.getElem_mem_toList hi
  exact q1a.mp (h.mem_iff.mp this)
theorem Pm.rev {n:Nat}{p:Array Nat} (h:Pm n p) (i j:Nat):Pm n (kas_rev p i j):=(Array.perm_iff_toList_perm.mp (mirror_perm p i j _)).trans h
theorem Pm.bub {n:Nat}{p:Array Nat} (h:Pm n p) (i j:Nat):Pm n (bubble p i j):=(Array.perm_iff_toList_perm.mp (bubble_perm p i j)).trans h
section
variable {n:Nat} (hn:0<n)
include hn
theorem z8s {p:Array Nat} (h:Pm n p):∀f a,TrT n (fun _=>True) (kas_asc p f a)
 |0,_=>trivial
 |f+1,a=>⟨h.lt hn _,h.lt hn _,fun b=>by
  cases b
  ·exact z8s h f (a+1)
  ·exact trivial⟩
theorem z4n:∀f (p:Array Nat) a q,Pm n p→TrT n (fun r=>Pm n r.1) (kas_desc f p a q)
 |0,p,a,q,h=>h
 |f+1,p,a,q,h=>⟨h.lt hn _,h.lt hn _,fun b=>by
  cases b
  ·refine⟨h.lt hn _,h.lt hn _,fun d=>?_⟩
   cases d
   ·exact z4n f p (a+1) (q+1) h
   ·exact h
  ·show TrT n _ (if q>0 then kas_desc f (kas_rev p (a - (q+1)) a) (a+1) 0 else kas_desc f p (a+1) 0)
   split
   ·exact z4n f _ _ _ (h.rev _ _)
   ·exact z4n f _ _ _ h⟩
theorem z6v {p:Array Nat} (a m:Nat) (h:Pm n p):TrT n (fun r=>Pm n r.2) (kas_tail3 a m p):=(z8s hn (h.rev _ _) _ _).bind fun _ _=>h.rev _ _
theorem z3e {p:Array Nat} (a m:Nat) (h:Pm n p):TrT n (fun r=>Pm n r.2) (kas_descPart a m p):=(z4n hn _ _ _ _ h).bind fun r hr=>by
 split
 ·exact z6v hn _ _ (hr.rev _ _)
 ·exact z6v hn _ _ hr
theorem y0p {p:Array Nat} (m:Nat) (h:Pm n p):TrT n (fun r=>Pm n r.2) (kas_count m p):=(z8s hn h _ _).bind fun a _=>by
 split
 ·exact h
 ·split
  ·refine⟨h.lt hn _,h.lt hn _,fun b=>?_⟩
   cases b
   ·exact z3e hn _ _ (h.rev _ _)
   ·exact h
  ·exact z3e hn _ _ h
theorem z4m {p:Array Nat} (h:Pm n p) (k:Nat):∀f l r,TrT n (fun _=>True) (kas_place p k f l r)
 |0,_,_=>trivial
 |f+1,l,r=>by
  rw[kas_place]
  split
  ·exact trivial
  ·refine⟨h.lt hn _,h.lt hn _,fun b=>?_⟩
   cases b
   ·exact z4m h k f _ _
   ·exact z4m h k f _ _
theorem y1u:∀f (p:Array Nat) k,Pm n p→TrT n (Pm n) (kas_bin f p k)
 |0,_,_,h=>h
 |f+1,p,k,h=>(z4m hn h k _ _ _).bind fun l _=>y1u f _ _ (h.bub _ _)
theorem z4l:TrT n (Pm n) (kas_sort n):=(y0p hn n (show Pm n (List.toArray (List.range n)) from by unfold Pm;rw[List.toList_toArray])).bind fun r hr=>by
 split
 ·exact y1u hn _ _ _ hr
 ·exact hr
end
section
variable {X:Cx}{pins:List (Addr×Obj)}{σ:St}{H:Hp}{s:Shared}{l:Addr}{xs:List V}
mutual
theorem z6W {K:PySem.W.Frag}{H H':Hp} (g:Same H H'):∀{v:V}{d:Dt},IsD K H v d→IsD K H' v d
 |_,_,.i n=> .i n
 |_,_,.t q h=> .t (q.same g) (z2o g h)
 |_,_,.l q h=> .l (q.same g) (z2o g h)
theorem z2o {K:PySem.W.Frag}{H H':Hp} (g:Same H H'):∀{xs:List V}{ds:List Dt},IsDs K H xs ds→IsDs K H' xs ds
 |_,_,.nil => .nil
 |_,_,.cons a b=> .cons (z6W g a) (z2o g b)
end
def z1N (ds:List (List Dt)):List Nat:=if ds.length<2 then List.range ds.length else (z0T (fun i j=>lts (ds.getD i []) (ds.getD j [])) (kas_sort ds.length)).toList
theorem z1d (ds:List (List Dt)):(z1N ds).Perm (List.range ds.length):=by
 unfold z1N
 split
 ·exact List.Perm.refl _
 ·exact TrT.run _ _ (z4l (n:=ds.length) (by lia))
theorem Vals.pick {xs:List V}{us:List Value} (hV:Vals xs us):∀(p:List Nat),(∀i∈p,i<xs.length)→Vals (p.map fun i=>xs.getD i .non) (p.map fun i=>us.getD i Value.none)
 |[],_=> .nil
 |i::p,h=>by
  refine .cons ?_ (Vals.pick hV p fun j hj=>h j (.tail _ hj))
  have hi:=h i (.head _)
  obtain⟨u,hu,r⟩:=hV.get (q0b hi)
  show RelV (xs.getD i .non) (us.getD i Value.none)
  rw[q0c,q0b hi,q0c,hu]
  exact r
theorem range_getD (us:List Value):(List.range us.length).map (fun i=>us.getD i Value.none)=us:=List.ext_getElem (by simp) fun i h1 h2=>by
 rw[List.getElem_map,List.getElem_range,q0c,q0b h2];rfl
end
end Srt
open Srt
section
variable {X:Cx}{K:PySem.W.Frag}
end
end L2
set_option maxHeartbeats 1000000
namespace L2
open PySem PySem.Spec PyProof.Rows
section
variable {prog:Program}{w:World}{K:Type} [DecidableEq K] (hk:HeapKind prog w K)
inductive Items2 (h:Heap):List K→List Value→Prop
 |nil:Items2 h [] []
 |cons {k:K}{a:Addr}{ks:List K}{vs:List Value}:hk.is h k a→Items2 h ks vs→Items2 h (k::ks) (.ref a::vs)
def IsTup2 (h:Heap) (ks:List K) (a:Addr):Prop:=∃o items n,h.get? a=some o∧o.cls= .type "tuple"∧o.data= .seq items n∧Items2 hk h ks items.toList
variable {hk}
theorem Items2.inj {h:Heap}{x y:List K}{vs:List Value} (hx:Items2 hk h x vs) (hy:Items2 hk h y vs):x=y:=by
 induction hx generalizing y with
 |nil=>cases hy;rfl
 |cons h1 _ ih=>
  cases hy with
  |cons h2 t2=>rw[hk.inj h1 h2,ih t2]
theorem Items2.keeps {h h':Heap}{x:List K}{vs:List Value}{d:Addr}{o:Obj} {es ep} (hx:Items2 hk h x vs) (ho:h.get? d=some o) (hd:o.data= .dict es ep) (hs:Heap.SameBut d h h'):Items2 hk h' x vs:=by
 induction hx with
 |nil=>exact .nil
 |cons h1 _ ih=>exact .cons (hk.keeps h1 ho hd hs) ih
theorem IsTup2.typeIs {s:Shared}{ks:List K}{a:Addr} (x:IsTup2 hk s.heap ks a):s.TypeIs (.ref a) "tuple":=let ⟨o,_,_,ho,hc,_⟩:=x;⟨o,ho,hc⟩
theorem IsTup2.inj {h:Heap}{a:Addr}{x y:List K} (hx:IsTup2 hk h x a) (hy:IsTup2 hk h y a):x=y:=by
 obtain⟨o,items,n,ho,_,hd,hi⟩:=hx
 obtain⟨o',items',n',ho',_,hd',hi'⟩:=hy
 obtain rfl:o=o':=Option.some.inj (ho.symm.trans ho')
 rw[hd] at hd'
 injection hd' with h1 _
 subst h1
 exact hi.inj hi'
theorem IsTup2.keeps {h h':Heap}{ks:List K}{a d:Addr}{o:Obj} {es ep} (x:IsTup2 hk h ks a) (ho:h.get? d=some o) (hd:o.data= .dict es ep) (hs:Heap.SameBut d h h'):IsTup2 hk h' ks a:=by
 obtain⟨o',items,n,ho',hc,hd',hi⟩:=x
 have hne:a≠d:=by
  rintro rfl
  obtain rfl:o'=o:=Option.some.inj (ho'.symm.trans ho)
  rw[hd] at hd';exact nomatch hd'
 exact⟨o',items,n,(hs.2 a hne).trans ho',hc,hd',hi.keeps ho hd hs⟩
def z4k (hk:HeapKind prog w K) (ks:List K):Int:=reduceHash (Builtin.Tuple.tupleHashOf (ks.map hk.hash))
variable {A:Around}{E:Value→Shared→Prop}{s:Shared}
theorem z9N {ks:List K}{a:Addr}{Q:Int→Shared→Prop} (hu:A.units+1<cLine) (hroom:hk.room A.in1) (hx:IsTup2 hk s.heap ks a) (h:Q (z4k hk ks) {s with toks:=s.toks+((ks.map hk.draws).sum +1)}):
 wpAny (model prog w) A (pyHash (.ref a)) Q E s:=by
 have hT:=hx.typeIs
 obtain⟨o,items,n,ho,_,hd,hi⟩:=hx
 unfold pyHash
 first|unfold pyHashByItsType|skip
 first|refine wpAny_bind (wpAny_cRoomFor_or (.inr (Nat.lt_of_succ_lt hu)) ?_)|skip
 refine wpAny_bind (wpAny_specialOf hT F.slot_tuple_hash.lookup ?_)
 show wpAny _ _ (if (some (Value.builtin "tuple.__hash__")==some Value.none)=true then _ else _) Q E s
 rw[if_neg (by rw[beq_builtin_none];exact q0y)]
 refine wpAny_bind (wpAny_specialOf hT F.slot_tuple_hash.lookup ?_)
 show wpAny _ _ (callSpecialIfBoundUnlessNone? (.ref a) "__hash__" _>>= _) Q E s
 refine wpAny_bind (wpAny_callSpecialIfBoundUnlessNone?_slot hT F.slot_tuple_hash (wpAny_call_entry F.slot_tuple_hash hT F.entry_tuple_hash ?_ (F.args_tuple_hash_1 _)))
 show wpAny _ _ (Builtin.Tuple.tupleItemsOf (.ref a)>>= _) _ _ s
 refine wpAny_bind (wpAny_tupleItemsOf ho hd ?_)
 refine wpAny_bind ?_
 rw[←q1z]
 refine wpAny_forIn_list _
  (fun rest (b:Array Int) s'=>∃done left,ks=done++left∧Items2 hk s.heap left rest∧b.toList=done.map hk.hash∧s'={s with toks:=s.toks+(done.map hk.draws).sum})
  _ ?_ ?_ _ _ ⟨[],ks,rfl,hi,rfl,rfl⟩
 ·rintro x rest b s' ⟨done,left,rfl,hl,hb,rfl⟩
  cases hl with
  | @cons k a' ks' _ h1 hl'=>
    refine wpAny_bind (hk.pyHash ?_ h1 ?_)
    ·exact hroom
    ·first
      |exact wpAny_pure ⟨done++[k],ks',by simp,hl',by simp[hb],by simp[Nat.add_assoc]⟩
      |exact wpAny_bind (wpAny_pure (wpAny_pure ⟨done++[k],ks',by simp,hl',by simp[hb],by simp[Nat.add_assoc]⟩))
 ·rintro b s' ⟨done,left,rfl,hl,hb,rfl⟩
  cases hl
  rw[q1n] at h
  show wpAny _ _ (retInt (Builtin.Tuple.tupleHashOf b.toList)) _ _ _
  rw[hb]
  refine wpAny_ret_mkInt ?_
  show wpAny _ _ (if (decide (-(2:Int)^63≤Builtin.Tuple.tupleHashOf (done.map hk.hash))&&decide (Builtin.Tuple.tupleHashOf (done.map hk.hash)<2^63))=true then _ else _) Q E _
  unfold z4k reduceHash at h
  by_cases hr:(decide (-(2:Int)^63≤Builtin.Tuple.tupleHashOf (done.map hk.hash))&&decide (Builtin.Tuple.tupleHashOf (done.map hk.hash)<2^63))=true
  ·rw[if_pos hr]
   rw[if_pos hr] at h
   exact wpAny_pure (by simpa[Nat.add_assoc] using h)
  ·rw[if_neg hr]
   rw[if_neg hr] at h
   exact wpAny_bind (wpAny_rule (wpAny_pure (by simpa[Nat.add_assoc] using h)))
theorem y2D {x y:List K}{a b:Addr}{P:Fin→Shared→Prop} (hroom:hk.room A) (hx:IsTup2 hk s.heap x a) (hy:IsTup2 hk s.heap y b) (h:P (.done (.ret (.bool (decide (x=y))))) s):
 wpAny (model prog w) A (Builtin.«tuple.__eq__» ⟨[.ref a,.ref b],[]⟩) P E s:=by
 have hTb:=hy.typeIs
 obtain⟨oa,xs,na,hoa,_,hda,hia⟩:=hx
 obtain⟨ob,ys,nb,hob,_,hdb,hib⟩:=hy
 show wpAny _ _ (isInstance (.ref b) (.type "tuple")>>= _) _ _ s
 refine wpAny_bind (wpAny_isInstance hTb isSubtype_tuple_tuple ?_)
 simp only[Bool.not_true,q0Z,if_false]
 refine wpAny_bind (wpAny_tupleItemsOf hoa hda ?_)
 refine wpAny_bind (wpAny_tupleItemsOf hob hdb ?_)
 refine wpAny_bind ?_
 refine wpAny_forIn_list _
  (fun rest r s'=>r.1=none∧s'=s∧∃x' y' xs' ys',rest=List.zip xs' ys'∧Items2 hk s.heap x' xs'∧Items2 hk s.heap y' ys'∧decide (x'=y')=decide (x=y)∧(xs'.length==ys'.length)=(xs.size==ys.size))
  _ ?_ ?_ _ _ ⟨rfl,rfl,x,y,xs.toList,ys.toList,rfl,hia,hib,rfl,by simp⟩
 ·rintro⟨u,v⟩ rest r s' ⟨hr,rfl,x',y',xs',ys',hz,hx',hy',hdec,hlen⟩
  cases hx' with
  |nil=>simp at hz
  | @cons k1 u' x'' xs'' h1 hx''=>
    cases hy' with
    |nil=>simp at hz
    | @cons k2 v' y'' ys'' h2 hy''=>
      simp only[List.zip_cons_cons,List.cons.injEq,Prod.mk.injEq] at hz
      obtain⟨⟨rfl,rfl⟩,rfl⟩:=hz
      refine wpAny_bind (hk.eqBool (x:=k1) (y:=k2) hroom h1 h2 ?_)
      by_cases hkk:k1=k2
      ·subst hkk
       rw[decide_eq_true rfl]
       simp only[Bool.not_true,q0Z,if_false]
       refine wpAny_pure ⟨rfl,rfl,x'',y'',xs'',ys'',rfl,hx'',hy'',?_,by simpa using hlen⟩
       rw[←hdec]
       by_cases hxy:x''=y''
       ·simp[hxy]
       ·simp[hxy]
      ·rw[decide_eq_false hkk]
       simp only[Bool.not_false,if_true]
       have hf:decide (x=y)=false:=by rw[←hdec];simp[hkk]
       rw[hf] at h
       exact wpAny_bind (wpAny_pure (wpAny_pure (wpAny_pure h)))
 ·rintro⟨r1,r2⟩ s' ⟨hr,rfl,x',y',xs',ys',hz,hx',hy',hdec,hlen⟩
  simp only at hr
  subst hr
  refine wpAny_pure ?_
  have hfin:(xs.size==ys.size)=decide (x=y):=by
   rw[←hdec,←hlen]
   cases hx' with
   |nil=>
    cases hy' with
    |nil=>simp
    |cons _ _=>simp
   |cons _ _=>
    cases hy' with
    |nil=>simp
    |cons _ _=>simp at hz
  show P (.done (.ret (.bool (xs.size==ys.size)))) s'
  rw[hfin];exact h
theorem z6o {x y:List K}{a b:Addr}{Q:Bool→Shared→Prop} (hu:A.units<cLine) (hroom:hk.room A.in1) (hx:IsTup2 hk s.heap x a) (hy:IsTup2 hk s.heap y b) (h:Q (decide (x=y)) s):
 wpAny (model prog w) A (eqBool (.ref a) (.ref b)) Q E s:=by
 unfold eqBool
 try with_reducible refine wpAny_holding ?_
 show wpAny _ _ (if (Value.ref a==Value.ref b)=true then _ else _) Q E s
 by_cases hab:(Value.ref a==Value.ref b)=true
 ·rw[if_pos hab]
  have e:a=b:=by have:=eq_of_beq hab;injection this
  subst e
  obtain rfl:=hx.inj hy
  exact wpAny_bind (wpAny_rule (wpAny_pure (by simpa using h)))
 ·rw[if_neg hab]
  exact wpAny_bind (wpAny_richCompare_same_room (op:= .Eq) hx.typeIs hy.typeIs F.slot_tuple_eq
   (wpAny_call_entry F.slot_tuple_eq hx.typeIs F.entry_tuple_eq (y2D hroom hx hy ⟨_,rfl,(fun e=>nomatch e),wpAny_truthy_bool h⟩) (F.args_tuple_eq_2 _ _)) hu)
end
section
variable {prog:Program}{w:World}{K:Type} [DecidableEq K] {knd:KeyKind prog w K}{A:Around}{E:Value→Shared→Prop}{s:Shared}
theorem z8S (n:Nat) {ks:List K}{a:Addr}{Q:Bool→Shared→Prop} (hk:IsTupleKey knd s.heap ks a) (h:Q true s):wpAny (model prog w) A (eqIsQuiet (n+1) (.ref a)) Q E s:=by
 have hT:=hk.typeIs
 obtain⟨o,items,n',ho,_,hd,hi⟩:=hk
 unfold eqIsQuiet
 refine wpAny_bind (wpAny_specialOf hT F.slot_tuple_eq.lookup ?_)
 show wpAny _ _ (isInstance (.ref a) (.type "tuple")>>= _) _ _ s
 refine wpAny_bind (wpAny_isInstance hT isSubtype_tuple_tuple ?_)
 simp only[Bool.not_true,q0Z,if_false]
 refine wpAny_bind (wpAny_seqItems ho hd ?_)
 refine wpAny_bind ?_
 show wpAny _ _ (forIn items _ _) _ _ s
 rw[←q1z]
 refine wpAny_forIn_list _ (fun rest r s'=>r.1=none∧s'=s∧∀v∈rest,carriedByValue v=true) _ ?_ ?_ _ _ ⟨rfl,rfl,hi.byValue⟩
 ·rintro v rest r s' ⟨hr,rfl,hall⟩
  rw[eqIsQuiet_byValue _ (hall v q0i)]
  refine wpAny_bind (wpAny_pure ?_)
  simp only[Bool.not_true,q0Z,if_false]
  exact wpAny_pure ⟨rfl,rfl,fun u hu'=>hall u (q0f _ hu')⟩
 ·rintro⟨r1,r2⟩ s' ⟨hr,rfl,_⟩
  simp only at hr
  subst hr
  exact wpAny_pure h
theorem z7E {ks:List (List K)}{a:Addr}{Q:Bool→Shared→Prop} (hk:IsTup2 (tupleKind knd) s.heap ks a) (h:Q true s):wpAny (model prog w) A (eqIsQuiet 8 (.ref a)) Q E s:=by
 have hT:=hk.typeIs
 obtain⟨o,items,n',ho,_,hd,hi⟩:=hk
 unfold eqIsQuiet
 refine wpAny_bind (wpAny_specialOf hT F.slot_tuple_eq.lookup ?_)
 show wpAny _ _ (isInstance (.ref a) (.type "tuple")>>= _) _ _ s
 refine wpAny_bind (wpAny_isInstance hT isSubtype_tuple_tuple ?_)
 simp only[Bool.not_true,q0Z,if_false]
 refine wpAny_bind (wpAny_seqItems ho hd ?_)
 refine wpAny_bind ?_
 show wpAny _ _ (forIn items _ _) _ _ s
 rw[←q1z]
 refine wpAny_forIn_list _ (fun rest r s'=>r.1=none∧s'=s∧∃ks',Items2 (tupleKind knd) s.heap ks' rest) _ ?_ ?_ _ _ ⟨rfl,rfl,ks,hi⟩
 ·rintro v rest r s' ⟨hr,rfl,ks',hall⟩
  cases hall with
  |cons h1 h2=>
   refine wpAny_bind (z8S 6 h1 ?_)
   simp only[Bool.not_true,q0Z,if_false]
   exact wpAny_pure ⟨rfl,rfl,_,h2⟩
 ·rintro⟨r1,r2⟩ s' ⟨hr,rfl,_⟩
  simp only at hr
  subst hr
  exact wpAny_pure h
end
def z2g {prog:Program}{w:World}{K:Type} [DecidableEq K] (knd:KeyKind prog w K):HeapKind prog w (List (List K)) where
 is:=IsTup2 (tupleKind knd)
 hash:=z4k (tupleKind knd)
 draws:=fun ks=>(ks.map (tupleKind knd).draws).sum +1
 room:=fun A=>A.units+1<cLine
 inj:=fun hx hy=>hx.inj hy
 keeps:=fun x ho hd hs=>x.keeps ho hd hs
 pyHash:=fun hu hk h=>z9N hu hu hk h
 eqBool:=fun hu hx hy h=>z6o (Nat.lt_of_succ_lt hu) hu hx hy h
 quiet:=fun hk h=>z7E hk h
end L2
namespace L2
open PySem PySem.Spec PyProof.Rows
abbrev K2:=List (List Key)
def en2 (ks:List (K2×Addr)):List (K2×Addr×Value):=ks.map fun p=>(p.1,p.2,Value.bool true)
def isD2 (P:Program) (w:World) (a:Addr) (ks:List (K2×Addr)) (h:Heap):Prop:=(a==sysModules)=false∧ks.length≤sizeLine∧∃o es ep,h.get? a=some o∧o.ExactDict∧o.data= .dict es ep∧es.toList=(en2 ks).map (entryOfKey (z2g (z0K P w)))∧(ks.map (·.1)).Nodup
def D2 (P:Program) (w:World) (a:Addr) (ks:List (K2×Addr)):HO:= .ext (isD2 P w a ks)
def z3S (H:Hp) (k:K2) (a:Addr):Prop:=∃rs:List Addr,H a=some (.tup (rs.map V.ref))∧rs.length=k.length∧∀(i:Nat) (r:Addr) (x:List Key),rs[i]? =some r→k[i]? =some x→H r=some (.tup (x.map kV))
theorem z5x {P:Program}{w:World}{H:Hp}{h:Heap} (ok:HOk P w H h):∀{rs:List Addr}{k:K2}{us:List Value},rs.length=k.length→(∀(i:Nat) (r:Addr) (x:List Key),rs[i]? =some r→k[i]? =some x→H r=some (.tup (x.map kV)))→Vals (rs.map V.ref) us→Items2 (tupleKind (z0K P w)) h k us
 |[],[],us,_,_,hv=>by cases hv;exact .nil
 |[],_::_,us,hl,_,_=>by simp at hl
 |_::_,[],us,hl,_,_=>by simp at hl
 |r::rs,x::k,us,hl,hx,hv=>by
  rw[q0t] at hv
  cases hv with
  |cons h1 h2=>
   cases h1
   exact .cons (z6R ok (hx 0 r x rfl rfl)) (z5x ok (by simpa using hl) (fun i r' x' e1 e2=>hx (i+1) r' x' (by simpa using e1) (by simpa using e2)) h2)
theorem z6m {P:Program}{w:World}{H:Hp}{h:Heap}{a:Addr}{k:K2} (ok:HOk P w H h) (e:z3S H k a):(z2g (z0K P w)).is h k a:=by
 obtain⟨rs,h1,h2,h3⟩:=e
 obtain⟨_,its,r,o,q1,q2,n,q3⟩:=(show ObjOk P w H h a (.tup (rs.map V.ref)) from ok a _ h1)
 exact⟨o,its.toArray,n,q1,q2,q3,by simpa using z5x ok h2 h3 r⟩
theorem y4a {P:Program}{w:World}{H:Hp}{h:Heap}{a:Addr}{ks:List (K2×Addr)} (ok:HOk P w H h) (e:H a=some (D2 P w a ks)) (hk:∀p∈ks,z3S H p.1 p.2):(a==sysModules)=false∧ks.length≤sizeLine∧h.DictOfH (z2g (z0K P w)) a (en2 ks):=by
 obtain⟨⟨z,y,o,es,ep,h1,h2,h3,h4,h5⟩,_⟩:=(show ObjOk P w H h a (D2 P w a ks) from ok a _ e)
 refine⟨z,y,o,es,ep,h1,h2,h3,h4,fun x hx=>?_,?_⟩
 ·obtain⟨p,hp,rfl⟩:=q0e.mp hx
  exact z6m ok (hk p hp)
 ·unfold en2
  rw[q0w]
  exact h5
def z7G (ks:List (K2×Addr)) (k:K2) (b:Addr):List (K2×Addr):=if (ks.any fun p=>decide (p.1=k))=true then ks else ks++[(k,b)]
theorem z3V (ks:List (K2×Addr)) (k:K2) (b:Addr):storedH (en2 ks) k b (.bool true)=en2 (z7G ks k b):=by
 have e:(atKey (en2 ks) k).isSome =ks.any fun p=>decide (p.1=k):=by
  unfold atKey en2
  rw[Option.isSome_map]
  induction ks with
  |nil=>rfl
  |cons p ks ih=>
   rw[q0t,List.find?_cons,List.any_cons]
   by_cases c:p.1=k
   ·rw[decide_eq_true c];rfl
   ·rw[decide_eq_false c]
    simp only
    rw[ih];rfl
 have f:(en2 ks).map (putAt k (.bool true))=en2 ks:=by
  unfold en2
  rw[q0w]
  refine q0T fun p _=>?_
  show putAt k (.bool true) (p.1,p.2,Value.bool true)=_
  unfold putAt
  split<;>rfl
 unfold storedH z7G
 rw[e]
 split
 ·exact f
 ·unfold en2;rw[List.map_append];rfl
section
variable {X:Cx}{pins:List (Addr×Obj)}{σ:St}{H:Hp}{s:Shared}{a b:Addr}{A:Around}{E:Value→Shared→Prop}
theorem z8f {ks:List (K2×Addr)}{k:K2}{Q:Unit→Shared→Prop} (hu:A.units+2<cLine) (I:Inv X pins σ H s) (e:H a=some (D2 X.prog X.w a ks)) (hk:∀p∈ks,z3S H p.1 p.2) (eb:z3S H k b) (hl:ks.length<sizeLine) (h:∀s',Inv X pins σ (upd H a (D2 X.prog X.w a (z7G ks k b))) s'→Q () s'):
 wpAny (model X.prog X.w) A (setItem (.ref a) (.ref b) (.bool true)) Q E s:=by
 obtain⟨z,y,dd⟩:=y4a I.hok e hk
 have hz:(en2 ks).length ≤sizeLine:=by unfold en2;rw[List.length_map];exact y
 refine wpAny_setItem_heap (hsz:=hz) (show A.in1.units+1<cLine from hu) (z6m I.hok eb) dd fun h' dd' hs=>h _ ?_
 rw[z3V] at dd'
 obtain⟨q,es,ep,hq,h2,h3,h4,_,h5⟩:=dd'
 have hl2:(z7G ks k b).length ≤sizeLine:=by
  unfold z7G
  split
  ·exact y
  ·rw[q0x,q0I];lia
 have h5':((z7G ks k b).map (·.1)).Nodup :=by
  unfold en2 at h5
  rw[q0w] at h5
  exact h5
 refine z2F I (by rw[e];exact True.intro) hs ⟨q,hq⟩ ⟨⟨z,hl2,q,es,ep,hq,h2,h3,h4,h5'⟩,⟨q,hq⟩,fun h1 h2 p1 p2=>?_⟩
 obtain⟨a1,a2,o,es,ep,a3,a4⟩:=p1
 exact⟨a1,a2,o,es,ep,p2 _ a3,a4⟩
end
end L2
namespace L2
open PySem PySem.Spec PyProof.Rows
def sPut2 (X:Cx) (td ty tv:TE):TS:=fun D σ H=>tv σ H fun v H1=>td σ H1 fun x H2=>ty σ H2 fun y H3=>∃a b ks k,v= .bl true∧x= .ref a∧y= .ref b∧H3 a=some (D2 X.prog X.w a ks)∧(∀p∈ks,z3S H3 p.1 p.2)∧z3S H3 k b∧ks.length<sizeLine∧D.nx σ (upd H3 a (D2 X.prog X.w a (z7G ks k b)))
def y2U (X:Cx) (te tf:TE):TE:=fun σ H Q=>∀p,H p=none→te σ (upd H p (D2 X.prog X.w p [])) fun x H1=>tf σ H1 fun v H2=>∃b k,x= .ref b∧v= .bl true∧H2 p=some (D2 X.prog X.w p [])∧z3S H2 k b∧Q (.ref p) (upd H2 p (D2 X.prog X.w p [(k,b)]))
def y4d (X:Cx):List V→Hp→VK→Prop:=fun xs H Q=>∃(a:Addr) (ks:List (K2×Addr)),xs=[.ref a]∧H a=some (D2 X.prog X.w a ks)∧ks.length≤1000∧∀l,H l=none→Q (.ref l) (upd H l (.lst (ks.map fun p=>V.ref p.2)))
section
variable {X:Cx}{o i e f value:Expr}{pos pos' tpos:Pos}{td ty tv te tf:TE}
theorem y2k (hu:X.A.units+2<cLine) (ho:PE X o td) (hi:PE X i ty) (hv:PE X value tv) (hs:swapsWith value (some (.Subscript o i pos')) pos.line X.env=pure false):
 PS X (.Assign [.Subscript o i pos'] value pos) (sPut2 X td ty tv):=by
 intro pins s σ H D I h
 refine wpAny_Assign_Subscript (thn (hv pins s σ H _ I h) fun r s1 ⟨v,H1,I1,rv,q1⟩=>thn (ho pins s1 σ H1 _ I1 q1) fun u s2 ⟨x,H2,I2,rx,q2⟩=>thn (hi pins s2 σ H2 _ I2 q2) fun iv s3 ⟨y,H3,I3,ry,a,b,ks,k,ev,ex,ey,g,hk,eb,hl,q3⟩=>?_) hs
 subst ex ey ev
 obtain rfl:u=Value.ref a:=rx
 obtain rfl:iv=Value.ref b:=ry
 obtain rfl:r=Value.bool true:=rv
 exact z8f hu I3 g hk eb hl fun s4 I4=>⟨σ,_,I4,q3⟩
theorem y1k {P:Program}{w:World}{H:Hp} (h:Heap) (hb:sysModules<h.objs.size):ObjOk P w H (h.push {cls:= .type "dict",data:= .dict #[]}) h.objs.size (D2 P w h.objs.size []):=by
 refine⟨⟨beq_eq_false_iff_ne.mpr (Ne.symm (q0u hb)),q0A _,_,#[],0,q0l _ rfl,⟨rfl,rfl,rfl⟩,rfl,rfl,List.nodup_nil⟩,⟨_,q0l _ rfl⟩,fun h1 h2 p1 p2=>?_⟩
 obtain⟨a1,a2,o,es,ep,a3,a4⟩:=p1
 exact⟨a1,a2,o,es,ep,p2 _ a3,a4⟩
theorem z8g {pins:List (Addr×Obj)}{σ:St}{H:Hp}{s:Shared}{a b:Addr}{A:Around}{E:Value→Shared→Prop}{ks:List (K2×Addr)}{k:K2}{Q:Unit→Shared→Prop} (hu:A.units+1<cLine) (I:Inv X pins σ H s) (e:H a=some (D2 X.prog X.w a ks)) (hk:∀p∈ks,z3S H p.1 p.2) (eb:z3S H k b) (hl:ks.length<sizeLine) (h:∀s',Inv X pins σ (upd H a (D2 X.prog X.w a (z7G ks k b))) s'→Q () s'):
 wpAny (model X.prog X.w) A (dictSet a (.ref b) (.bool true)) Q E s:=by
 obtain⟨z,y,dd⟩:=y4a I.hok e hk
 have hz:(en2 ks).length ≤sizeLine:=by unfold en2;rw[List.length_map];exact y
 refine wpAny_dictSet_heap (hsz:=hz) hu (z6m I.hok eb) dd fun h' dd' hs=>h _ ?_
 rw[z3V] at dd'
 obtain⟨q,es,ep,hq,h2,h3,h4,_,h5⟩:=dd'
 have hl2:(z7G ks k b).length ≤sizeLine:=by
  unfold z7G
  split
  ·exact y
  ·rw[q0x,q0I];lia
 have h5':((z7G ks k b).map (·.1)).Nodup :=by
  unfold en2 at h5
  rw[q0w] at h5
  exact h5
 refine z2F I (by rw[e];exact True.intro) hs ⟨q,hq⟩ ⟨⟨z,hl2,q,es,ep,hq,h2,h3,h4,h5'⟩,⟨q,hq⟩,fun h1 h2 p1 p2=>?_⟩
 obtain⟨a1,a2,o,es,ep,a3,a4⟩:=p1
 exact⟨a1,a2,o,es,ep,p2 _ a3,a4⟩
theorem y0O (hu:X.A.units+2<cLine) (he:PE X e te) (hf:PE X f tf):PE X (.Dict [some e] [f] pos) (y2U X te tf):=by
 intro pins s σ H Q I q
 have hn:=I.hok.fresh (q0k s.heap.objs.size)
 have I1:=I.laid (a:=s.heap.objs.size) (o:=D2 X.prog X.w s.heap.objs.size []) (h':=s.heap.push {cls:= .type "dict",data:= .dict #[]}) (t':=s.toks) (fun _ _ q=>q0d _ q) (q0k _) (y1k s.heap I.big)
 refine wpAny_Dict_any rfl rfl (by simp) (by simp) ?_
 refine evalPairs_cons (thn (he pins _ σ _ _ I1 (q _ hn)) fun kv s2 ⟨x,H1,I2,rx,q1⟩=>?_)
 refine wpAny_bind (thn (hf pins s2 σ H1 _ I2 q1) fun vv s3 ⟨v,H2,I3,rv,b,k,ex,ev,e2,kb,q2⟩=>wpAny_bind (wpAny_standAt (wpAny_pure ?_)))
 subst ex ev
 obtain rfl:kv=Value.ref b:=rx
 obtain rfl:vv=Value.bool true:=rv
 refine evalPairs_nil ?_
 unfold storeAll
 rw[List.forIn_cons]
 refine wpAny_bind (wpAny_bind (z8g (by lia) I3 e2 (fun p hp=>nomatch hp) kb (by rw[sizeLine_eq];decide) fun s4 I4=>wpAny_pure ?_))
 show wpAny _ _ (forIn [] PUnit.unit _) _ _ _
 rw[List.forIn_nil]
 exact wpAny_pure ⟨.ref s.heap.objs.size,_,I4,rfl,q2⟩
theorem z8l (hc:X.calm=true):z1J X (.type "list") (y4d X):=by
 intro pins s σ H xs us Q I r h
 obtain⟨a,ks,rfl,ha,hn,q⟩:=h
 obtain⟨u,rfl,rx⟩:=r.one
 cases rx
 obtain⟨⟨hd,z,o,es,ep,h1,h2,h3,h4,h5⟩,_⟩:=(show ObjOk X.prog X.w H s.heap a (D2 X.prog X.w a ks) from I.hok a _ ha)
 have hl:es.size=ks.length:=by rw[←Array.length_toList,h4,List.length_map];unfold en2;rw[List.length_map]
 have hz:sizeLine=16777216:=sizeLine_eq
 refine W.kdl_call (y2x (es:=es) (ep:=ep) hd) (I.ok.hd hc) ⟨o,h1,h2.1,h3⟩ (by lia) fun h' tk acc' c' kp e itm=>?_
 have rv:Vals ((ks.map (·.2)).map V.ref) acc'.toList:=by
  refine z5h _ _ (by rw[q0a,q0K,itm.1,hl]) fun i u hu=>?_
  obtain⟨en,e1,e2⟩:=itm.2 i u (by rw[←Array.getElem?_toList];exact hu)
  have e3:(es.toList)[i]? =some en:=by rw[Array.getElem?_toList];exact e1
  rw[h4,q0j] at e3
  obtain⟨y,y1,y2⟩:=q0v.mp e3
  unfold en2 at y1
  rw[q0j] at y1
  obtain⟨p,p1,p2⟩:=q0v.mp y1
  exact⟨p.2,by rw[q0j,p1];rfl,by rw[e2,←y2,←p2];rfl⟩
 have q':=q s.heap.objs.size (I.hok.fresh (q0k _))
 rw[show (ks.map fun p=>V.ref p.2)=(ks.map (·.2)).map V.ref from by rw[q0w];rfl] at q'
 refine⟨.ref s.heap.objs.size,_,I.laid (o:= .lst ((ks.map (·.2)).map V.ref)) (t':=tk) kp (q0k _) ?_,rfl,q'⟩
 exact⟨by rw[q0a,q0a];lia,acc'.toList,c',rv,by simpa using e⟩
end
end L2
namespace L2
open PySem PySem.Spec PyProof.Rows
def It2 (P:Program) (w:World) (a:Addr) (o:Obj) (ks:List (K2×Addr)):It:=
 ⟨fun i H=>H a=some (.frz o (D2 P w a ks))∧i<ks.length,fun i H x H'=>H'=H∧(ks.map fun p=>V.ref p.2)[i]? =some x,fun i H=>H a=some (.frz o (D2 P w a ks))∧i=ks.length⟩
theorem y2a {P:Program}{w:World}{K:PySem.W.Frag}{tg:Expr} (a it:Addr) (o:Obj) (ks:List (K2×Addr)) (es:Array DictEntry) (ep:Nat) (hdat:o.data= .dict es ep) (hes:es.toList=(en2 ks).map (entryOfKey (z2g (z0K P w)))):
 y1V P w K tg (It2 P w a o ks) [it] it (fun i h=>h.IsKeyIter it a i ks.length ep) where
 mem:=by simp
 obj:=fun i h st b hb=>by
  have e:b=it:=by simpa using hb
  subst e
  obtain⟨o,e,c,d⟩:=st
  exact⟨o,e,fun v z=>by rw[d] at z;cases z⟩
 keep:=fun i h h' st k=>by
  obtain⟨o,e,c,d⟩:=st
  exact⟨o,k it (by simp) o e,c,d⟩
 item:=by
  intro X hP hw hK hc i pins s σ H E I hf st hg
  subst hP hw hK
  obtain⟨ha,hi⟩:=hg
  obtain⟨f0,f1,f2,f3,f4,f5⟩:=hf it (by simp)
  have ho:s.heap.get? a=some o:=(show ObjOk X.prog X.w H s.heap a (.frz o (D2 X.prog X.w a ks)) from I.hok a _ ha).1
  have hsz:es.size=ks.length:=by rw[←Array.length_toList,hes,List.length_map];unfold en2;rw[List.length_map]
  obtain⟨p,hp⟩:∃p,ks[i]? =some p:=⟨_,q0b hi⟩
  have he:es[i]? =some (entryOfKey (z2g (z0K X.prog X.w)) (p.1,p.2,Value.bool true)):=by
   rw[←Array.getElem?_toList,hes,q0j]
   unfold en2
   rw[q0j,hp];rfl
  refine z6S st ho hdat hsz he fun h' st' sb=>?_
  have I1:Inv X pins σ H {s with heap:=h'}:=I.turned (t':=s.toks) (fun b o hb e=>sb b o hb e) f0 f1 f3 f4 f5
  obtain⟨oi,e,c,d⟩:=id st'
  exact⟨_,rfl,y1d (s:={s with heap:=h'}) e c d (by decide) ⟨V.ref p.2,H,I1,rfl,⟨rfl,by rw[q0j,hp];rfl⟩,st',fun b hb=>(hf b hb).1⟩⟩
 done:=by
  intro X hP hw hK hc i pins s σ H E I hf st hg
  subst hP hw hK
  obtain⟨ha,hi⟩:=hg
  obtain⟨f0,f1,f2,f3,f4,f5⟩:=hf it (by simp)
  have ho:s.heap.get? a=some o:=(show ObjOk X.prog X.w H s.heap a (.frz o (D2 X.prog X.w a ks)) from I.hok a _ ha).1
  have hsz:es.size=ks.length:=by rw[←Array.length_toList,hes,List.length_map];unfold en2;rw[List.length_map]
  exact z9x st ho hdat hsz (Array.getElem?_eq_none (by lia)) (I.ok.hd hc) fun h' eb=>⟨rfl,I.turned (t':=s.toks) (fun b o hb e=>eb b o hb e) f0 f1 f3 f4 f5⟩
 self:=fun _ _ _ _ _ st h=>wpAny_pyIter_keyiter st h
theorem y2e (P:Program) (w:World) (a:Addr) (o:Obj) (ks:List (K2×Addr)):z4O (It2 P w a o ks) (ks.map fun p=>V.ref p.2).length (fun H=>H a=some (.frz o (D2 P w a ks))) (fun i H x H'=>H'=H∧(ks.map fun p=>V.ref p.2)[i]? =some x) where
 go:=fun i H h hi=>⟨h,by rw[q0a] at hi;exact hi⟩
 stop:=fun H h=>⟨h,by rw[q0a]⟩
 yld:=fun i H x H' h hi y=>y
section
variable {X:Cx}
def iD2 (X:Cx) (tl:TE):TI:=fun σ H R=>tl σ H fun v H1=>∃a ks,v= .ref a∧H1 a=some (D2 X.prog X.w a ks)∧∀o,R (It2 X.prog X.w a o ks) (upd H1 a (.frz o (D2 X.prog X.w a ks)))
theorem pi_d2 {tg l:Expr}{tl:TE} (hl:PE X l tl):PI X tg l (iD2 X tl):=by
 intro pins s σ H R I h
 refine thn (hl pins s σ H _ I h) fun v s1 ⟨x,H1,I1,r1,q1⟩=>?_
 obtain⟨a,ks,e,ha,q⟩:=q1
 subst e
 cases r1
 have oo:=(show ObjOk X.prog X.w H1 s1.heap a (D2 X.prog X.w a ks) from I1.hok a _ ha)
 obtain⟨⟨hd,z,o,es,ep,h1,h2,h3,h4,h5⟩,o2⟩:=id oo
 have hsz:es.size=ks.length:=by rw[←Array.length_toList,h4,List.length_map];unfold en2;rw[List.length_map]
 refine z4g h1 h2.1 h3 hd ?_
 have I2:Inv X pins σ (upd H1 a (.frz o (D2 X.prog X.w a ks))) s1:=z2F (t':=s1.toks) (h':=s1.heap) I1 (by rw[ha];exact True.intro) ⟨rfl,fun b _=>rfl⟩ ⟨o,h1⟩ ⟨h1,oo⟩
 refine⟨s1.heap.objs.size,[s1.heap.objs.size],_,_,_,rfl,I2.kept (t':=s1.toks) fun b o e=>q0d _ e,y2a a _ o ks es ep h3 h4,⟨_,q0l _ rfl,rfl,by rw[hsz];rfl⟩,fun b hb=>?_,q o⟩
 have e:b=s1.heap.objs.size:=by simpa using hb
 subst e
 exact I2.fpOk (q0k _) (I2.hok.fresh (q0k _))
end
end L2
namespace L2
open PySem PySem.Spec PyProof.Rows
theorem z8h {J:It}{n:Nat}{Ok:Hp→Prop}{ps:List (V×V)} (hx:n=ps.length) (R:z4O J n Ok (fun i H x H'=>∃p u v,x= .ref p∧H p=none∧ps[i]? =some (u,v)∧H'=upd H p (.tup [u,v]))) {fr:List (Option Nat)}{g:TG}{tt:TT}{te:TE}{σ:St}{H1:Hp}{Q:VK}{D:Addr} (hD:H1 D=none) (tst:Nat→Bool) (val:V×V→V)
 (hg:∀p u v σ H,H p=some (.tup [u,v])→∀S:St→Hp→Prop,S ((σ.set 0 (some u)).set 1 (some v)) H→g (.ref p) σ H S)
 (hok:∀H,Same H1 H→Ok H) (hn:n≤sizeLine)
 (ht:∀(i:Nat) c,ps[i]? =some c→∀Hc,Same H1 Hc→∀S:Bool→Hp→Prop,(∀H',Same Hc H'→S (tst i) H')→tt (((z0z fr σ).set 0 (some c.1)).set 1 (some c.2)) Hc S)
 (hv:∀(i:Nat) c,ps[i]? =some c→∀Hc,Same H1 Hc→∀S:VK,S (val c) Hc→te (((z0z fr σ).set 0 (some c.1)).set 1 (some c.2)) Hc S)
 (q:∀H',Same H1 H'→H' D=some (.lst (((List.range ps.length).filter tst).map fun i=>val (ps.getD i (.non,.non))))→Q (.ref D) H'):
 z2s J g tt te Q D (z0z fr σ) (upd H1 D (.lst [])):=by
 subst hx
 refine z2G R (fun i acc σ' H'=>((∃o1 o2,σ'=((z0z fr σ).set 0 o1).set 1 o2)∨σ'=z0z fr σ)∧Same H1 H'∧H' D=some (.lst acc)∧acc=((List.range i).filter tst).map fun i=>val (ps.getD i (.non,.non))) ⟨.inr rfl,z0d hD _,z0b,by simp⟩ ?_ hn ?_ ?_
 ·rintro i acc σ' H' hi ⟨_,hs,_,rfl⟩
  refine⟨hok _ hs,?_⟩
  rw[q0a]
  refine q0q (q1f _ _) ?_
  rw[q1e];exact q0k _
 ·rintro N i x acc σ' H' H'' hi ⟨hσ,hs,hd,ha⟩ ⟨p,u,v,rfl,hp,hc,rfl⟩ n1 n2
  have g2:=z0d hp (.tup [u,v])
  have hs2:=hs.trans g2
  have hd2:=g2 _ _ hd
  have e2:upd H' p (.tup [u,v]) p=some (.tup [u,v]):=z0b
  generalize upd H' p (.tup [u,v])=H2 at*
  have eg:ps.getD i (.non,.non)=(u,v):=by rw[q0c,hc];rfl
  have eσ:(σ'.set 0 (some u)).set 1 (some v)=((z0z fr σ).set 0 (some u)).set 1 (some v):=by
   rcases hσ with⟨o1,o2,rfl⟩|rfl
   ·exact z5U _ _ _ _ _
   ·rfl
  refine hg p u v σ' H2 e2 _ ?_
  rw[eσ]
  refine ht i (u,v) hc H2 hs2 _ fun H3 g3=>?_
  have hs3:=hs2.trans g3
  have hd3:=g3 _ _ hd2
  cases hb:tst i with
  |true=>
   refine z5y ?_
   refine hv i (u,v) hc H3 hs3 _ ?_
   refine n1 _ _ _ hd3 ⟨.inl ⟨_,_,rfl⟩,fun b o e=>?_,z0b,?_⟩
   ·rw[z0h (z0f e hD)];exact hs3 _ _ e
   ·rw[List.range_succ,ha,q0Y,q0m,q1b hb]
    show _=_++[val (ps.getD i (.non,.non))]
    rw[eg]
  |false=>
   refine z1X ?_
   refine n2 _ _ ⟨.inl ⟨_,_,rfl⟩,hs3,hd3,?_⟩
   rw[List.range_succ,ha,q0Y,q0m,q1c (by simp[hb])];simp
 ·rintro acc σ' H' ⟨_,hs,hd,ha⟩
  exact q H' hs (by rw[hd,ha])
end L2
set_option maxHeartbeats 4000000
namespace L2
open PySem PySem.Spec PyProof.Rows
namespace Srt
open PySem.W (KasT kas_sort kas_count kas_bin kas_place kas_descPart kas_tail3 kas_desc kas_asc kas_rev kas_item kas_st kas_cmp kas_runs kasC kas_range KatLex KatTups kat_lt kat_cons kat_yes kat_no kat_nil kat_one)
section
variable {X:Cx}{pins:List (Addr×Obj)}{σ:St}{H:Hp}{s:Shared}{l:Addr}{xs:List V}
theorem bT:(Value.type "int" != Value.type "tuple")=true:=by first|rfl|decide|simp
theorem z6X {K:PySem.W.Frag}{H:Hp}:∀{xs:List V}{ds:List (List Dt)}{us:List Value},IsDs K H xs (ds.map Dt.t)→Vals xs us→∀i,i<ds.length→IsD K H (xs.getD i .non) (.t (ds.getD i []))∧RelV (xs.getD i .non) (us.getD i Value.none):=by
 intro xs
 induction xs with
 |nil=>
  intro ds us h1 h2 i hi
  cases ds with
  |nil=>exact absurd hi (Nat.not_lt_zero _)
  |cons d ds=>cases h1
 |cons x xs ih=>
  intro ds us h1 h2 i hi
  cases ds with
  |nil=>cases h1
  |cons d ds=>
   cases h1 with
   |cons a1 a2=>
   cases h2 with
   |cons b1 b2=>
   cases i with
   |zero=>exact⟨a1,b1⟩
   |succ i=>exact ih a2 b2 i (by simpa using hi)
theorem z9A (I:Inv X pins σ H s):∀{xs:List V}{ds:List (List Dt)}{us:List Value},IsDs X.K H xs (ds.map Dt.t)→(∀a∈ds,∃n r,a=Dt.i n::r)→Vals xs us→∃fs,KatTups s.heap us fs∧fs.length=us.length∧∀f∈fs,∃n t,f=Value.int n t
 |[],[],us,_,_,hV=>by
  cases hV
  exact⟨[],trivial,rfl,fun f hf=>nomatch hf⟩
 |[],_::_,us,h,_,_=>nomatch h
 |_::_,[],us,h,_,_=>nomatch h
 |x::xs,d::ds,us,h,hf,hV=>by
  cases hV with
  |cons r1 r2=>
  cases h with
  |cons h1 h2=>
  obtain⟨fs,t1,t2,t3⟩:=z9A I h2 (fun a ha=>hf a (q0f _ ha)) r2
  obtain⟨n,r,rfl⟩:=hf d q0i
  cases h1 with
  | @t a ys es q1 d1=>
  cases d1 with
  |cons e1 e2=>
  obtain⟨its,rv,p,hz⟩:=I.tuple q1
  cases rv with
  |cons v1 v2=>
  cases e1
  obtain⟨t,rfl⟩:=v1
  obtain⟨o,p1,p2,k,p3⟩:=id p
  cases (show _=Value.ref a from r1)
  refine⟨_::fs,⟨⟨a,o,_,k,rfl,p1,p2,p3,by rw[List.getElem?_toArray];rfl⟩,t1⟩,by rw[q0D,q0D,t2],fun f hf=>?_⟩
  rcases q0o.mp hf with rfl|hf
  ·exact⟨_,_,rfl⟩
  ·exact t3 f hf
theorem z6P (I:Inv X pins σ H s) {A:Around}{Q:Bool→Shared→Prop}{n:Nat} (hu:A.units+n<cLine):∀{xs ys:List V}{ds es:List Dt}{its its2:List Value} (i:Nat),IsDs X.K H xs ds→IsDs X.K H ys es→Vals xs its→Vals ys its2→Dt.oks n ds es=true→(i=0→(∃k r,ds= .i k::r)∧∃k r,es= .i k::r)→Q (lts ds es) s→KatLex X.prog X.w A true (decide (its.length<its2.length)) Q (its.zip its2) i s
 |[],ys,ds,es,its,its2,i,h1,h2,v1,v2,ok,hi,h=>by
  cases h1
  cases v1
  have e:lts [] es=decide (([]:List Value).length <its2.length):=by
    cases h2<;>cases v2<;>simp[lts]
  rw[e] at h
  exact kat_nil h
 |x::xs,[],ds,es,its,its2,i,h1,h2,v1,v2,ok,hi,h=>by
  cases h2
  cases v2
  cases h1 with
  |cons a1 a2=>
  cases v1 with
  |cons b1 b2=>
  rw[lts] at h
  rw[List.zip_nil_right]
  refine kat_nil ?_
  rw[decide_eq_false (by simp)]
  exact h
 |x::xs,y::ys,ds,es,its,its2,i,h1,h2,v1,v2,ok,hi,h=>by
  cases h1 with
  | @cons _ d _ ds a1 a2=>
  cases h2 with
  | @cons _ e _ es c1 c2=>
  cases v1 with
  | @cons _ u _ us b1 b2=>
  cases v2 with
  | @cons _ u2 _ us2 f1 f2=>
  rw[Dt.oks,q1j] at ok
  rw[lts] at h
  rw[List.zip_cons_cons]
  have hd:decide ((u::us).length <(u2::us2).length)=decide (us.length<us2.length):=by simp
  rw[hd]
  refine kat_cons (told I n A hu x y d e u u2 a1 c1 b1 f1 ok.1 _ _ _ _ ?_)
  by_cases hq:Dt.eqb d e=true
  ·rw[hq]
   rw[if_pos hq] at h
   exact kat_yes (z6P I hu (i+1) a2 c2 b2 f2 ok.2 (fun z=>by lia) h)
  ·rw[Bool.not_eq_true] at hq
   rw[hq]
   rw[if_neg (by rw[hq];decide)] at h
   refine kat_no ?_
   by_cases h0:i=0
   ·obtain⟨⟨k,r,e1⟩,k2,r2,e2⟩:=hi h0
    injection e1 with e1 _
    injection e2 with e2 _
    subst e1 e2 h0
    cases a1
    cases c1
    obtain⟨t,rfl⟩:=b1
    obtain⟨t2,rfl⟩:=f1
    exact oneLt_int h
   ·have:(true&&i==0)=false:=by simp[h0]
    rw[this]
    refine kat_one _ _ ?_
    exact y2u I n A hu x y d e u u2 a1 c1 b1 f1 ok.1 _ _ _ _ h
theorem y1t (I:Inv X pins σ H s) {A:Around}{E:Value→Shared→Prop}{Q:Bool→Shared→Prop}{n:Nat}{v u:V}{ds es:List Dt}{x y:Value} (hu:A.units+n+1<cLine) (hv:IsD X.K H v (.t ds)) (hw:IsD X.K H u (.t es)) (r1:RelV v x) (r2:RelV u y) (ok':Dt.oks n ds es=true) (f1:∃k r,ds= .i k::r) (f2:∃k r,es= .i k::r)
 (h:Q (lts ds es) s):wpAny (model X.prog X.w) A (keyLt' (tuples' true) x y) Q E s:=by
 cases hv with
 | @t a xs ds q1 d1=>
 cases hw with
 | @t b ys es q2 d2=>
 cases (show x=Value.ref a from r1)
 cases (show y=Value.ref b from r2)
 obtain⟨its,rv,p,hz⟩:=I.tuple q1
 obtain⟨its2,rv2,p2,hz2⟩:=I.tuple q2
 obtain⟨o,p1,_,k,p3⟩:=id p
 obtain⟨o2,p4,_,k2,p5⟩:=id p2
 refine kat_lt p1 p3 p4 p5 ?_
 rw[q0h,q0h]
 exact z6P I (by lia) 0 d1 d2 rv rv2 ok' (fun _=>⟨f1,f2⟩) h
theorem z8J {Q:VK}{ds:List (List Dt)} (hu:X.A.units+64<cLine) (I:Inv X pins σ H s) (hl:H l=some (.lst xs)) (h64:xs.length<64) (hd:IsDs X.K H xs (ds.map Dt.t)) (hf:∀a∈ds,∃n r,a=Dt.i n::r) (hok:∀a∈ds,∀b∈ds,Dt.oks 8 a b=true)
 (q:∀(D:Addr) (H':Hp),H D=none→Same H H'→H' D=some (.lst ((z1N ds).map fun i=>xs.getD i .non))→Q (.ref D) H'):
 wpAny (model X.prog X.w) X.A (call (.builtin "sorted") [.ref l]) (EP X pins σ Q) X.xe s:=by
 obtain⟨z,us,n,hV,hlen,el⟩:=I.lstM hl
 have dl:xs.length=ds.length:=by rw[hd.length,q0a]
 refine Calls.call_function_entry kind_sorted plain_sorted entry_sorted (args_sorted1 _) ?_
 unfold Builtin.«sorted»
 refine wpAny_bind (m:=checkCount "sorted" 1 1 _) (wpAny_pure ?_)
 refine wpAny_bind (collect_list (vs:=us) ⟨_,el,rfl,_,rfl⟩ ?_ (by rw[←hlen];exact z))
 refine wpAny_bind (wpAny_newList ?_ (by rw[←hlen];exact z))
 have hsz:((s.heap.push (seqObj "list" #[] 0)).update s.heap.objs.size (Obj.mapSeq (· ++us.toArray))).objs.size =s.heap.objs.size+1:=by
  rw[Heap.size_update,size_push']
 have hoL:(((s.heap.push (seqObj "list" #[] 0)).update s.heap.objs.size (Obj.mapSeq (· ++us.toArray))).push (seqObj "list" us.toArray 0)).get? (s.heap.objs.size+1)=some (seqObj "list" us.toArray 0):=by
  rw[←hsz];exact q0l _ rfl
 have keep:∀b o,s.heap.get? b=some o→(((s.heap.push (seqObj "list" #[] 0)).update s.heap.objs.size (Obj.mapSeq (· ++us.toArray))).push (seqObj "list" us.toArray 0)).get? b=some o:=fun b o e=>by
  have hlt:b<s.heap.objs.size:=q0p e
  rw[Heap.get?_push_ne _ _ _ (by rw[hsz];exact q0u (q0U hlt)),Heap.get?_update_ne _ _ _ _ (q0u hlt),Heap.get?_push_ne _ _ _ (q0u hlt)]
  exact e
 have fr1:H (s.heap.objs.size+1)=none:=I.hok.fresh (q1r _)
 have I1:=I.laid (a:=s.heap.objs.size+1) (o:= .lst xs) (t':=s.toks) keep (q1r _) ⟨z,us,0,hV,hoL⟩
 show wpAny _ _ _ _ _ {s with heap:=((s.heap.push (seqObj "list" #[] 0)).update s.heap.objs.size (Obj.mapSeq (· ++us.toArray))).push (seqObj "list" us.toArray 0)}
 rw[hsz]
 generalize hD:s.heap.objs.size+1=D at*
 generalize hh1:((s.heap.push (seqObj "list" #[] 0)).update s.heap.objs.size (Obj.mapSeq (· ++us.toArray))).push (seqObj "list" us.toArray 0)=h1 at*
 refine wpAny_bind (wpAny_holding (wpAny_call_entry slot_list_sort ⟨_,hoL,rfl⟩ entry_list_sort ?body (args_list_sort _)))
 case body=>
  show wpAny (model X.prog X.w) X.A.in1.in1 (Builtin.«list.sort» ⟨[.ref D],[]⟩) _ _ _
  rw[list_sort_plain]
  refine wpAny_bind (listItems_at hoL rfl ?_)
  refine wpAny_bind (listUpdate_at hoL rfl ?_ (by rw[q0h,←hlen];exact z) (q0A _))
  obtain⟨e1,ho1⟩:∃e1,(h1.update D (Obj.mapSeq fun _=>(#[]:Array Value))).get? D=some (seqObj "list" #[] e1):=⟨_,get?_update_seq hoL fun _=> #[]⟩
  have I2:=I1.write (x:=D) (e:=D) (o:=EL D e1) (h':=h1.update D (Obj.mapSeq fun _=>(#[]:Array Value))) (t':=s.toks) (by rw[z0b];exact trivial) (.inl rfl) (fun b u hb hu=>(q0P _ _ (Ne.symm hb)).trans hu) ⟨_,ho1⟩ (EL.ok ho1)
  rw[z3d] at I2
  generalize h1.update D (Obj.mapSeq fun _=>(#[]:Array Value))=h2 at*
  refine wpAny_bind (seqEpoch_at ho1 rfl ?_)
  refine wpAny_bind (wpAny_newTuple ?_ (by rw[q1k,←hlen];exact z))
  refine wpAny_bind (wpAny_newList ?_ (q0A _))
  refine wpAny_holding ?_
  have I3:=I2.kept (h':=h2.push (seqObj "tuple" us.toArray 0)) (t':=s.toks) (fun b u e=>q0d _ e)
  have I4:=I3.kept (h':=(h2.push (seqObj "tuple" us.toArray 0)).push (seqObj "list" #[] 0)) (t':=s.toks) (fun b u e=>q0d _ e)
  have n4:((h2.push (seqObj "tuple" us.toArray 0)).push (seqObj "list" #[] 0)).get? D=some (seqObj "list" #[] e1):=q0d _ (q0d _ ho1)
  generalize (h2.push (seqObj "tuple" us.toArray 0)).push (seqObj "list" #[] 0)=h4 at*
  show wpAny (model X.prog X.w) X.A.in1.in1 _ _ _ {s with heap:=h4}
  dsimp only
  have gD:Same H (upd H D (EL D e1)):=fun b o e=>by rw[z0h (z0f e fr1)];exact e
  have pl:(z1N ds).length =ds.length:=by rw[(z1d ds).length_eq,q1e]
  have hout:∀i∈z1N ds,i<xs.length:=fun i hi=>by rw[dl];exact q1a.mp ((z1d ds).mem_iff.mp hi)
  have fin:∀(out:Array Value),out=List.toArray ((z1N ds).map fun i=>us.getD i Value.none)→EP X pins σ Q (.ref D) {s with heap:=h4.update D (Obj.mapSeq fun _=>out)}:=fun out ho=>by
   subst ho
   obtain⟨c2,hc2⟩:∃c2,(h4.update D (Obj.mapSeq fun _=>List.toArray ((z1N ds).map fun i=>us.getD i Value.none))).get? D=some (seqObj "list" (List.toArray ((z1N ds).map fun i=>us.getD i Value.none)) c2):=⟨_,get?_update_seq n4 fun _=>List.toArray ((z1N ds).map fun i=>us.getD i Value.none)⟩
   have J:=I4.write (x:=D) (e:=D) (o:= .lst ((z1N ds).map fun i=>xs.getD i .non)) (h':=h4.update D (Obj.mapSeq fun _=>List.toArray ((z1N ds).map fun i=>us.getD i Value.none))) (t':=s.toks) (by rw[z0b];exact trivial) (.inl rfl) (fun b u hb hu=>(q0P _ _ (Ne.symm hb)).trans hu) ⟨_,hc2⟩
        ⟨by rw[q0a,pl,←dl];exact z,_,c2,Vals.pick hV _ hout,hc2⟩
   rw[z3d] at J
   exact⟨.ref D,_,J,rfl,q D _ fr1 (fun b o e=>by rw[z0h (z0f e fr1)];exact e) z0b⟩
  have tail:∀(st':SortSt),(arrOf st').map (·.2)=List.toArray ((z1N ds).map fun i=>us.getD i Value.none)→failedOf st'=none→
        wpAny (model X.prog X.w) X.A.in1.in1 (do
         let touched:=(←seqEpoch D) != e1
         Builtin.List.listUpdate (.ref D) fun _=>(arrOf st').map (·.2)
         if let some e:=failedOf st' then rule "list.sort.comparison-raised";throw e
         if touched then rule "list.sort.modified";raiseError "ValueError" "list modified during sort"
         ret .none) (fun fin s'=>∃v,fin=PySem.Fin.done (.ret v)∧EP X pins σ Q (.ref D) s') (fun _ _=>False) {s with heap:=h4}:=fun st' ho hf=>by
   refine wpAny_bind (seqEpoch_at n4 rfl ?_)
   refine wpAny_bind (listUpdate_at n4 rfl ?_ (q0A _) (by rw[ho,q0h,q0a,pl,←dl];exact Nat.le_succ_of_le z))
   rw[hf]
   simp only[bne_self_eq_false,q0Z,if_false]
   rw[ho]
   exact wpAny_pure ⟨_,rfl,fin _ rfl⟩
  have z2:(us.toArray.zip us.toArray).map (·.2)=us.toArray:=by
   apply Array.toList_inj.mp
   rw[Array.toList_map,Array.toList_zip]
   exact List.map_snd_zip (q0k _)
  by_cases h2:us.toArray.size<2
  ·rw[if_pos h2,if_pos h2]
   refine wpAny_bind (wpAny_pure ?_)
   rw[StateT.run_pure]
   refine wpAny_bind (wpAny_pure ?_)
   refine wpAny_mono (tail (SortSt.mk' general' (us.toArray.zip us.toArray) #[] 7 none) ?_ rfl) ?_ (fun _ _ h=>h.elim)
   ·show (us.toArray.zip us.toArray).map (·.2)=_
    rw[q0h] at h2
    have e:z1N ds=List.range us.length:=by unfold z1N;rw[if_pos (by lia)];rw[←dl,hlen]
    rw[z2,e]
    congr 1
    exact (range_getD us).symm
   ·rintro fin' s' ⟨v,rfl,h⟩
    exact⟨_,rfl,wpAny_pure ⟨_,rfl,h⟩⟩
  ·rw[if_neg h2,if_neg h2]
   rw[q0h] at h2
   have hn:2≤us.length:=by lia
   have hd4:=z2o gD hd
   have item:∀i,i<us.length→IsD X.K (upd H D (EL D e1)) (xs.getD i .non) (.t (ds.getD i []))∧RelV (xs.getD i .non) (us.getD i Value.none):=fun i hi=>z6X hd4 hV i (by lia)
   obtain⟨fs,tf,lf,zf⟩:=z9A I4 hd4 hf hV
   refine wpAny_bind (PySem.W.kat_kind (T:= .type "int") (fs:=fs) tf (by lia) (fun v hv=>?_) rfl ?_)
   ·obtain⟨n,t,rfl⟩:=zf v hv
    exact PySem.W.Looks.of_pure rfl
   rw[bT]
   have est:SortSt.mk' (tuples' true) (us.toArray.zip us.toArray) #[] 7 none=kas_st (tuples' true) (pairsOf us) (List.toArray (List.range us.length)):=by
        have e:=kas_range (pairsOf us)
        rw[pairsOf_size] at e
        show SortSt.mk' (tuples' true) (pairsOf us) #[] 7 none=SortSt.mk' (tuples' true) ((List.toArray (List.range us.length)).map (kas_item (pairsOf us))) #[] 7 none
        rw[e]
   have ask:(kas_sort us.length).kasWp (kas_cmp X.prog X.w X.A.in1.in1 (tuples' true) (pairsOf us)) (fun p s'=>s'={s with heap:=h4}∧p.toList=z1N ds) {s with heap:=h4}:=by
        refine TrT.wp (n:=us.length) (c:=fun i j=>lts (ds.getD i []) (ds.getD j [])) (fun i j C hi hj hC=>?_) (z4l (by lia)) ⟨rfl,?_⟩
        ·unfold kas_cmp
         rw[PySem.W.kas_item_eq,PySem.W.kas_item_eq]
         obtain⟨c1,c2⟩:=item i hi
         obtain⟨c3,c4⟩:=item j hj
         refine y1t (n:=8) I4 (show X.A.units+1+1+8+1<cLine by lia) c1 c3 c2 c4 (hok _ ?_ _ ?_) (hf _ ?_) (hf _ ?_) hC
         all_goals rw[q0c,q0b (by lia)];exact q0F _
        ·unfold z1N
         rw[if_neg (by lia),←dl,hlen]
   have run:=kas_runs (E:=fun _ _=>False) (Q:=fun _ st' s'=>s'={s with heap:=h4}∧(arrOf st').map (·.2)=List.toArray ((z1N ds).map fun i=>us.getD i Value.none)∧failedOf st'=none) hn (by lia) (fun p' st' s' a1 a2 a3 a4=>⟨a4.1,?_,a3⟩) ask
   ·rw[←est] at run
    refine wpAny_bind (wpAny_mono run ?_ fun _ _ e=>e.elim)
    rintro⟨⟨⟩,st'⟩ s' ⟨rfl,ho,hf⟩
    refine wpAny_mono (tail st' ho hf) ?_ (fun _ _ h=>h.elim)
    rintro fin' s' ⟨v,rfl,h⟩
    exact⟨_,rfl,wpAny_pure ⟨_,rfl,h⟩⟩
   ·apply Array.toList_inj.mp
    rw[a2,Array.map_map,Array.toList_map,a4.2]
    exact q0T fun i _=>by show (kas_item (pairsOf us) i).2 =_;rw[PySem.W.kas_item_eq]
end
end Srt
open Srt
section
variable {X:Cx}{K:PySem.W.Frag}
def y4c (K:PySem.W.Frag):List V→Hp→VK→Prop:=fun vs H Q=>∃(l:Addr) (xs:List V) (ds:List (List Dt)),vs=[.ref l]∧H l=some (.lst xs)∧xs.length<64∧IsDs K H xs (ds.map Dt.t)∧(∀a∈ds,∃n r,a=Dt.i n::r)∧(∀a∈ds,∀b∈ds,Dt.oks 8 a b=true)∧
 ∀(D:Addr) (H':Hp),H D=none→Same H H'→H' D=some (.lst ((z1N ds).map fun i=>xs.getD i .non))→Q (.ref D) H'
theorem z8k (hK:X.K=K) (hu:X.A.units+64<cLine):z1J X (.builtin "sorted") (y4c K):=by
 subst hK
 intro pins s σ H xs us Q I r h
 obtain⟨l,ys,ds,rfl,hl,h64,hd,hf,ok,q⟩:=h
 obtain⟨u,rfl,ru⟩:=z4Q r
 cases (show u=Value.ref l from ru)
 exact z8J hu I hl h64 hd hf ok q
end
end L2
namespace L2
open PySem PySem.Spec PyProof.Rows
open PySem.W (CodeHd tabObj kla_obj kla_fn kla_eval kla_makeFunction kla_makeFunctionHit kla_callFunE kla_codeExpr)
namespace Lam
def CdAt (c':Addr) (qual:Str):HO:= .ext fun h=>h.CodeRec (.ref c') qual
theorem CdAt.ok {P:Program}{w:World}{H:Hp}{h:Heap}{c':Addr}{qual:Str} (e:h.CodeRec (.ref c') qual):ObjOk P w H h c' (CdAt c' qual):=by
 obtain⟨c,o,vs,t,e1,e2,e3,e4⟩:=id e
 cases e1
 refine⟨e,⟨o,e2⟩,fun h1 h2 q k=>?_⟩
 obtain⟨c,o,vs,t,e1,e2,e3,e4⟩:=q
 cases e1
 exact⟨_,o,vs,t,rfl,k _ e2,e3,e4⟩
def FnAt (f:Addr) (o:Obj):HO:= .ext fun h=>h.get? f=some o
theorem FnAt.ok {P:Program}{w:World}{H:Hp}{h:Heap}{f:Addr}{o:Obj} (e:h.get? f=some o):ObjOk P w H h f (FnAt f o):=⟨e,⟨_,e⟩,fun _ _ q k=>k _ q⟩
def BmAt (mg:Str→Option Value) (h:Heap):Prop:=∃bm ob,mg "__builtins__"=some (.ref bm)∧bm≠builtinsNs∧h.get? bm=some ob∧ob.cls= .type "module"∧ob.dict=some builtinsNs∧ob.data= .plain
def TabOk (P:Addr) (line col:Nat) (qual:Str) (H:Hp):Prop:=H P=some (.tbl #[])∨∃c',H P=some (.tbl #[rawInt line,rawInt col,.ref c'])∧H c'=some (CdAt c' qual)
def SameT (P:Addr) (H H':Hp):Prop:=∀b o,b≠P→H b=some o→H' b=some o
section
variable {X:Cx}{pins:List (Addr×Obj)}{σ:St}{H:Hp}{s:Shared}
theorem grown {P c':Addr}{qual:Str}{ps more:Array Value}{h':Heap}{tk:Nat}{ob:Obj} (I:Inv X pins σ H s) (hP:H P=some (.tbl ps)) (hx:Heap.ExtBut P s.heap h') (h1:s.heap.objs.size≤c') (h2:c'<h'.objs.size) (hc:h'.CodeRec (.ref c') qual)
 (ht:h'.get? P=some (tabObj (ps++more))) (hob:ob.isFreed=false):Inv X pins σ (upd (upd (upd H P (.tbl (ps++more))) c' (CdAt c' qual)) h'.objs.size (FnAt h'.objs.size ob)) {s with heap:=h'.push ob,toks:=tk}:=by
 have old:∀{b:Addr}{u:HO},H b=some u→b<s.heap.objs.size:=fun e=>I.hok.lt e
 have hPc:P≠c':=fun e=>by have:=old hP;rw[e] at this;exact absurd this (Nat.not_lt.mpr h1)
 have ne:∀b,b<s.heap.objs.size→b≠c'∧b≠h'.objs.size:=fun b hb=>⟨fun e=>by rw[e] at hb;exact absurd hb (Nat.not_lt.mpr h1),fun e=>by rw[e] at hb;exact absurd (q0B (q1q h1 h2) (Nat.le_of_lt hb)) (q1l _)⟩
 have up:∀b,b<s.heap.objs.size→b≠P→upd (upd (upd H P (.tbl (ps++more))) c' (CdAt c' qual)) h'.objs.size (FnAt h'.objs.size ob) b=H b:=fun b hb hp=>by
  rw[z0h (ne b hb).2,z0h (ne b hb).1,z0h hp]
 have upP:upd (upd (upd H P (.tbl (ps++more))) c' (CdAt c' qual)) h'.objs.size (FnAt h'.objs.size ob) P=some (.tbl (ps++more)):=by
  rw[z0h (ne P (old hP)).2,z0h (ne P (old hP)).1,z0b]
 have kp:∀b o,b≠P→s.heap.get? b=some o→(h'.push ob).get? b=some o:=fun b o hb e=>q0d _ (hx b o hb e)
 have nP:∀b,H b=none→b≠P:=fun b n e=>by rw[e,hP] at n;cases n
 refine I.un ⟨fun b o e n _ _=>kp b o (nP b n) e,fun b o e n _ _=>⟨o.slots,kp b o (nP b n) e⟩,fun b o e n _=>?_,fun b o e _=>?_,fun b xs e=>?_,fun b o u e=>?_,fun b qs e=>?_⟩ fun b u e=>?_
 ·rw[up b (q0p e) (nP b n)];exact n
 ·by_cases hb:b=P
  ·rw[hb];exact⟨_,q0d _ ht⟩
  ·exact⟨o,kp b o hb e⟩
 ·rw[up b (old e) (fun z=>by rw[z,hP] at e;cases e)];exact e
 ·rw[up b (old e) (fun z=>by rw[z,hP] at e;cases e)];exact e
 ·by_cases hb:b=P
  ·rw[hb,hP] at e
   cases e
   exact⟨more,by rw[hb];exact upP⟩
  ·exact⟨#[],by rw[up b (old e) hb,e];simp⟩
 ·by_cases hf:b=h'.objs.size
  ·subst hf
   rw[z0b] at e
   cases e
   exact FnAt.ok (q0l _ hob)
  ·rw[z0h hf] at e
   by_cases hcb:b=c'
   ·subst hcb
    rw[z0b] at e
    cases e
    obtain⟨c,o,vs,t,e1,e2,e3,e4⟩:=hc
    cases e1
    exact CdAt.ok ⟨_,o,vs,t,rfl,q0d _ e2,e3,e4⟩
   ·rw[z0h hcb] at e
    by_cases hb:b=P
    ·subst hb
     rw[z0b] at e
     cases e
     exact q0d _ ht
    ·rw[z0h hb] at e
     refine (I.hok b u e).stay (fun c v hc' q=>kp c v ?_ q) (fun c q=>?_) fun c xs q=>?_
     ·rcases hc' with z|z
      ·rw[z];exact hb
      ·intro y;rw[y,hP] at z;cases z
     ·rw[up c (old q) (fun z=>by rw[z,hP] at q;cases q)];exact q
     ·rw[up c (old q) (fun z=>by rw[z,hP] at q;cases q)];exact q
def tLam (P:Addr) (qual:Str) (params:Arguments) (body:Expr) (scope:Scope) (pos:Pos) (mg:Str→Option Value):TE:=fun _ H Q=>TabOk P pos.line pos.col (qual++"<lambda>") H∧∀(f c':Addr) (ctv:Value) (H':Hp),H f=none→SameT P H H'→H' P=some (.tbl #[rawInt pos.line,rawInt pos.col,.ref c'])→H' c'=some (CdAt c' (qual++"<lambda>"))→
 H' f=some (FnAt f (kla_obj "<lambda>" (qual++"<lambda>") params body scope [] ((mg "__name__").getD .none) c' ctv))→f≠P→Q (.ref f) H'
theorem y3r {c P:Addr}{params:Arguments}{body:Expr}{scope:Scope}{pos:Pos} (hc:X.env.code= .ref c) (C:CodeHd X.base c P) (B:BmAt X.mg X.base) (hdef:defaultsOf params X.env=([],[]):=by rfl) (hcl:closureFor scope X.env=pure []:=by rfl):
 PE X (.Lambda params body scope pos) (tLam P X.env.qual params body scope pos X.mg):=by
 intro pins s σ H Q I ⟨hT,h⟩
 have hg:s.heap.Ns mainGlobals X.mg:=I.ok.mod.glob.keeps I.bk
 have C':CodeHd s.heap c P:=C.keeps I.bk
 obtain⟨bm,ob,b1,b2,b3,b4,b5,b6⟩:=B
 have b3':=I.bk _ _ b3
 have main:∀ps,H P=some (.tbl ps)→s.heap.get? P=some (tabObj ps)∧mainGlobals≠P∧s.heap.BuiltinsAt X.mg P:=fun ps hP=>by
  have hP':s.heap.get? P=some (tabObj ps):=I.hok P _ hP
  refine⟨hP',fun q=>?_,bm,ob,b1,b2,fun q=>?_,fun q=>?_,b3',b4,b5,b6⟩
  ·obtain⟨o,es,ep,e,hd,_⟩:=hg
   rw[q,hP'] at e;cases e;cases hd
  ·obtain⟨o,es,ep,e,hd,_⟩:=hg
   rw[q,e] at b3';cases b3';rw[hd] at b6;cases b6
  ·rw[q,hP'] at b3';cases b3';cases b4
 refine kla_eval hdef ?_
 rcases hT with hP|⟨c',hP,hcd⟩
 ·obtain⟨p1,p2,p3⟩:=main _ hP
  refine kla_makeFunction hcl I.ok.glob hg hc C' p1 trivial rfl p2 p3 fun c' ctv h' tk hx h1 h2 hrec htb=>?_
  have J:=grown (ob:=kla_obj "<lambda>" (X.env.qual++"<lambda>") params body scope [] ((X.mg "__name__").getD .none) c' ctv) (tk:=tk) I hP hx h1 h2 hrec htb rfl
  have hPl:=I.hok.lt hP
  have n1:h'.objs.size≠c':=q1w h2
  have n2:P≠c':=fun e=>by rw[e] at hPl;exact absurd hPl (Nat.not_lt.mpr h1)
  have n3:P≠h'.objs.size:=fun e=>by rw[e] at hPl;exact absurd (q0B (q1q h1 h2) (Nat.le_of_lt hPl)) (q1l _)
  refine⟨.ref _,_,J,rfl,h _ c' ctv _ (I.hok.fresh (Nat.le_of_lt (q1q h1 h2))) (fun b o hb e=>?_) ?_ ?_ z0b n3.symm⟩
  ·have hbl:=I.hok.lt e
   rw[z0h (fun z=>by rw[z] at hbl;exact absurd (q0B (q1q h1 h2) (Nat.le_of_lt hbl)) (q1l _)),z0h (fun z=>by rw[z] at hbl;exact absurd hbl (Nat.not_lt.mpr h1)),z0h hb];exact e
  ·rw[z0h n3,z0h n2,z0b];rfl
  ·rw[z0h n1.symm,z0b]
 ·obtain⟨p1,p2,p3⟩:=main _ hP
  have hf:codeAmong pos (#[rawInt pos.line,rawInt pos.col,Value.ref c']:Array Value).toList =some (.ref c'):=by
   show (if ((pos.line:Int)==pos.line&&(pos.col:Int)==pos.col)=true then some (Value.ref c') else _)=_
   rw[if_pos (by simp)]
  refine kla_makeFunctionHit hcl I.ok.glob hg hc C' p1 trivial hf p3 fun ctv h' tk hk hsz=>?_
  have J:=I.laid (a:=h'.objs.size) (o:=FnAt h'.objs.size (kla_obj "<lambda>" (X.env.qual++"<lambda>") params body scope [] ((X.mg "__name__").getD .none) c' ctv)) (h':=h'.push (kla_obj "<lambda>" (X.env.qual++"<lambda>") params body scope [] ((X.mg "__name__").getD .none) c' ctv)) (t':=tk) (fun b o e=>q0d _ (hk b o e)) hsz (FnAt.ok (q0l _ rfl))
  have fr:H h'.objs.size=none:=I.hok.fresh hsz
  have ne:∀{b u},H b=some u→b≠h'.objs.size:=fun e=>z0f e fr
  refine⟨.ref _,_,J,rfl,h _ c' ctv _ fr (fun b o _ e=>?_) ?_ ?_ z0b (ne hP).symm⟩
  ·rw[z0h (ne e)];exact e
  ·rw[z0h (ne hP)];exact hP
  ·rw[z0h (ne hcd)];exact hcd
end
end Lam
end L2
namespace L2
open PySem PySem.Spec PyProof.Rows
open PySem.W (KasT kas_sort kas_item kas_st kas_cmp kas_runs kas_range kla_callFunE kla_codeExpr kla_obj kla_fn)
namespace Lam
open Srt
theorem y2w {P:Program}{w:World}{K:PySem.W.Frag}{mg:Str→Option Value}{base:Heap}{k:Nat}{f c':Addr}{name qual:Str}{params:Arguments}{body:Expr}{scope:Scope}{pm ctv:Value}{N ps:List Str}{A:Around}{outer:List Env}{s:Shared}{H:Hp}{args:Args}{us:List Value}{vs:List V}{Q:VK}
 (S:z0x N ps scope) (hr:Room (k+1) A) (e0:Env0 P w K mg base A outer s H) (hf:H f=some (FnAt f (kla_obj name qual params body scope [] pm c' ctv))) (hc:H c'=some (CdAt c' qual)) (hb:BindsTo s (kla_fn name qual params body scope [] pm (.ref c') ctv) args (ps.zip us)) (r:Vals vs us) (hl:vs.length=ps.length)
 (hbody:∃t,PE (y0k CX0 P w K mg base N qual scope f (.ref c') A outer s H E0) body t∧t (start N vs) H Q):codeAny (model P w) A (.call (.ref f) args) (CR CX0 outer P w H s Q E0) s:=by
 have lim:s.heap.NoLimit:=e0.mod.nolimit.keeps fun b o e=>(e0.bs b o e).1
 have hkind:∀y∈ps.zip us,scope.names.lookup y.1=some .local ∨(scope.names.lookup y.1=some .cell ∧((cellsFrom (s.heap.objs.size+1) scope.names []).lookup y.1).isSome =true):=fun⟨n,v⟩ hy=>by
  rcases S.par n (q1v hy).1 with q|q
  ·exact .inl q
  ·exact .inr ⟨q,PySem.W.cellsFrom_some _ _ _ (.inl q)⟩
 refine kla_callFunE hr.depth (e0.hok f _ hf).1 rfl S.co S.gen rfl (e0.hok c' _ hc).1 (hb _ _ _ _ ?_)
 refine wpAny_newFunctionEnv_cells S.kind hkind fun env he s1 x=>?_
 subst he
 refine⟨lim.keeps x.toInCall.keep,kla_codeExpr ?_⟩
 obtain⟨t,ht,hq⟩:=hbody
 have I:Inv (y0k CX0 P w K mg base N qual scope f (.ref c') A outer s H E0) [] (start N vs) H s1:=z5A S hr.hd e0 hl r x
 refine wpAny_mono (ht [] s1 (start N vs) H _ I hq) (fun v s' hs=>?_) fun e s' hs=>hs
 obtain⟨v',H',J,rv,q⟩:=hs
 exact⟨v',H',J.os,J.bare,J.base,J.hok,rv,q⟩
section
variable {X:Cx}{pins:List (Addr×Obj)}{σ:St}{H:Hp}{s:Shared}{A:Around}{E:Value→Shared→Prop}{kS a:Addr}{e1:Nat}{xs:List V}{us:List Value}{zs:List Addr}{ds:List (List Dt)}{W:PySem.Fin→Shared→Prop}
theorem z3Y {st:SortSt} (I:Inv X pins σ H s) (hK:H kS=some (.lst (zs.map V.ref))) (hA:H a=some (EL a e1)) (hlen:ds.length=us.length) (h64:us.length<64) (hV:Vals xs us)
 (hout:(arrOf st).map (·.2)=List.toArray ((z1N ds).map fun i=>us.getD i Value.none)) (hfl:failedOf st=none)
 (q:∀(s':Shared),Inv X pins σ (upd (upd H kS (.lst [])) a (.lst ((z1N ds).map fun i=>xs.getD i .non))) s'→W (.done (.ret .none)) s'):
 wpAny (model X.prog X.w) A (ksk_tail a false e1 (.ref kS) st) W E s:=by
 obtain⟨z,its,n,r,hl,ek⟩:=I.lstM hK
 have nA:s.heap.get? a=some (seqObj "list" #[] e1):=(I.hok a _ hA).1
 have hka:kS≠a:=fun z=>by rw[z,hA] at hK;cases hK
 have I1:=I.lset (its':=[]) (ys:=[]) (f:=fun _=> #[]) (t':=s.toks) hK ek rfl .nil (q0A _)
 have nA1:(s.heap.update kS (Obj.mapSeq fun _=>(#[]:Array Value))).get? a=some (seqObj "list" #[] e1):=(q0P s.heap _ hka).trans nA
 have hu1:(upd H kS (.lst [])) a=some (EL a e1):=by rw[z0h hka.symm];exact hA
 have pl:(z1N ds).length =ds.length:=by rw[(z1d ds).length_eq,q1e]
 have hbd:∀i∈z1N ds,i<xs.length:=fun i hi=>by rw[hV.length,←hlen];exact q1a.mp ((z1d ds).mem_iff.mp hi)
 obtain⟨c2,hc2⟩:∃c2,((s.heap.update kS (Obj.mapSeq fun _=>(#[]:Array Value))).update a (Obj.mapSeq fun _=>(arrOf st).map (·.2))).get? a=some (seqObj "list" ((arrOf st).map (·.2)) c2):=⟨_,get?_update_seq nA1 fun _=>(arrOf st).map (·.2)⟩
 unfold ksk_tail
 dsimp only
 refine wpAny_bind (listUpdate_at ek rfl ?_ (by rw[q0h,←hl];exact z) (q0A _))
 refine wpAny_bind (wpAny_letGo ?_)
 refine wpAny_bind (seqEpoch_at nA1 rfl ?_)
 refine wpAny_bind (listUpdate_at nA1 rfl ?_ (q0A _) (q0q (Nat.le_of_eq (by show (Array.map _ (arrOf st)).size =us.length;rw[hout,q0h,q0a,pl,hlen])) (by rw[sizeLine_eq];lia)))
 rw[hfl]
 simp only[bne_self_eq_false,q0Z,if_false]
 refine wpAny_pure (q _ ?_)
 refine I1.write (x:=a) (e:=a) (t':=s.toks) (by rw[hu1];exact trivial) (.inl rfl) (fun b u hb hu=>(q0P _ _ (Ne.symm hb)).trans hu) ⟨_,hc2⟩ ?_
 refine⟨by rw[q0a,pl,hlen,sizeLine_eq];lia,_,c2,Vals.pick hV _ hbd,?_⟩
 rw[hc2,hout]
theorem z8B {keys:Array Value} (I:Inv X pins σ H s) (hu:A.units+16<cLine) (hK:H kS=some (.lst (zs.map V.ref))) (hA:H a=some (EL a e1)) (hk:Vals (zs.map V.ref) keys.toList) (hd:IsDs X.K H (zs.map V.ref) (ds.map Dt.t)) (hf:∀a∈ds,∃n r,a=Dt.i n::r) (hok:∀a∈ds,∀b∈ds,Dt.oks 8 a b=true) (hlen:zs.length=us.length) (h64:us.length<64) (hV:Vals xs us)
 (q:∀(s':Shared),Inv X pins σ (upd (upd H kS (.lst [])) a (.lst ((z1N ds).map fun i=>xs.getD i .non))) s'→W (.done (.ret .none)) s'):
 wpAny (model X.prog X.w) A (ksk_end a false us.toArray e1 (.ref kS) keys) W E s:=by
 have hkl:keys.toList.length=us.length:=by rw[←hk.length,q0a,hlen]
 have hsz:keys.size=us.length:=by rw[←q0K];exact hkl
 have dl:ds.length=us.length:=by have:=hd.length;rw[q0a,q0a] at this;lia
 have hzs:(keys.zip us.toArray).size =us.length:=by rw[Array.size_zip,hsz,q0h,Nat.min_self]
 have ek:keys=keys.toList.toArray:=by simp
 unfold ksk_end
 dsimp only
 simp only[q0Z,if_false]
 by_cases h2:us.toArray.size<2
 ·rw[if_pos h2,if_pos h2]
  refine wpAny_bind (wpAny_pure ?_)
  rw[StateT.run_pure]
  refine wpAny_bind (wpAny_pure ?_)
  dsimp only
  refine z3Y (ds:=ds) (st:=SortSt.mk' general' (keys.zip us.toArray) #[] 7 none) I hK hA dl h64 hV ?_ rfl q
  show (keys.zip us.toArray).map (·.2)=_
  rw[q0h] at h2
  have e:z1N ds=List.range us.length:=by unfold z1N;rw[if_pos (by lia),dl]
  rw[e,Srt.range_getD]
  apply Array.toList_inj.mp
  rw[Array.toList_map,Array.toList_zip]
  exact List.map_snd_zip (by rw[hkl];exact q0k _)
 ·rw[if_neg h2,if_neg h2]
  rw[q0h] at h2
  have hn:2≤us.length:=by lia
  obtain⟨fs,tf,lf,zf⟩:=z9A I hd hf hk
  rw[ek]
  refine wpAny_bind (PySem.W.kat_kind (T:= .type "int") (fs:=fs) tf (by lia) (fun v hv=>?_) rfl ?_)
  ·obtain⟨n,t,rfl⟩:=zf v hv
   exact PySem.W.Looks.of_pure rfl
  rw[bT]
  have item:∀i,i<us.length→IsD X.K H ((zs.map V.ref).getD i .non) (.t (ds.getD i []))∧RelV ((zs.map V.ref).getD i .non) (keys.toList.getD i Value.none):=fun i hi=>z6X hd hk i (by lia)
  have est:SortSt.mk' (tuples' true) (keys.toList.toArray.zip us.toArray) #[] 7 none=kas_st (tuples' true) (keys.toList.toArray.zip us.toArray) (List.toArray (List.range us.length)):=by
   have e:=kas_range (keys.toList.toArray.zip us.toArray)
   rw[←ek,hzs] at e
   show _=SortSt.mk' (tuples' true) ((List.toArray (List.range us.length)).map (kas_item (keys.toList.toArray.zip us.toArray))) #[] 7 none
   rw[←ek,e]
  have ask:(kas_sort us.length).kasWp (kas_cmp X.prog X.w A (tuples' true) (keys.toList.toArray.zip us.toArray)) (fun p s'=>s'=s∧p.toList=z1N ds) s:=by
   refine TrT.wp (n:=us.length) (c:=fun i j=>lts (ds.getD i []) (ds.getD j [])) (fun i j C hi hj hC=>?_) (z4l (by lia)) ⟨rfl,?_⟩
   ·unfold kas_cmp
    rw[PySem.W.kat_item hkl,PySem.W.kat_item hkl]
    obtain⟨c1,c2⟩:=item i hi
    obtain⟨c3,c4⟩:=item j hj
    refine y1t (n:=8) I (by lia) c1 c3 c2 c4 (hok _ ?_ _ ?_) (hf _ ?_) (hf _ ?_) hC
    all_goals rw[q0c,q0b (by lia)];exact q0F _
   ·unfold z1N
    rw[if_neg (by lia),dl]
  have run:=kas_runs (E:=fun _ _=>False) (Q:=fun _ st' s'=>s'=s∧(arrOf st').map (·.2)=List.toArray ((z1N ds).map fun i=>us.getD i Value.none)∧failedOf st'=none) hn h64 (fun p' st' s' a1 a2 a3 a4=>⟨a4.1,?_,a3⟩) ask
  ·rw[←est] at run
   refine wpAny_bind (wpAny_mono run ?_ fun _ _ e=>e.elim)
   rintro⟨⟨⟩,st'⟩ s' ⟨rfl,ho,hf'⟩
   dsimp only
   exact z3Y I hK hA dl h64 hV ho hf' q
  ·rw[PySem.W.kat_snds hkl a2,a4.2]
end
end Lam
end L2
namespace L2
open PySem PySem.Spec PyProof.Rows
open PySem.W (KasT kas_sort kas_item kas_st kas_cmp kas_runs kas_range kla_callFunE kla_codeExpr kla_obj kla_fn CodeHd)
namespace Lam
open Srt
structure KD where
 n:Int
 l:Addr
 q:List Int
def kdD (k:KD):List Dt:=[.i k.n,.l (k.q.map Dt.i)]
theorem y1K {K:PySem.W.Frag}{H:Hp}:∀{zs:List Addr}{ks:List KD},zs.length=ks.length→(∀(j:Nat) z k,zs[j]? =some z→ks[j]? =some k→H z=some (.tup [V.int k.n,V.ref k.l])∧H k.l=some (.lst (k.q.map V.int)))→IsDs K H (zs.map V.ref) ((ks.map kdD).map Dt.t)
 |[],[],_,_=> .nil
 |[],_::_,h,_=>by cases h
 |_::_,[],h,_=>by cases h
 |z::zs,k::ks,h,hz=>by
  obtain⟨h1,h2⟩:=hz 0 z k rfl rfl
  exact .cons (.t (SqT.of h1) (.cons (.i _) (.cons (.l (SqL.of h2) (z1U _)) .nil))) (y1K (by simpa using h) fun j z' k' e1 e2=>hz (j+1) z' k' (by simpa using e1) (by simpa using e2))
theorem kd_ok (a b:KD):Dt.oks 8 (kdD a) (kdD b)=true:=by
 unfold kdD
 simp[Dt.oks,Dt.ok,z1j]
section
variable {X:Cx}{pins:List (Addr×Obj)}{σ:St}{H:Hp}{s:Shared}{A:Around}{E:Value→Shared→Prop}{kS a:Addr}{e1:Nat}{xs:List V}{us:List Value}{ks:List KD}{W:PySem.Fin→Shared→Prop}
theorem z7x {f:Value} (I:Inv X pins σ H s) (hu:A.units+16<cLine) (hK:H kS=some (.lst [])) (hA:H a=some (EL a e1)) (hlen:ks.length=us.length) (h64:us.length<64) (hV:Vals xs us) (hkl:∀k∈ks,H k.l=some (.lst (k.q.map V.int))∧k.l≠kS)
 (turn:∀(i:Nat) (x:V) (u:Value) (k:KD),xs[i]? =some x→us[i]? =some u→ks[i]? =some k→∀(H1:Hp) (s1:Shared),Inv X pins σ H1 s1→(∀b o,b≠kS→H b=some o→H1 b=some o)→
  wpAny (model X.prog X.w) A (call f [u]) (fun v s2=>∃H2 z,Inv X pins σ H2 s2∧v= .ref z∧Same H1 H2∧H2 z=some (.tup [V.int k.n,V.ref k.l])) (fun _ _=>False) s1)
 (q:∀(H1:Hp) (s':Shared),(∀b o,b≠kS→H b=some o→H1 b=some o)→Inv X pins σ (upd (upd H1 kS (.lst [])) a (.lst ((z1N (ks.map kdD)).map fun i=>xs.getD i .non))) s'→W (.done (.ret .none)) s'):
 wpAny (model X.prog X.w) A (ksk_rest a f false us.toArray e1 (.ref kS)) W E s:=by
 have hka:a≠kS:=fun z=>by rw[←z,hA] at hK;cases hK
 unfold ksk_rest
 refine wpAny_bind (wpAny_rule ?_)
 first
  |rw[List.forIn_toArray]
  |(rw[←Array.forIn_toList];simp only[List.toList_toArray])
  |rw[←Array.forIn_toList]
 refine wpAny_bind (ksk_fold (fun i s'=>∃(H1:Hp) (zs:List Addr),Inv X pins σ H1 s'∧(∀b o,b≠kS→H b=some o→H1 b=some o)∧H1 kS=some (.lst (zs.map V.ref))∧zs.length=i∧∀(j:Nat) z k,zs[j]? =some z→ks[j]? =some k→H1 z=some (.tup [V.int k.n,V.ref k.l])) us 0 s ⟨H,[],I,fun _ _ _ e=>e,hK,rfl,fun j z k e=>nomatch e⟩ ?step ?done)
 case step=>
  rintro j u s' hu' ⟨H1,zs,I1,g1,k1,zl,hz⟩
  simp only[Nat.zero_add] at zl ⊢
  have hj:j<us.length:=(q0E.mp hu').1
  obtain⟨k,hkj⟩:∃k,ks[j]? =some k:=⟨_,q0b (by lia)⟩
  obtain⟨x,hx⟩:∃x,xs[j]? =some x:=⟨_,q0b (by rw[hV.length];exact hj)⟩
  refine wpAny_bind (wpAny_attempt (wpAny_mono (turn j x u k hx hu' hkj H1 s' I1 g1) (fun v s'' he=>?_) fun _ _ hF=>hF.elim))
  obtain⟨H2,z0,I2,rfl,g2,ez⟩:=he
  dsimp only
  have k2:=g2 _ _ k1
  obtain⟨z,its,n,r,hl,ek⟩:=I2.lstM k2
  have hl2:its.length≤us.length:=by rw[←hl,q0a,zl];lia
  have nz:∀z ys,H2 z=some (.tup ys)→z≠kS:=fun z ys h y=>by rw[y,k2] at h;cases h
  refine wpAny_bind (listUpdate_at ek rfl ?_ (by rw[q0h,sizeLine_eq];lia) (by rw[Array.size_push,q0h,sizeLine_eq];lia))
  refine wpAny_pure ⟨rfl,upd H2 kS (.lst ((zs++[z0]).map V.ref)),zs++[z0],?_,fun b o hb e=>?_,z0b,by rw[q0x,zl];rfl,fun i z k' e1 e2=>?_⟩
  ·refine I2.lset (its':=its++[.ref z0]) (f:=(·.push (.ref z0))) (t':=_) k2 ek (by simp) ?_ ?_
   ·rw[q0m]
    exact r.append (.cons rfl .nil)
   ·rw[q0a,q0x,q0I,sizeLine_eq];lia
  ·rw[z0h hb];exact g2 _ _ (g1 b o hb e)
  ·have hh:H2 z=some (.tup [V.int k'.n,V.ref k'.l]):=by
        by_cases hi:i<zs.length
        ·rw[q0W hi] at e1
         exact g2 _ _ (hz i z k' e1 e2)
        ·rw[q0V (by lia)] at e1
         have hi2:i - zs.length=0:=by
          refine q0C fun h0=>?_
          rw[q1m (by simp;lia)] at e1
          cases e1
         rw[hi2] at e1
         cases e1
         have:i=j:=by lia
         subst this
         rw[hkj] at e2
         cases e2
         exact ez
   rw[z0h (nz z _ hh)];exact hh
 case done=>
  rintro s' ⟨H1,zs,I1,g1,k1,zl,hz⟩
  simp only[Nat.zero_add] at zl
  obtain⟨z,its,n,r,hl,ek⟩:=I1.lstM k1
  try dsimp only
  refine wpAny_bind (listItems_at ek rfl ?_)
  refine z8B (zs:=zs) (ds:=ks.map kdD) I1 hu k1 (g1 _ _ hka hA) (by rw[q1k];exact r) (y1K (by lia) fun j z k e1 e2=>⟨hz j z k e1 e2,?_⟩) (fun d hd=>?_) (fun d hd e he=>?_) zl h64 hV fun s2 I2=>q H1 s2 g1 I2
  ·have hm:=hkl k (q0s e2)
   exact g1 _ _ hm.2 hm.1
  ·obtain⟨k,_,rfl⟩:=q0e.mp hd
   exact⟨_,_,rfl⟩
  ·obtain⟨k,_,rfl⟩:=q0e.mp hd
   obtain⟨k',_,rfl⟩:=q0e.mp he
   exact kd_ok _ _
end
section
variable {X:Cx}{pins:List (Addr×Obj)}{σ:St}{H:Hp}{s:Shared}{g l:Addr}{xs:List V}{ks:List KD}
theorem z6a {Q:VK} (hu:X.A.units+64<cLine) (I:Inv X pins σ H s) (hl:H l=some (.lst xs)) (hk:ks.length=xs.length) (h64:xs.length<64) (hkl:∀k∈ks,H k.l=some (.lst (k.q.map V.int)))
 (turn:∀(i:Nat) (x:V) (u:Value) (k:KD),xs[i]? =some x→RelV x u→ks[i]? =some k→∀(H1:Hp) (s1:Shared),Inv X pins σ H1 s1→Same H H1→
  wpAny (model X.prog X.w) X.A.in1.in1 (call (.ref g) [u]) (fun v s2=>∃H2 z,Inv X pins σ H2 s2∧v= .ref z∧Same H1 H2∧H2 z=some (.tup [V.int k.n,V.ref k.l])) (fun _ _=>False) s1)
 (q:∀(D:Addr) (H':Hp),H D=none→Same H H'→H' D=some (.lst ((z1N (ks.map kdD)).map fun i=>xs.getD i .non))→Q (.ref D) H'):
 wpAny (model X.prog X.w) X.A (call (.builtin "sorted") [.ref l] [(Str.ofString "key",.ref g)]) (EP X pins σ Q) X.xe s:=by
 obtain⟨z,us,n,hV,hlen,el⟩:=I.lstM hl
 refine call_function_entry_kw kind_sorted plain_sorted entry_sorted (ksk_s1 _ _) ?_
 unfold Builtin.«sorted»
 refine wpAny_bind (m:=checkCount "sorted" 1 1 _) (wpAny_pure ?_)
 refine wpAny_bind (collect_list (vs:=us) ⟨_,el,rfl,_,rfl⟩ ?_ (by rw[←hlen];exact z))
 refine wpAny_bind (wpAny_newList ?_ (by rw[←hlen];exact z))
 have hsz:((s.heap.push (seqObj "list" #[] 0)).update s.heap.objs.size (Obj.mapSeq (· ++us.toArray))).objs.size =s.heap.objs.size+1:=by
  rw[Heap.size_update,size_push']
 have hoL:(((s.heap.push (seqObj "list" #[] 0)).update s.heap.objs.size (Obj.mapSeq (· ++us.toArray))).push (seqObj "list" us.toArray 0)).get? (s.heap.objs.size+1)=some (seqObj "list" us.toArray 0):=by
  rw[←hsz];exact q0l _ rfl
 have keep:∀b o,s.heap.get? b=some o→(((s.heap.push (seqObj "list" #[] 0)).update s.heap.objs.size (Obj.mapSeq (· ++us.toArray))).push (seqObj "list" us.toArray 0)).get? b=some o:=fun b o e=>by
  have hlt:b<s.heap.objs.size:=q0p e
  rw[Heap.get?_push_ne _ _ _ (by rw[hsz];exact q0u (q0U hlt)),Heap.get?_update_ne _ _ _ _ (q0u hlt),Heap.get?_push_ne _ _ _ (q0u hlt)]
  exact e
 have fr1:H (s.heap.objs.size+1)=none:=I.hok.fresh (q1r _)
 have I1:=I.laid (a:=s.heap.objs.size+1) (o:= .lst xs) (t':=s.toks) keep (q1r _) ⟨z,us,0,hV,hoL⟩
 show wpAny _ _ _ _ _ {s with heap:=((s.heap.push (seqObj "list" #[] 0)).update s.heap.objs.size (Obj.mapSeq (· ++us.toArray))).push (seqObj "list" us.toArray 0)}
 rw[hsz]
 generalize hD:s.heap.objs.size+1=D at*
 generalize hh1:((s.heap.push (seqObj "list" #[] 0)).update s.heap.objs.size (Obj.mapSeq (· ++us.toArray))).push (seqObj "list" us.toArray 0)=h1 at*
 refine wpAny_bind (wpAny_holding (wpAny_call_entry_kw slot_list_sort ⟨_,hoL,rfl⟩ entry_list_sort ?body (ksk_l1 _ _)))
 case body=>
  show wpAny (model X.prog X.w) X.A.in1.in1 (Builtin.«list.sort» ⟨[.ref D],[(Str.ofString "key",.ref g)]⟩) _ _ _
  rw[ksk_t1]
  unfold ksk_tree
  refine wpAny_bind (listItems_at hoL rfl ?_)
  refine wpAny_bind (listUpdate_at hoL rfl ?_ (by rw[q0h,←hlen];exact z) (q0A _))
  obtain⟨e1,ho1⟩:∃e1,(h1.update D (Obj.mapSeq fun _=>(#[]:Array Value))).get? D=some (seqObj "list" #[] e1):=⟨_,get?_update_seq hoL fun _=> #[]⟩
  have I2:=I1.write (x:=D) (e:=D) (o:=EL D e1) (h':=h1.update D (Obj.mapSeq fun _=>(#[]:Array Value))) (t':=s.toks) (by rw[z0b];exact trivial) (.inl rfl) (fun b u hb hu=>(q0P _ _ (Ne.symm hb)).trans hu) ⟨_,ho1⟩ (EL.ok ho1)
  rw[z3d] at I2
  generalize h1.update D (Obj.mapSeq fun _=>(#[]:Array Value))=h2 at*
  refine wpAny_bind (seqEpoch_at ho1 rfl ?_)
  refine wpAny_bind (wpAny_newTuple ?_ (by rw[q1k,←hlen];exact z))
  refine wpAny_bind (wpAny_newList ?_ (q0A _))
  refine wpAny_holding ?_
  have I3:=I2.kept (h':=h2.push (seqObj "tuple" us.toArray 0)) (t':=s.toks) (fun b u e=>q0d _ e)
  have I4:=I3.laid (a:=(h2.push (seqObj "tuple" us.toArray 0)).objs.size) (o:= .lst []) (h':=(h2.push (seqObj "tuple" us.toArray 0)).push (seqObj "list" #[] 0)) (t':=s.toks) (fun b u e=>q0d _ e) (q0k _) ⟨q0A _,[],0,.nil,q0l _ rfl⟩
  have fr2:upd H D (EL D e1) (h2.push (seqObj "tuple" us.toArray 0)).objs.size =none:=I3.hok.fresh (q0k _)
  generalize (h2.push (seqObj "tuple" us.toArray 0)).objs.size =kS at*
  generalize hh4:(h2.push (seqObj "tuple" us.toArray 0)).push (seqObj "list" #[] 0)=h4 at*
  have hDk:D≠kS:=fun e=>by rw[←e,z0b] at fr2;cases fr2
  have hHk:H kS=none:=by rw[z0h hDk.symm] at fr2;exact fr2
  have key:∀H1:Hp,(∀b o,b≠kS→upd (upd H D (EL D e1)) kS (.lst []) b=some o→H1 b=some o)→Same H H1:=fun H1 gg b o e=>gg b o (z0f e hHk) (by rw[z0h (z0f e hHk),z0h (z0f e fr1)];exact e)
  refine z7x (kS:=kS) (a:=D) (e1:=e1) (ks:=ks) (xs:=xs) I4 (show X.A.units+1+1+16<cLine by lia) z0b (by rw[z0h hDk,z0b]) (by rw[hk,hlen]) (by rw[←hlen];exact h64) hV (fun k hkm=>?_) (fun i x u k hx hu' hn H1 s1 J1 g1=>?_) fun H1 s2 g1 J2=>⟨_,rfl,?_⟩
  ·have e:=hkl k hkm
   exact⟨by rw[z0h (z0f e hHk),z0h (z0f e fr1)];exact e,z0f e hHk⟩
  ·obtain⟨u',hu2,rxu⟩:=hV.get hx
   rw[hu'] at hu2
   cases hu2
   exact turn i x u k hx rxu hn H1 s1 J1 (key H1 g1)
  ·refine wpAny_pure ⟨_,rfl,?_⟩
   refine⟨.ref D,_,J2,rfl,q D _ fr1 (fun b o e=>?_) z0b⟩
   rw[z0h (z0f e fr1),z0h (z0f e hHk)]
   exact key H1 g1 b o e
end
end Lam
end L2
namespace L2
open PySem PySem.Spec PyProof.Rows
open PySem.W (kla_obj kla_fn CodeHd)
namespace Lam
open Srt
def Tab1 (P:Addr) (line col:Nat) (qual:Str) (H:Hp):Prop:=∃c',H P=some (.tbl #[rawInt line,rawInt col,.ref c'])∧H c'=some (CdAt c' qual)
theorem Tab1.ok {P:Addr}{line col:Nat}{qual:Str}{H:Hp} (h:Tab1 P line col qual H):TabOk P line col qual H:= .inr h
theorem Tab1.same {P:Addr}{line col:Nat}{qual:Str}{H H':Hp} (h:Tab1 P line col qual H) (s:Same H H'):Tab1 P line col qual H':=let ⟨c',h1,h2⟩:=h;⟨c',s _ _ h1,s _ _ h2⟩
theorem TabOk.same {P:Addr}{line col:Nat}{qual:Str}{H H':Hp} (h:TabOk P line col qual H) (s:Same H H'):TabOk P line col qual H':=by
 rcases h with h|h
 ·exact .inl (s _ _ h)
 ·exact .inr (Tab1.same h s)
def z6F (P:Addr) (line col:Nat) (qual:Str) (tb:TE):V→Hp→VK→Prop:=fun x H Q=>∃(l:Addr) (xs:List V) (ks:List KD),x= .ref l∧H l=some (.lst xs)∧ks.length=xs.length∧xs.length<64∧(∀k∈ks,H k.l=some (.lst (k.q.map V.int)))∧TabOk P line col qual H∧
 (∀(i:Nat) (x:V) (k:KD),xs[i]? =some x→ks[i]? =some k→∀H2,SameT P H H2→tb [some x] H2 fun v H3=>∃z,v= .ref z∧Same H2 H3∧H3 z=some (.tup [V.int k.n,V.ref k.l]))∧
 ∀(D:Addr) (H':Hp),H D=none→SameT P H H'→Tab1 P line col qual H'→H' D=some (.lst ((z1N (ks.map kdD)).map fun i=>xs.getD i .non))→D≠P→Q (.ref D) H'
def y0q (P:Addr) (line col:Nat) (qual:Str) (ta tb:TE):TE:=fun σ H Q=>ta σ H fun x H1=>z6F P line col qual tb x H1 Q
def oneL (P:Addr) (line col:Nat) (qual:Str) (tb:TE) (Q:VK):List V→Hp→Prop:=fun vs H=>match vs with
 |[x]=>z6F P line col qual tb x H Q
 |_=>False
section
variable {X:Cx}{k:Nat}
theorem pe_sortLam {c P:Addr}{x qual:Str}{params:Arguments}{body:Expr}{scope:Scope}{p lp kp pos:Pos}{e:Expr}{te tb:TE} (hc:X.env.code= .ref c) (C:CodeHd X.base c P) (B:BmAt X.mg X.base) (hq:X.env.qual++"<lambda>"=qual) (hr:Room (k+3) X.A) (hg:Gl X "sorted") (hm:X.mg "sorted"=none) (ha:PE X e te)
 (S:z0x [x] [x] scope) (hbd:∀(pm cv ctv u:Value),bindArgs (kla_fn "<lambda>" qual params body scope [] pm cv ctv) ⟨[u],[]⟩=pure [(x,u)])
 (hb:∀(f c':Addr) (A:Around) (outer:List Env) (s:Shared) (H:Hp),PE (y0k CX0 X.prog X.w X.K X.mg X.base [x] qual scope f (.ref c') A outer s H E0) body tb)
 (hdef:defaultsOf params X.env=([],[]):=by rfl) (hcl:closureFor scope X.env=pure []:=by rfl)
 (he:starEach [e] X.env=(false,eval e X.env)::starEach [] X.env:=by rfl):PE X (.Call (.Name "sorted" p) [e] [⟨some (Str.ofString "key"),.Lambda params body scope lp,kp⟩] pos) (y0q P lp.line lp.col qual te tb):=by
 subst hq
 intro pins s σ H Q I h
 refine wpAny_Call_Name_kw (z2N I hg hm boot_sorted ?_)
 refine callWith_kw (thn (z0a ha z0e he pos pins s σ H (oneL P lp.line lp.col (X.env.qual++"<lambda>") tb Q) I h) fun us s1 ⟨vs,H1,I1,r1,q1⟩=>?_) (by rw[he];rfl) (by rw[he];rfl)
 match vs,q1 with
 |[y],⟨l,xs,ks,e1,e2,e3,e4,e5,e6,e7,e8⟩=>
  subst e1
  have PKf:PK X [⟨some (Str.ofString "key"),.Lambda params body scope lp,kp⟩] (y0r (tLam P X.env.qual params body scope lp X.mg) tNil):=z9a (y3r hc C B hdef hcl) y1C
  refine thn (PKf pos pins s1 σ H1 (fun zs H2=>∃(f c':Addr) (ctv:Value),zs=[.ref f]∧SameT P H1 H2∧H2 P=some (.tbl #[rawInt lp.line,rawInt lp.col,.ref c'])∧H2 c'=some (CdAt c' (X.env.qual++"<lambda>"))∧H2 f=some (FnAt f (kla_obj "<lambda>" (X.env.qual++"<lambda>") params body scope [] ((X.mg "__name__").getD .none) c' ctv))) I1 ⟨e6,fun f c' ctv H' h1 h2 h3 h4 h5 h6=>⟨f,c',ctv,rfl,h2,h3,h4,h5⟩⟩) fun ws s2 ⟨zs,H2,I2,rz,f,c',ctv,ez,g2,t1,t2,t3⟩=>?_
  subst ez
  obtain⟨u,rfl,ru⟩:=r1.one
  obtain⟨w',rfl,rw'⟩:=rz.one
  cases ru
  cases rw'
  have hlP:l≠P:=fun z=>by
    rcases e6 with e6|⟨_,e6,_⟩<;> ·rw[z,e6] at e2;cases e2
  have hPs:∃o,H1 P=some o:=by
    rcases e6 with e6|⟨_,e6,_⟩<;>exact⟨_,e6⟩
  refine z6a hr.units I2 (g2 _ _ hlP e2) e3 e4 (fun k' hk'=>?_) (fun i x' u' k' hx ru' hk' Ha sa Ja ga=>?_) fun D H' hD g' eD=>?_
  ·refine g2 _ _ (fun z=>?_) (e5 k' hk')
   have:=e5 k' hk'
   rcases e6 with e6|⟨_,e6,_⟩<;> ·rw[z,e6] at this;cases this
  ·have gT:SameT P H1 Ha:=fun b o hb' hh=>ga _ _ (g2 b o hb' hh)
   refine wpAny_call (codeAny_mono (y2w (k:=k) (vs:=[x']) (us:=[u']) (ps:=[x]) S hr.in1.in1 Ja.env0.in1.in1 (ga _ _ t3) (ga _ _ t2) (.of_eq (hbd _ _ _ _)) (.cons ru' .nil) rfl ⟨tb,hb f c' _ _ sa Ha,e7 i x' k' hx hk' Ha gT⟩) fun rr s' hq'=>?_)
   cases rr with
   |error ev=>exact hq'.elim
   |ok fl=>
    cases fl with
    |ret w'=>
     obtain⟨v,H3,J3,rv,z,rfl,g3,ez⟩:=Ja.after hq'
     exact⟨H3,z,J3,rv,g3,ez⟩
    |next=>exact False.elim hq'
    |brk=>exact False.elim hq'
    |cont=>exact False.elim hq'
  ·refine e8 D H' ?_ (fun b o hb' hh=>g' _ _ (g2 b o hb' hh)) ⟨c',g' _ _ t1,g' _ _ t2⟩ eD (fun z=>by rw[z,t1] at hD;cases hD)
   cases q:H1 D with
   |none=>rfl
   |some o=>
    by_cases hDP:D=P
    ·rw[hDP,t1] at hD;cases hD
    ·rw[g2 D o hDP q] at hD;cases hD
end
end Lam
end L2
namespace L2
open PySem PySem.Spec PyProof.Rows
open PySem.W (CodeHd tabObj codeHdIn codeHd_of_K)
namespace Lam
section
variable {P:Program}{w:World}{K:PySem.W.Frag}{mg:Str→Option Value}{base:Heap}
theorem okC {x qual:Str}{st:Stmt}{f c:Addr}{fd:FuncData}{N ps:List Str}{k:Nat}{sp:Sp} (F:Fun K x qual st f fd) (hc:fd.code=Value.ref c) (S:z0x N ps (z0n st)) (len:∀vs H Q E,sp vs H Q E→vs.length=ps.length)
 (hbody:∀(A:Around) (outer:List Env) (s:Shared) (H:Hp) (vs:List V) (Q:VK) (E:XK),Room k (A.deeper (envOfC qual (z0n st) s.heap.objs.size f (.ref c)))→sp vs H Q E→
  ∃t,PSs (y0k CX0 P w K mg base N qual (z0n st) f (.ref c) A outer s H E).nox (z1u st) t∧t {nx:=fun _ H'=>Q .non H',rt:=Q} (start N vs) H):FnOk P w K mg base CX0 (k+1) f fd ps sp:=by
 obtain⟨oc,od,kV,doc,pm,an,cdv,ct,osl,rfl,lk,hcd⟩:=F.ex
 obtain rfl:cdv= .ref c:=hc
 refine y3W lk hcd S len fun A outer s H vs Q E hr hsp=>?_
 obtain⟨t,h,q⟩:=hbody A outer s H vs Q E hr hsp
 exact⟨t,h.nox,q⟩
end
theorem z9v {P:Program}{w:World}{K:PySem.W.Frag}{mg mb:Str→Option Value}{CX:CXT}{k:Nat}{fa a c Pt:Addr}{fd:FuncData}{x:Str}{sp:Sp}{s₁:Shared}{vs:List Value}{ns:List Int}
 (KX:K.In s₁.heap) (hns:s₁.heap.Ns mainGlobals mg) (hb:s₁.heap.Ns builtinsNs mb) (hbb:∀x:Str,x≠"__name__"→mb x=bootBuiltins x) (hlim:s₁.heap.NoLimit) (hg:s₁.gens= #[])
 (ha:s₁.heap.get? a=some {cls:= .type "list",data:= .seq vs.toArray}) (hi:IntsAre vs ns) (hl:ns.length≤sizeLine) (hr:Room k callerA)
 (hbm:BmAt mg s₁.heap) (hC:CodeHd s₁.heap c Pt) (hPt:s₁.heap.get? Pt=some (tabObj #[])) (hKt:K.lookup Pt=none)
 (F:∀base:Heap,K.In base→base.Ns mainGlobals mg→BmAt mg base→CodeHd base c Pt→FnOk P w K mg base CX k fa fd [x] sp) (hbind:∀(s:Shared) (u:Value),BindsTo s fd ⟨[u],[]⟩ [(x,u)])
 (hsp:∀H:Hp,H Pt=some (.tbl #[])→SqL K H a (ns.map V.int)→sp [.ref a] H (fun v _=>v= .bl true) fun _ _ _=>False)
 (hCX:∀H e s',CX [] H s₁ (fun _ _ _=>False) e s'→False):
 codeAny (model P w) callerA (.call (.ref fa) ⟨[.ref a],[]⟩) (fun r s'=>r= .ok (.ret (.bool true))∧OldK s₁.heap s'.heap∧s'.os=s₁.os∧AllBare s'.gens) s₁:=by
 have rv:=z4P hi
 have lenV:=hi.length
 have haP:a≠Pt:=fun e=>by rw[e,hPt] at ha;cases ha
 have core:∀H:Hp,(∀b,H b=none∨(b=a∧∃o xs,H b=some (.frz o (.lst xs)))∨b=Pt)→H Pt=some (.tbl #[])→SqL K H a (ns.map V.int)→HOk P w H s₁.heap→(H a≠none→K.lookup a=none)→
  codeAny (model P w) callerA (.call (.ref fa) ⟨[.ref a],[]⟩) (fun r s'=>r= .ok (.ret (.bool true))∧OldK s₁.heap s'.heap∧s'.os=s₁.os∧AllBare s'.gens) s₁:=by
  intro H hO hT hS hok hK
  have base_of:∀{b:Addr}{o:Obj},s₁.heap.get? b=some o→H b=none→(z9M s₁.heap H).get? b=some o:=fun e n=>y1c e n
  have free:∀{b:Addr}{o:Obj},s₁.heap.get? b=some o→o.cls≠ .type "list"→o.cls≠ .none →H b=none:=fun {b o} e h1 h2=>by
   rcases hO b with z|⟨z,_⟩|z
   ·exact z
   ·rw[z,ha] at e;cases e;exact absurd rfl h1
   ·rw[z,hPt] at e;cases e;exact absurd rfl h2
  have noA:∀{b:Addr}{o:Obj}{es:Array DictEntry}{ep:Nat},s₁.heap.get? b=some o→o.data= .dict es ep→H b=none:=fun {b o es ep} e d=>by
   rcases hO b with z|⟨z,_⟩|z
   ·exact z
   ·rw[z,ha] at e;cases e;cases d
   ·rw[z,hPt] at e;cases e;cases d
  have nsK:∀{b:Addr}{m:Str→Option Value},s₁.heap.Ns b m→(z9M s₁.heap H).Ns b m:=fun {b m} ⟨o,es,ep,e,d,r⟩=>⟨o,es,ep,base_of e (noA e d),d,r⟩
  have hKb:K.In (z9M s₁.heap H):=fun b o e=>base_of (KX b o e) (by
   rcases hO b with z|⟨z,o',xs,z2⟩|z
   ·exact z
   ·rw[z] at e z2
    rw[hK (by rw[z2];simp)] at e;cases e
   ·rw[z,hKt] at e;cases e)
  have hB:BmAt mg (z9M s₁.heap H):=by
   obtain⟨bm,ob,b1,b2,b3,b4,b5,b6⟩:=hbm
   exact⟨bm,ob,b1,b2,base_of b3 (free b3 (by rw[b4];intro z;injection z with z;exact absurd z (by decide)) (by rw[b4];intro z;cases z)),b4,b5,b6⟩
  have hCb:CodeHd (z9M s₁.heap H) c Pt:=by
   obtain⟨o,vs',file,tf,flags,tg,inF,text,tt,f1,f2,f3⟩:=hC
   exact⟨o,vs',file,tf,flags,tg,inF,text,tt,base_of f1 (free f1 (by rw[f2];intro z;injection z with z;exact absurd z (by decide)) (by rw[f2];intro z;cases z)),f2,f3⟩
  have hM:Mod K mg (z9M s₁.heap H):=⟨hKb,nsK hns,⟨mb,nsK hb,hbb⟩,let ⟨mc,h1,h2⟩:=hlim;⟨mc,nsK h1,h2⟩⟩
  have e0:Env0 P w K mg (z9M s₁.heap H) callerA [] s₁ H:=⟨rfl,hM,fun b o e=>y2t e,Nat.le_of_eq (z9L _ _),trivial,fun b hb=>absurd (show b∈([]:List Addr) from hb) (by simp),hok,.of_eq hg⟩
  refine codeAny_mono ((F _ hKb (nsK hns) hB hCb).run callerA [] s₁ H ⟨[.ref a],[]⟩ [.ref a] [.ref a] _ _ hr e0 (hbind s₁ (.ref a)) (.cons rfl .nil) (hsp H hT hS)) fun r s' h=>?_
  cases r with
  |error e=>exact (hCX H e s' h).elim
  |ok fl=>
   cases fl with
   |next=>exact False.elim h
   |brk=>exact False.elim h
   |cont=>exact False.elim h
   |ret u=>
    obtain⟨v,H',os,bare,un,hok',r',q⟩:=h
    have q':v= .bl true:=q
    subst q'
    obtain rfl:u=Value.bool true:=r'
    obtain⟨more,eT⟩:=un.tbls Pt #[] hT
    have hP':s'.heap.get? Pt=some (tabObj (#[]++more)):=hok' Pt _ eT
    have keep:∀b o,b≠Pt→s₁.heap.get? b=some o→s'.heap.get? b=some o:=fun b o hbP e=>by
     rcases hO b with z|⟨_,ob,xs,z⟩|z
     ·exact un.keep b o e z (by intro z;exact absurd (show b∈([]:List Addr) from z) (by simp)) (by simp)
     ·have z2:=un.frzs b ob _ z
      obtain⟨e1,_⟩:=hok b _ z
      obtain⟨e2,_⟩:=hok' b _ z2
      rw[e] at e1;cases e1
      exact e2
     ·exact absurd z hbP
    refine⟨rfl,⟨fun b o e=>?_,fun b o e=>?_⟩,os,bare⟩
    ·by_cases hbP:b=Pt
     ·subst hbP
      rw[hPt] at e
      cases e
      exact .inr (.inl ⟨(hC.tab hPt).isCodeTable,rfl,#[],more,rfl,hP'⟩)
     ·exact .inl (keep b o hbP e)
    ·by_cases hbP:b=Pt
     ·subst hbP;exact⟨_,hP'⟩
     ·exact⟨o,keep b o hbP e⟩
 cases hk:K.lookup a with
 |some o=>
  have e:=KX a o hk
  rw[ha] at e
  cases e
  refine core (fun b=>if b=Pt then some (.tbl #[]) else none) (fun b=>?_) (if_pos rfl) (.inr ⟨_,vs.toArray,_,hk,rfl,rfl,rfl,by rw[q0h,lenV];exact hl,by simpa using rv⟩) (fun b u z=>?_) fun z=>absurd (if_neg haP) z
  ·by_cases hb:b=Pt
   ·exact .inr (.inr hb)
   ·exact .inl (if_neg hb)
  ·by_cases hb:b=Pt
   ·have z':=(if_pos hb).symm.trans z
    cases z'
    subst hb
    exact hPt
   ·have z':=(if_neg hb).symm.trans z
    cases z'
 |none=>
  have n1:∀b,b≠a→b≠Pt→(if b=a then some (HO.frz {cls:= .type "list",data:= .seq vs.toArray} (.lst (ns.map V.int))) else if b=Pt then some (.tbl #[]) else none)=none:=fun b h1 h2=>by rw[if_neg h1,if_neg h2]
  refine core (fun b=>if b=a then some (.frz {cls:= .type "list",data:= .seq vs.toArray} (.lst (ns.map V.int))) else if b=Pt then some (.tbl #[]) else none) (fun b=>?_) (by rw[if_neg haP.symm,if_pos rfl]) (.inl (.inr ⟨{cls:= .type "list",data:= .seq vs.toArray},if_pos rfl⟩)) (fun b u z=>?_) fun _=>hk
  ·by_cases hb:b=a
   ·exact .inr (.inl ⟨hb,_,_,if_pos hb⟩)
   ·by_cases hb2:b=Pt
    ·exact .inr (.inr hb2)
    ·exact .inl (n1 b hb hb2)
  ·by_cases hb:b=a
   ·have z':=(if_pos hb).symm.trans z
    cases z'
    subst hb
    exact⟨ha,by rw[q0a];exact hl,vs,_,rv,ha⟩
   ·by_cases hb2:b=Pt
    ·have z':some (HO.tbl #[])=some u:=by rw[←z];show _=(if b=a then _ else if b=Pt then _ else _);rw[if_neg hb,if_pos hb2]
     cases z'
     subst hb2
     exact hPt
    ·have z':=(n1 b hb hb2).symm.trans z
     cases z'
theorem walk_ofT {l:PySem.W.OpenLaw}{n k:Nat}{q:Program}{loose:List Str}{XP:(Str→Option Value)→Heap→Prop}{YP:World→Heap→Prop}{d:DefRec}{K:Params→PySem.W.Frag}{CX:World→CXT}{sp:World→Sp}{x:Str}{c Pt:Addr}
 (hn:l.most=some n) (hn2:n≤sizeLine) (hdf:d.params.defaults=[]) (hr:Room k callerA)
 (hY:∀(w:World) (h:Heap),YP w h→(K w.params).In h)
 (hT:∀(w:World) (h:Heap),YP w h→h.get? Pt=some (tabObj #[])) (hC:∀w:World,codeHdIn (K w.params) c Pt=true) (hKt:∀w:World,(K w.params).lookup Pt=none)
 (F:∀(w:World) (mg:Str→Option Value) (fa:Addr) (h:Heap),(K w.params).In h→h.Ns mainGlobals mg→mg d.name=some (.ref fa)→
  ∃fd:FuncData,(∀(s:Shared) (u:Value),BindsTo s fd ⟨[u],[]⟩ [(x,u)])∧
   ∀base:Heap,(K w.params).In base→base.Ns mainGlobals mg→BmAt mg base→CodeHd base c Pt→FnOk l.prog w (K w.params) mg base (CX w) k fa fd [x] (sp w))
 (hsp:∀(w:World) (H:Hp) (a:Addr) (ns:List Int),ns.length≤n→H Pt=some (.tbl #[])→SqL (K w.params) H a (ns.map V.int)→sp w [.ref a] H (fun v _=>v= .bl true) fun _ _ _=>False)
 (hCX:∀(w:World) (H:Hp) (s:Shared) (e:Value) (s':Shared),CX w [] H s (fun _ _ _=>False) e s'→False):
 PySem.W.WalkO q loose XP YP l.row.toRowW d [] (fun f vs=>PySem.call f vs):=by
 refine Att.attach_call hn hdf fun w s₀ s₁ mg mb fa o pm cd doc a vs ns G Y ho hd hcd hmg hobj hints hlen hg=>?_
 have KX:=hY w _ Y
 obtain⟨fd,hb,hF⟩:=F w mg fa _ KX G.T.g hmg
 exact z9v KX G.T.g G.T.b G.T.builtins G.T.nolimit hg hobj hints (q0q hlen hn2) hr G.T.bmain (codeHd_of_K KX (hC w)) (hT w _ Y) (hKt w) hF hb (fun H hO hS=>hsp w H a ns hlen hO hS) fun H e s'=>hCX w H s₁ e s'
end Lam
end L2
set_option maxHeartbeats 1000000
namespace L2
open PySem PySem.Spec PyProof.Rows
section
variable {prog:Program}{w:World}{A:Around}{E:Value→Shared→Prop}{s:Shared}{d:Addr}{o:Obj}{es:Array DictEntry}{ep:Nat}
theorem z7X {Q:Value→Shared→Prop} (hd:s.heap.get? d=some o) (hc:o.cls= .type "dict") (hs:(d==sysModules)=false)
 (q:Q (.ref s.heap.objs.size) {s with heap:=s.heap.push {cls:= .type "dict_items",data:= .fields #[.ref d]}}):wpAny (model prog w) A (call (.builtin "dict.items") [.ref d]) Q E s:=by
 have hT:s.TypeIs (Value.ref d) "dict":=⟨o,hd,hc⟩
 refine call_meetsIn F.slot_dict_items hT F.entry_dict_items (F.args_dict_items_1 _) (S:=fun A R s=>wpAny (model prog w) A.in1 (Builtin.«dict.items» {pos:=[Value.ref d]}) (fun fin s'=>
  match fin with
  |Fin.done f=>R (Except.ok f) s'
  |Fin.again c'=>c'.quiet=true∧codeAny (model prog w) A c' R s')
        (fun e s'=>R (Except.error e) s') s) (fun _ _ _ h=>h) ?_
 unfold Builtin.«dict.items»
 refine wpAny_bind ?_
 unfold Builtin.Dict.noArgs
 refine wpAny_bind (wpAny_notOrdered_dict hT ?_)
 show wpAny _ _ (pure d) _ _ s
 refine wpAny_pure ?_
 show wpAny _ _ (Builtin.Dict.showsAll d>>= _) _ _ s
 unfold Builtin.Dict.showsAll
 rw[if_neg (by rw[hs];exact q0y)]
 refine wpAny_bind (wpAny_pure ?_)
 exact wpAny_bind (wpAny_newObj_type (wpAny_pure q))
theorem z7Y {v:Addr}{Q:Value→Shared→Prop} (hv:s.heap.IsItemsView v d) (ho:s.heap.get? d=some o) (hdat:o.data= .dict es ep)
 (hQ:Q (.ref s.heap.objs.size) {s with heap:=s.heap.push {cls:= .type "dict_itemiterator",data:= .fields #[.none,.bool false,.ref d,.int 0 0,.int es.size 0,.int ep 0,.none,.none]}}):
 wpAny (model prog w) A (pyIter (.ref v)) Q E s:=by
 obtain⟨ov,hov,hcv,hdv⟩:=id hv
 refine wpAny_pyIter_slot hv.typeIs F.slot_dict_items_iter (wpAny_call_entry F.slot_dict_items_iter hv.typeIs F.entry_dict_items_iter ?_ (F.args_dict_items_iter_1 _))
 unfold Builtin.«dict_items.__iter__»
 refine wpAny_bind (wpAny_pure ?_)
 refine wpAny_bind ?_
 unfold Builtin.Dict_items.dictOf
 refine wpAny_bind (wpAny_field hov hdv (x:= .ref d) rfl (wpAny_pure ?_))
 refine wpAny_bind ?_
 unfold Builtin.Dict_items.newIterator
 refine wpAny_bind (wpAny_dictEntries ho hdat ?_)
 refine wpAny_bind (wpAny_dictEpoch ho hdat ?_)
 have hown:Builtin.Dict_items.ownsTuple "dict_itemiterator"=true:=by decide
 simp only[hown,if_true]
 refine wpAny_newObj_type (wpAny_pure ⟨_,rfl,"dict_itemiterator",_,⟨_,q0l _ rfl,rfl⟩,F.slot_dict_itemiterator_next.lookup,?_⟩)
  (by simp only[sizeOk,Builtin.Dict_items.ownedTupleFields,q0h,q0x,q0D,List.length_nil,sizeLine_eq];lia)
 simpa[rawInt,Builtin.Dict_items.ownedTupleFields] using hQ
theorem z7Z {it:Addr}{i n:Nat}{e:DictEntry}{ok ov:Value}{Q:Option Value→Shared→Prop} (hit:IsItemIter s.heap it d i n ep ok ov)
 (hod:s.heap.get? d=some o) (hdd:o.data= .dict es ep) (hsz:es.size=n) (hx:es[i]? =some e)
 (hQ:∀h',IsItemIterOut h' it d (i+1) n ep e.key e.val s.heap.objs.size→
  h'.get? s.heap.objs.size=some {cls:= .type "tuple",data:= .seq #[e.key,e.val]}→h'.objs.size=s.heap.objs.size+1→
  (∀b o,b≠it→s.heap.get? b=some o→h'.get? b=some o)→Q (some (.ref s.heap.objs.size)) {s with heap:=h'}):
 wpAny (model prog w) A (pyNext (.ref it)) Q E s:=by
 obtain⟨hp,g,dr,tk,os⟩:=s
 have hT:Shared.TypeIs ⟨hp,g,dr,tk,os⟩ (.ref it) "dict_itemiterator":=⟨_,hit,rfl⟩
 unfold pyNext
 refine wpAny_bind (wpAny_attempt (wpAny_callSpecial?_slot (name:=Str.ofString "__next__") hT F.slot_dict_itemiterator_next
  (wpAny_call_entry F.slot_dict_itemiterator_next hT F.entry_dict_itemiterator_next ?_ (F.args_dict_itemiterator_next_1 _))))
 refine wpAny_bind (wpAny_pure ?_)
 refine wpAny_bind ?_
 refine wpAny_bind ?_
 first|refine wpAny_bind (wpAny_typeNameOfWhole_itemiter hT (wpAny_pure ?_))|refine wpAny_bind (wpAny_typeNameOf_itemiter hT (wpAny_pure ?_))
 refine wpAny_bind (wpAny_fieldsOf hit rfl ?_)
 have hown:Builtin.Dict_items.ownsTuple "dict_itemiterator"=true:=by decide
 simp only[hown,if_true]
 show wpAny _ _ (if (Value.ref d==Value.none)=true then _ else _) _ _ _
 rw[if_neg (show ¬((Value.ref d==Value.none)=true) from q0y)]
 refine wpAny_bind (wpAny_pure ?_)
 refine wpAny_bind (wpAny_dictEntries hod hdd ?_)
 rw[if_neg (by rw[hsz];simp)]
 refine wpAny_bind (wpAny_pure ?_)
 refine wpAny_bind (wpAny_dictEpoch hod hdd ?_)
 rw[if_neg (by simp)]
 refine wpAny_pure ?_
 simp only[show ¬((i:Int)<0) from by lia,if_false,q0G,hx]
 refine wpAny_bind ?_
 first|refine wpAny_bind (wpAny_typeNameOfWhole_itemiter hT (wpAny_pure ?_))|refine wpAny_bind (wpAny_typeNameOf_itemiter hT (wpAny_pure ?_))
 refine wpAny_bind (wpAny_isOneOf_itemiter hT ?_)
 show wpAny _ _ (setField (.ref it) 3 (rawInt ((i:Int)+1))>>= _) _ _ ⟨hp,g,dr,tk,os⟩
 refine wpAny_bind (wpAny_setField_rec hit (by simp) fun h₁ he₁ hs₁=>?_)
 replace hs₁:Heap.SameBut it hp h₁:=hs₁
 replace he₁:IsItemIter h₁ it d (i+1) n ep ok ov:=by
  have e:((i+1:Nat):Int)=(i:Int)+1:=by lia
  unfold IsItemIter;rw[e];simpa[rawInt] using he₁
 have hT₁:Shared.TypeIs ⟨h₁,g,dr,tk,os⟩ (.ref it) "dict_itemiterator":=⟨_,he₁,rfl⟩
 refine wpAny_bind (wpAny_holding ?_)
 refine wpAny_bind (wpAny_isOneOf_itemiter hT₁ ?_)
 refine wpAny_bind (wpAny_isOneOf_itemiter hT₁ ?_)
 show wpAny _ _ (Builtin.Dict_items.pairFromOwner (.ref it) 6 e.key e.val) _ _ ⟨h₁,g,dr,tk,os⟩
 unfold Builtin.Dict_items.pairFromOwner
 refine wpAny_bind (wpAny_newTuple ?_)
 have he₂:IsItemIter (h₁.push {cls:= .type "tuple",data:= .seq #[e.key,e.val]}) it d (i+1) n ep ok ov:=q0d _ he₁
 generalize hh₂:h₁.push {cls:= .type "tuple",data:= .seq #[e.key,e.val]}=h₂ at he₂
 have hz₁:h₁.objs.size=hp.objs.size:=hs₁.1
 have hil:it<hp.objs.size:=q0p hit
 have ht₂:h₂.get? hp.objs.size=some {cls:= .type "tuple",data:= .seq #[e.key,e.val]}:=by rw[←hh₂,←hz₁];exact q0l _ rfl
 have hz₂:h₂.objs.size=hp.objs.size+1:=by rw[←hh₂,q1s,hz₁]
 have hk₂:∀b o,b≠it→hp.get? b=some o→h₂.get? b=some o:=fun b o hb e=>by rw[←hh₂];exact q0d _ (hs₁.extBut b o hb e)
 show wpAny _ _ (Builtin.Dict_items.ownedTupleIsFree (.ref it)>>= _) _ _ ⟨h₂,g,dr,tk,os⟩
 rw[hz₁]
 clear hh₂ he₁ hs₁ hT₁ hz₁ h₁
 refine wpAny_bind ?_
 unfold Builtin.Dict_items.ownedTupleIsFree
 refine wpAny_bind (wpAny_field he₂ rfl (x:= .none) rfl (wpAny_pure ?_))
 simp only[if_true]
 refine wpAny_bind (wpAny_field he₂ rfl (x:=ok) rfl ?_)
 refine wpAny_bind (wpAny_field he₂ rfl (x:=ov) rfl ?_)
 refine wpAny_bind (wpAny_setField_rec he₂ (by simp) fun h₃ he₃ hs₃=>?_)
 replace hs₃:Heap.SameBut it h₂ h₃:=hs₃
 replace he₃:IsItemIter h₃ it d (i+1) n ep e.key ov:=he₃
 refine wpAny_bind (wpAny_setField_rec he₃ (by simp) fun h₄ he₄ hs₄=>?_)
 replace hs₄:Heap.SameBut it h₃ h₄:=hs₄
 replace he₄:IsItemIter h₄ it d (i+1) n ep e.key e.val:=he₄
 refine wpAny_bind (wpAny_setField_rec he₄ (by simp) fun h₅ he₅ hs₅=>?_)
 replace hs₅:Heap.SameBut it h₄ h₅:=hs₅
 replace he₅:IsItemIterOut h₅ it d (i+1) n ep e.key e.val hp.objs.size:=he₅
 refine wpAny_bind (wpAny_setField_rec he₅ (by simp) fun h₆ he₆ hs₆=>?_)
 replace hs₆:Heap.SameBut it h₅ h₆:=hs₆
 replace he₆:IsItemIterOut h₆ it d (i+1) n ep e.key e.val hp.objs.size:=he₆
 refine wpAny_bind (wpAny_letGo (wpAny_pure (wpAny_pure ⟨_,rfl,wpAny_pure (hQ h₆ he₆ ?_ ?_ ?_)⟩)))
 ·exact hs₆.extBut _ _ (q1w hil) (hs₅.extBut _ _ (q1w hil) (hs₄.extBut _ _ (q1w hil) (hs₃.extBut _ _ (q1w hil) ht₂)))
 ·show h₆.objs.size=hp.objs.size+1
  rw[hs₆.1,hs₅.1,hs₄.1,hs₃.1,hz₂]
 ·exact fun b o hb e=>hs₆.extBut b o hb (hs₅.extBut b o hb (hs₄.extBut b o hb (hs₃.extBut b o hb (hk₂ b o hb e))))
theorem z9D {it:Addr}{i n:Nat}{ok ov:Value}{Q:Option Value→Shared→Prop} (hh:A.handled=none) (hit:IsItemIter s.heap it d i n ep ok ov)
 (hod:s.heap.get? d=some o) (hdd:o.data= .dict es ep) (hsz:es.size=n) (hx:es[i]? =none)
 (hQ:∀h',Heap.ExtBut it s.heap h'→Q none {s with heap:=h'}):wpAny (model prog w) A (pyNext (.ref it)) Q E s:=by
 have hT:s.TypeIs (.ref it) "dict_itemiterator":=⟨_,hit,rfl⟩
 unfold pyNext
 refine wpAny_bind (wpAny_attempt (wpAny_callSpecial?_slot (name:=Str.ofString "__next__") hT F.slot_dict_itemiterator_next
  (wpAny_call_entry F.slot_dict_itemiterator_next hT F.entry_dict_itemiterator_next ?_ (F.args_dict_itemiterator_next_1 _))))
 refine wpAny_bind (wpAny_pure ?_)
 refine wpAny_bind ?_
 refine wpAny_bind ?_
 first|refine wpAny_bind (wpAny_typeNameOfWhole_itemiter hT (wpAny_pure ?_))|refine wpAny_bind (wpAny_typeNameOf_itemiter hT (wpAny_pure ?_))
 refine wpAny_bind (wpAny_fieldsOf hit rfl ?_)
 have hown:Builtin.Dict_items.ownsTuple "dict_itemiterator"=true:=by decide
 simp only[hown,if_true]
 show wpAny _ _ (if (Value.ref d==Value.none)=true then _ else _) _ _ s
 rw[if_neg (show ¬((Value.ref d==Value.none)=true) from q0y)]
 refine wpAny_bind (wpAny_pure ?_)
 refine wpAny_bind (wpAny_dictEntries hod hdd ?_)
 rw[if_neg (by rw[hsz];simp)]
 refine wpAny_bind (wpAny_pure ?_)
 refine wpAny_bind (wpAny_dictEpoch hod hdd ?_)
 rw[if_neg (by simp)]
 refine wpAny_pure ?_
 simp only[show ¬((i:Int)<0) from by lia,if_false,q0G,hx]
 refine wpAny_bind ?_
 first|refine wpAny_bind (wpAny_typeNameOfWhole_itemiter hT (wpAny_pure ?_))|refine wpAny_bind (wpAny_typeNameOf_itemiter hT (wpAny_pure ?_))
 show wpAny _ _ (setField (.ref it) 2 .none >>= _) _ _ s
 refine wpAny_bind (wpAny_setField hit rfl (by simp) ?_)
 have sb:Heap.ExtBut it s.heap (s.heap.update it (Obj.mapFields (·.setIfInBounds 2 Value.none))):=fun b u hb e=>by rw[q0P _ _ (Ne.symm hb)];exact e
 refine wpAny_bind (z6x fun h' e kp ⟨oe,e1,e2⟩=>?_)
 refine wpAny_raiseNew_none hh ?_
 refine wpAny_bind (wpAny_isInstance (T:="StopIteration") ⟨oe,e1,e2⟩ (b:=true) (by with_unfolding_all rfl) ?_)
 rw[if_pos rfl]
 refine wpAny_pure ?_
 exact hQ _ fun b u hb e=>kp b u (sb b u hb e)
end
def ItI (a:Addr) (o:Obj) (kvs:List (List Key×V)):It:=
 ⟨fun i H=>H a=some (.frz o (.dT kvs))∧i<kvs.length,fun i H x H'=>∃p b k v,x= .ref p∧H p=none∧kvs[i]? =some (k,v)∧H b=some (.tup (k.map kV))∧H'=upd H p (.tup [.ref b,v]),fun i H=>H a=some (.frz o (.dT kvs))∧i=kvs.length⟩
theorem y3I {H:Hp}{kvs:List (List Key×V)}{xs:List (List Key×Addr×Value)} (r:KT H kvs xs) {i:Nat}{p:List Key×V} (h:kvs[i]? =some p):∃q,xs[i]? =some q∧p.1=q.1∧H q.2.1=some (.tup (p.1.map kV))∧RelV p.2 q.2.2:=by
 induction r generalizing i with
 |nil=>simp at h
 |cons h1 t ih=>
  cases i with
  |zero=>
   have e:=Option.some.inj (h:some _=some p)
   subst e
   exact⟨_,rfl,h1⟩
  |succ i=>exact ih h
theorem z7u {P:Program}{w:World}{K:PySem.W.Frag}{elts:List Expr}{k:Nat}{pos:Pos} (a it:Addr) (o:Obj) (kvs:List (List Key×V)) (es:Array DictEntry) (ep:Nat) (hdat:o.data= .dict es ep):
 y1V P w K (.Tuple elts k pos) (ItI a o kvs) [it] it (fun i h=>∃ok ov,IsItemIter h it a i kvs.length ep ok ov) where
 mem:=by simp
 obj:=fun i h st b hb=>by
  have e:b=it:=by simpa using hb
  subst e
  obtain⟨ok,ov,st⟩:=st
  exact⟨_,st,fun v z=>by
    have z':Data.fields _=Data.cell v:=z
    cases z'⟩
 keep:=fun i h h' st k=>by
  obtain⟨ok,ov,st⟩:=st
  exact⟨ok,ov,k it (by simp) _ st⟩
 item:=by
  intro X hP hw hK hc i pins s σ H E I hf st hg
  subst hP hw hK
  obtain⟨ha,hi⟩:=hg
  obtain⟨ok,ov,st⟩:=st
  have he:=hf it (by simp)
  obtain⟨ho,z,hd,xs,rel,o2,es2,ep2,h1,h2,h3,h4,h5⟩:=(show ObjOk X.prog X.w H s.heap a (.frz o (.dT kvs)) from I.hok a _ ha)
  have eo:o=o2:=Option.some.inj (ho.symm.trans h1)
  subst eo
  rw[hdat] at h3
  injection h3 with e3 e4
  subst e3 e4
  have hl2:kvs.length=xs.length:=Paired.length rel
  have hsz:es.size=kvs.length:=by rw[←q0K,h4,q0a,hl2]
  obtain⟨⟨ky,v⟩,hp⟩:∃p,kvs[i]? =some p:=⟨_,q0b hi⟩
  obtain⟨q,hq,q1,q2,q3⟩:=y3I rel hp
  have hen:es[i]? =some (entryOfKey (tupleKind (z0K X.prog X.w)) q):=by
   rw[←Array.getElem?_toList,h4,q0j,hq];rfl
  have hlt:it<s.heap.objs.size:=q0p st
  refine z7Z st ho hdat hsz hen fun h' ho' hT hsz' kk=>?_
  refine⟨_,rfl,wpAny_letOwnedTupleGo_items ho' fun h2 he2 hs2=>?_⟩
  have hT2:=hs2.extBut _ _ (q1w hlt) hT
  have I1:Inv X pins σ (upd H s.heap.objs.size (.tup [.ref q.2.1,v])) {s with heap:=h2}:=by
   refine I.turnedLaid (t':=s.toks) (fp:=[it]) hf (fun c ob hb qq=>?_) (q0k _) ?_
   ·have hb1:c≠it:=fun z=>hb (by simp[z])
    exact hs2.extBut c ob hb1 (kk c ob hb1 qq)
   ·exact⟨by show 2≤sizeLine;decide,[.ref q.2.1,q.2.2],.cons rfl (.cons q3 .nil),_,hT2,rfl,_,rfl⟩
  refine⟨.ref s.heap.objs.size,_,I1,rfl,⟨_,q.2.1,ky,v,rfl,I.hok.fresh (q0k _),hp,q2,rfl⟩,⟨_,_,he2⟩,fun c hb=>?_⟩
  have e':=q0g.mp hb
  subst e'
  rw[z0h (q0u hlt)];exact he.1
 done:=by
  intro X hP hw hK hc i pins s σ H E I hf st hg
  subst hP hw hK
  obtain⟨ha,hi⟩:=hg
  obtain⟨ok,ov,st⟩:=st
  obtain⟨ho,z,hd,xs,rel,o2,es2,ep2,h1,h2,h3,h4,h5⟩:=(show ObjOk X.prog X.w H s.heap a (.frz o (.dT kvs)) from I.hok a _ ha)
  have eo:o=o2:=Option.some.inj (ho.symm.trans h1)
  subst eo
  rw[hdat] at h3
  injection h3 with e3 e4
  subst e3 e4
  have hl2:kvs.length=xs.length:=Paired.length rel
  have hsz:es.size=kvs.length:=by rw[←q0K,h4,q0a,hl2]
  exact z9D (I.ok.hd hc) st ho hdat hsz (Array.getElem?_eq_none (by lia)) fun h' eb=>⟨rfl,I.turnedAll (t':=s.toks) (fp:=[it]) hf fun c ob hb q=>eb c ob (fun z=>hb (by simp[z])) q⟩
 self:=fun A i s Q E st h=>by
  obtain⟨ok,ov,st⟩:=st
  exact PySem.W.kcp_self st h
theorem z7C (a:Addr) (o:Obj) (kvs:List (List Key×V)):z4O (ItI a o kvs) kvs.length (fun H=>H a=some (.frz o (.dT kvs))) (fun i H x H'=>∃p b k v,x= .ref p∧H p=none∧kvs[i]? =some (k,v)∧H b=some (.tup (k.map kV))∧H'=upd H p (.tup [.ref b,v])) where
 go:=fun i H h hi=>⟨h,hi⟩
 stop:=fun H h=>⟨h,rfl⟩
 yld:=fun i H x H' h hi y=>y
section
variable {X:Cx}
def y3R (tl:TE):TI:=fun σ H R=>tl σ H fun v H1=>∃a kvs,v= .ref a∧H1 a=some (.dT kvs)∧∀o,R (ItI a o kvs) (upd H1 a (.frz o (.dT kvs)))
theorem y0K {elts:List Expr}{k:Nat}{tpos apos cpos:Pos}{l:Expr}{tl:TE} (hl:PE X l tl) (hbase:attributeBase l "items" X.env (eval l X.env)=eval l X.env:=by rfl) (hline:(apos.endLine==cpos.line)=true:=by rfl):
 PI X (.Tuple elts k tpos) (.Call (.Attribute l "items" apos) [] [] cpos) (y3R tl):=by
 intro pins s σ H R I h
 refine wpAny_Call_method0_late hbase hline (thn (hl pins s σ H _ I h) fun v s1 ⟨x,H1,I1,r1,q1⟩=>?_)
 obtain⟨a,kvs,e,ha,q⟩:=q1
 subst e
 cases r1
 have oo:=(show ObjOk X.prog X.w H1 s1.heap a (.dT kvs) from I1.hok a _ ha)
 obtain⟨z,hd,xs,rel,o,es,ep,h1,h2,h3,h4,h5⟩:=id oo
 have hl2:kvs.length=xs.length:=Paired.length rel
 have hsz:es.size=kvs.length:=by rw[←q0K,h4,q0a,hl2]
 refine⟨"dict","dict.items",F.plainAttrs_dict,F.slot_dict_items,F.type_dict_items,⟨o,h1,h2.1⟩,fun b e=>?_,Calls.callWith_builtin rfl (PySem.evalArgs_none (z7X h1 h2.1 hd ?_))⟩
 ·cases e
  exact⟨o,h1,h2.2.1⟩
 refine z7Y ⟨_,q0l _ rfl,rfl,rfl⟩ (q0d _ h1) h3 ?_
 have I2:Inv X pins σ (upd H1 a (.frz o (.dT kvs))) s1:=z2F (t':=s1.toks) (h':=s1.heap) I1 (by rw[ha];exact True.intro) ⟨rfl,fun b _=>rfl⟩ ⟨o,h1⟩ ⟨h1,z,hd,xs,KT.keeps rel (fun b ys e=>by rw[z0h (fun y=>by rw[y,ha] at e;cases e)];exact e),o,es,ep,h1,h2,h3,h4,h5⟩
 refine⟨(s1.heap.push {cls:= .type "dict_items",data:= .fields #[.ref a]}).objs.size,[(s1.heap.push {cls:= .type "dict_items",data:= .fields #[.ref a]}).objs.size],_,_,_,rfl,I2.kept (t':=s1.toks) fun b o e=>q0d _ (q0d _ e),z7u a _ o kvs es ep h3,⟨.none,.none,?_⟩,fun b hb=>?_,q o⟩
 ·have:=q0l (s1.heap.push {cls:= .type "dict_items",data:= .fields #[.ref a]}) (o:={cls:= .type "dict_itemiterator",data:= .fields #[.none,.bool false,.ref a,.int 0 0,.int es.size 0,.int ep 0,.none,.none]}) rfl
  rw[hsz] at this ⊢
  exact this
 have e:b=(s1.heap.push {cls:= .type "dict_items",data:= .fields #[.ref a]}).objs.size :=by simpa using hb
 subst e
 have hle:s1.heap.objs.size≤(s1.heap.push {cls:= .type "dict_items",data:= .fields #[.ref a]}).objs.size :=by rw[q1s];exact q1r _
 exact I2.fpOk hle (I2.hok.fresh hle)
end
end L2
namespace L2
open PySem PySem.Spec PyProof.Rows
section
variable {X:Cx}
def y1A:R2:=fun x y H Q=>∃(b:Addr) (xs:List V),x= .non ∧y= .ref b∧H b=some (.lst xs)∧Q (.bl false) H
theorem y0Q (hu:X.A.units+64<cLine):OpR X (compareOp .Eq) y1A:=by
 intro pins s σ H x y v u Q I r1 r2 h
 obtain⟨b,xs,rfl,rfl,hb,q⟩:=h
 cases (show v=Value.none from r1)
 cases (show u=Value.ref b from r2)
 obtain⟨z,its,n,r,hl,e⟩:=I.lstM hb
 have hl':s.heap.IsList b its.toArray:=⟨_,e,rfl,n,rfl⟩
 exact PySem.SeqAt.RcAt.none_list hl' (by lia) _ _ _ _ ⟨.bl false,H,I,rfl,q⟩
theorem y2r {K:PySem.W.Frag} (h:X.K=K) (hu:X.A.units+64<cLine):OpR X (compareOp .Eq) (fun x y H Q=>rEqD K x y H Q∨y1A x y H Q):=(z9g h hu).or (y0Q hu)
def cIsK (K:PySem.W.Frag):List V→Hp→VK→Prop:=fun xs H Q=>∃x n t k,xs=[x,V.ty n]∧z7q K H x t∧PySem.W.kitOne K t (.type n)=some k∧Q (.bl k) H
theorem z5J {K:PySem.W.Frag} (h:X.K=K):z1J X (.builtin "isinstance") (cIsK K):=by subst h;exact z0X
end
end L2
namespace L2
open PySem PySem.Spec PyProof.Rows
theorem z8i {δ:Type} (ds:List δ) (fe:δ→List Key×V) {fr:List (Option Nat)}{g:TG}{tt:TT}{te:TE}{σ:St}{H1:Hp}{Q:VK}{D:Addr} (a:Addr) (o:Obj) (kvs:List (List Key×V)) (hk:kvs=ds.map fe) (hD:H1 D=none) (ha:H1 a=some (.frz o (.dT kvs))) (Rel:Hp→δ→V→Prop)
 (hrel:∀H H' d u,(∀b o,b≠D→H b=some o→H' b=some o)→(∃acc,H D=some (.lst acc))→Rel H d u→Rel H' d u) (hn:kvs.length≤sizeLine)
 (hg:∀p u v σ H,H p=some (.tup [u,v])→∀S:St→Hp→Prop,S ((σ.set 0 (some u)).set 1 (some v)) H→g (.ref p) σ H S)
 (ht:∀σ H (S:Bool→Hp→Prop),S true H→tt σ H S)
 (hv:∀d∈ds,∀b Hc,Same H1 Hc→Hc b=some (.tup ((fe d).1.map kV))→(∃acc,Hc D=some (.lst acc))→∀S:VK,(∀u H',Same Hc H'→Rel H' d u→S u H')→te (((z0z fr σ).set 0 (some (.ref b))).set 1 (some (fe d).2)) Hc S)
 (q:∀us H',Same H1 H'→H' D=some (.lst us)→Each (Rel H') ds us→Q (.ref D) H'):
 z2s (ItI a o kvs) g tt te Q D (z0z fr σ) (upd H1 D (.lst [])):=by
 subst hk
 refine z2G (z7C a o (ds.map fe)) (fun i acc σ' H'=>((∃o1 o2,σ'=((z0z fr σ).set 0 o1).set 1 o2)∨σ'=z0z fr σ)∧Same H1 H'∧H' D=some (.lst acc)∧Each (Rel H') (ds.take i) acc) ⟨.inr rfl,z0d hD _,z0b,.nil⟩ ?_ hn ?_ ?_
 ·rintro i acc σ' H' hi ⟨_,hs,_,he⟩
  refine⟨hs _ _ ha,?_⟩
  rw[←he.length,q0O];rw[q0a] at hi;lia
 ·rintro N i x acc σ' H' H'' hi ⟨hσ,hs,hd,he⟩ ⟨p,b,k,v,rfl,hp,hc,hb,rfl⟩ n1 n2
  have g2:=z0d hp (.tup [.ref b,v])
  have hs2:=hs.trans g2
  have hd2:=g2 _ _ hd
  have hb2:=g2 _ _ hb
  have e2:upd H' p (.tup [.ref b,v]) p=some (.tup [.ref b,v]):=z0b
  have he2:Each (Rel (upd H' p (.tup [.ref b,v]))) (ds.take i) acc:=he.imp fun a b h=>hrel _ _ _ _ (fun c o _ e=>g2 _ _ e) ⟨_,hd⟩ h
  generalize upd H' p (.tup [.ref b,v])=H2 at*
  have eσ:(σ'.set 0 (some (.ref b))).set 1 (some v)=((z0z fr σ).set 0 (some (.ref b))).set 1 (some v):=by
   rcases hσ with⟨o1,o2,rfl⟩|rfl
   ·exact z5U _ _ _ _ _
   ·rfl
  refine hg p _ v σ' H2 e2 _ ?_
  rw[eσ]
  refine ht _ _ _ ?_
  refine z5y ?_
  rw[q0j] at hc
  obtain⟨d,hdi,ed⟩:=q0v.mp hc
  have tk:ds.take (i+1)=ds.take i++[d]:=by rw[q0L,hdi];rfl
  have e1:(fe d).1 =k:=by rw[ed]
  have e3:(fe d).2 =v:=by rw[ed]
  rw[←e3]
  refine hv d (q0s hdi) b H2 hs2 (by rw[e1];exact hb2) ⟨_,hd2⟩ _ fun u H4 g4 hr=>?_
  have hd4:=g4 _ _ hd2
  refine n1 _ _ _ hd4 ⟨.inl ⟨_,_,rfl⟩,fun c o e=>?_,z0b,?_⟩
  ·rw[z0h (z0f e hD)];exact g4 _ _ (hs2 _ _ e)
  ·have up:∀a b,Rel H4 a b→Rel (upd H4 D (.lst (acc++[u]))) a b:=fun a b h=>hrel _ _ _ _ (fun c o hc e=>by rw[z0h hc];exact e) ⟨_,hd4⟩ h
   rw[tk]
   exact ((he2.imp fun a b h=>up a b (hrel _ _ _ _ (fun c o _ e=>g4 _ _ e) ⟨_,hd2⟩ h)).snoc (up _ _ hr))
 ·rintro acc σ' H' ⟨_,hs,hd,he⟩
  rw[q0a,q0S] at he
  exact q acc H' hs hd he
end L2
set_option maxHeartbeats 4000000
namespace L2
open PySem PySem.Spec PyProof.Rows
namespace Fr
open Builtin.Int (intBits)
theorem turn {a0 b0 a b:Int} (h:Int.gcd a b=Int.gcd a0 b0):Int.gcd b (a.fmod b)=Int.gcd a0 b0:=by
 rw[Int.fmod_def,Int.gcd_sub_mul_left_right,Int.gcd_comm b a]
 exact h
theorem less {a b:Int} (h:b≠0):(a.fmod b).natAbs <b.natAbs:=by
 rcases (by lia:0<b∨b<0) with p|p
 ·have h1:=Int.fmod_nonneg_of_pos a p
  have h2:=Int.fmod_lt_of_pos a p
  lia
 ·have e:a.fmod b= -((-a).fmod (-b)):=by
   rw[Int.fmod_def,Int.fmod_def,Int.neg_fdiv_neg]
   rw[Int.neg_mul]
   lia
  have h1:=Int.fmod_nonneg_of_pos (-a) (show 0< -b by lia)
  have h2:=Int.fmod_lt_of_pos (-a) (show 0< -b by lia)
  lia
theorem y2I {a b a0 b0:Int} (h:Int.gcd a b=Int.gcd a0 b0) (hb:b=0):(if a<0 then -a else a)=(Int.gcd a0 b0:Int):=by
 rw[←h,hb,Int.gcd_zero]
 split<;>lia
end Fr
end L2
namespace L2
open PySem PySem.Spec PyProof.Rows
namespace Wl
open Builtin.Int (intBits)
def z1v (rs:List Int):Nat:=rs.foldl (fun (g:Nat) n=>Int.gcd (g:Int) n) 0
theorem z7d:∀(rs:List Int) (g0:Nat),(((rs.foldl (fun (g:Nat) n=>Int.gcd (g:Int) n) g0:Nat):Int)∣(g0:Int))∧∀n∈rs,((rs.foldl (fun (g:Nat) n=>Int.gcd (g:Int) n) g0:Nat):Int)∣n
 |[],g0=>⟨Int.dvd_refl _,fun n h=>by simp at h⟩
 |m::r,g0=>by
  obtain⟨h1,h2⟩:=z7d r (Int.gcd (g0:Int) m)
  rw[List.foldl_cons]
  refine⟨Int.dvd_trans h1 (Int.gcd_dvd_left _ _),fun n hn=>?_⟩
  rcases q0o.mp hn with rfl|hn
  ·exact Int.dvd_trans h1 (Int.gcd_dvd_right _ _)
  ·exact h2 n hn
theorem z3b {rs:List Int}{n:Int} (h:n∈rs):(z1v rs:Int)∣n:=(z7d rs 0).2 n h
theorem z3a {rs:List Int} (h:∃n∈rs,n≠0):0<z1v rs:=by
 obtain⟨n,hn,n0⟩:=h
 have d:=z3b hn
 rcases Nat.eq_zero_or_pos (z1v rs) with z|z
 ·rw[z] at d
  exact absurd (Int.zero_dvd.mp d) n0
 ·exact z
theorem z5B (rs:List Int) (n:Int):z1v (rs++[n])=Int.gcd (z1v rs:Int) n:=by
 unfold z1v
 rw[List.foldl_append];rfl
theorem z7g {d:Int}:∀(rs:List Int) (g0:Nat),d∣(g0:Int)→(∀n∈rs,d∣n)→d∣((rs.foldl (fun (g:Nat) n=>Int.gcd (g:Int) n) g0:Nat):Int)
 |[],g0,h,_=>h
 |m::r,g0,h,hr=>z7g r _ (Int.dvd_coe_gcd h (hr m List.mem_cons_self)) fun n hn=>hr n (List.mem_cons_of_mem _ hn)
theorem y1f {rs:List Int}{d:Int} (h:∀n∈rs,d∣n):d∣(z1v rs:Int):=z7g rs 0 (Int.dvd_zero _) h
def z0V:List Int→Int
 |[]=>0
 |n::r=>if n=0 then z0V r else n
theorem z4G {rs:List Int} (h:∃n∈rs,n≠0):z0V rs≠0:=by
 induction rs with
 |nil=>obtain⟨n,hn,_⟩:=h;simp at hn
 |cons m r ih=>
  show (if m=0 then z0V r else m)≠0
  by_cases hm:m=0
  ·rw[if_pos hm]
   obtain⟨n,hn,n0⟩:=h
   rcases q0o.mp hn with rfl|hn
   ·exact absurd hm n0
   ·exact ih ⟨n,hn,n0⟩
  ·rw[if_neg hm];exact hm
def byL (rs:List Int):Int:=if z0V rs<0 then -(z1v rs:Int) else (z1v rs:Int)
def z0j (rs:List Int):List Int:=rs.map fun n=>n.fdiv (byL rs)
theorem z2r {rs:List Int} (h:∃n∈rs,n≠0):byL rs≠0:=by
 have:=z3a h
 unfold byL
 split<;>lia
theorem z3M {rs:List Int}{n:Int} (h:n∈rs):byL rs∣n:=by
 unfold byL
 split
 ·exact Int.neg_dvd.mpr (z3b h)
 ·exact z3b h
theorem fdiv_mul {n s:Int} (h:s∣n):n.fdiv s*s=n:=Int.fdiv_mul_cancel h
theorem fdiv_ne {n s:Int} (h:s∣n) (n0:n≠0):n.fdiv s≠0:=fun z=>by
 have:=fdiv_mul h
 rw[z,Int.zero_mul] at this
 exact n0 this.symm
theorem z3G {n s:Int} (h:s∣n) (s0:s≠0):(n.fdiv s).natAbs ≤n.natAbs:=by
 have e:=congrArg Int.natAbs (fdiv_mul h)
 rw[Int.natAbs_mul] at e
 have:0<s.natAbs:=by lia
 rw[←e]
 exact Nat.le_mul_of_pos_right _ this
theorem z7m {rs:List Int}{k:Nat} (h:∃n∈rs,n≠0) (hb:∀n∈rs,intBits n≤k):intBits (byL rs)≤k:=by
 obtain⟨n,hn,n0⟩:=h
 refine intBits_le_of_natAbs (y:=n) ?_ (hb n hn)
 obtain⟨m,e⟩:=z3M hn
 have m0:m≠0:=fun z=>n0 (by rw[e,z,q1C])
 have e':=congrArg Int.natAbs e
 rw[Int.natAbs_mul] at e'
 rw[e']
 exact Nat.le_mul_of_pos_right _ (by lia)
end Wl
end L2
namespace L2
open PySem PySem.Spec PyProof.Rows
namespace Sd
open Builtin.Int (intBits)
open Fr
end Sd
theorem z7k {xs:List V}{v:V}:y0l (xs++[v]) none (some (-1))=xs:=by
 have e:HT.sIx (xs++[v]).length (xs++[v]).length (some (-1))=xs.length:=by
  simp only[HT.sIx,q0x,q0I]
  split<;>lia
 unfold y0l
 rw[HT.sIx_none,e,List.drop_zero,Nat.sub_zero]
 simp
theorem y0b {xs:List V}{v:V}:¬(HT.sIx (xs++[v]).length 0 none=0∧HT.sIx (xs++[v]).length (xs++[v]).length (some (-1))=(xs++[v]).length):=by
 rintro⟨_,h⟩
 have e:HT.sIx (xs++[v]).length (xs++[v]).length (some (-1))=xs.length:=by
  simp only[HT.sIx,q0x,q0I]
  split<;>lia
 rw[e] at h
 simp at h
end L2
namespace L2
open PySem PySem.Spec PyProof.Rows
open Builtin.Int (intBits)
def TsA (H:Hp) (as:List Addr) (ts:List (List Int)):Prop:=as.length=ts.length∧∀(i:Nat) (a:Addr) (t:List Int),as[i]? =some a→ts[i]? =some t→H a=some (.tup (t.map V.int))
theorem TsA.same {H H':Hp}{as:List Addr}{ts:List (List Int)} (g:Same H H') (h:TsA H as ts):TsA H' as ts:=⟨h.1,fun i a t e1 e2=>g _ _ (h.2 i a t e1 e2)⟩
theorem TsA.nil {H:Hp}:TsA H [] []:=⟨rfl,fun i a t e=>by simp at e⟩
theorem TsA.snoc {H:Hp}{as:List Addr}{ts:List (List Int)}{r:Addr}{t:List Int} (h:TsA H as ts) (e:H r=some (.tup (t.map V.int))):TsA H (as++[r]) (ts++[t]):=by
 refine⟨by simp[h.1],fun i a p e1 e2=>?_⟩
 by_cases hi:i<as.length
 ·rw[q0W hi] at e1
  rw[q0W (by rw[←h.1];exact hi)] at e2
  exact h.2 i a p e1 e2
 ·rw[q0V (by lia)] at e1
  rw[q0V (by rw[←h.1];lia),←h.1] at e2
  have hz:i - as.length=0:=by
   have:=(q0E.mp e1).1
   simp at this
   lia
  rw[hz] at e1 e2
  cases e1;cases e2
  exact e
def dtT (t:List Int):Dt:= .t (t.map Dt.i)
theorem TsA.isDs {K:PySem.W.Frag}{H:Hp}:∀{as:List Addr}{ts:List (List Int)},TsA H as ts→IsDs K H (as.map V.ref) (ts.map dtT)
 |[],[],_=> .nil
 |a::r,t::q,h=> .cons (.t (SqT.of (h.2 0 a t rfl rfl)) (z1U t)) (TsA.isDs ⟨by simpa using h.1,fun i b u e1 e2=>h.2 (i+1) b u (by simpa using e1) (by simpa using e2)⟩)
 |[],_::_,h=>by have:=h.1;simp at this
 |_::_,[],h=>by have:=h.1;simp at this
theorem y3X (a b:List Int):Dt.eqb (dtT a) (dtT b)=decide (a=b):=z7e a b
theorem ok_t (a b:List Int):Dt.ok 9 (dtT a) (dtT b)=true:=z1j 8 a b
theorem ok_ts {ts:List (List Int)}{b:List Int}:∀d∈ts.map dtT,Dt.ok 9 d (dtT b)=true:=fun d hd=>by
 obtain⟨t,_,rfl⟩:=q0e.mp hd
 exact ok_t t b
theorem any_t (ts:List (List Int)) (b:List Int):((ts.map dtT).any fun d=>Dt.eqb d (dtT b))=decide (b∈ts):=by
 rw[q1p,q1i,decide_eq_true_eq]
 constructor
 ·rintro⟨d,hd,h⟩
  obtain⟨t,ht,rfl⟩:=q0e.mp hd
  rw[y3X,decide_eq_true_eq] at h
  rw[←h];exact ht
 ·intro h
  exact⟨dtT b,q0n h,by rw[y3X];simp⟩
theorem isD_t {K:PySem.W.Frag}{H:Hp}{a:Addr}{t:List Int} (h:H a=some (.tup (t.map V.int))):IsD K H (.ref a) (dtT t):= .t (SqT.of h) (z1U t)
theorem z5n:∀(ts us:List (List Int)),Dt.oks 8 (ts.map dtT) (us.map dtT)=true
 |[],_=>by simp[Dt.oks]
 |_::_,[]=>by simp[Dt.oks]
 |t::r,u::q=>by
  simp only[q0t,Dt.oks,q1j]
  exact⟨z1j 7 t u,z5n r q⟩
theorem z2p {K:PySem.W.Frag}{H:Hp}{l:Addr}{as:List Addr}{ts:List (List Int)} (h:H l=some (.lst (as.map V.ref))) (t:TsA H as ts):IsD K H (.ref l) (.l (ts.map dtT)):= .l (SqL.of h) t.isDs
theorem y0c {xs:List V}{hi:Int} (h1:0≤hi) (h2:hi≤xs.length):y0l xs none (some hi)=xs.take hi.toNat:=by
 have e2:HT.sIx xs.length xs.length (some hi)=hi.toNat:=by
  show (if hi<0 then _ else _)=_
  rw[if_neg (by lia)];lia
 unfold y0l
 rw[e2,HT.sIx_none,List.drop_zero,Nat.sub_zero]
namespace Wl
end Wl
end L2
set_option maxHeartbeats 1000000
namespace L2
namespace Rk
inductive Sm (A:List (Nat→Int)):(Nat→Int)→Prop
 |zero:Sm A (fun _=>0)
 |more (c:Int) {r x:Nat→Int}:r∈A→Sm A x→Sm A (fun j=>c*r j+x j)
theorem Sm.cast {A:List (Nat→Int)}{x y:Nat→Int} (h:Sm A x) (e:∀j,x j=y j):Sm A y:=by
 rw[show y=x from funext fun j=>(e j).symm];exact h
theorem Sm.add {A:List (Nat→Int)}{x y:Nat→Int} (h:Sm A x) (h2:Sm A y):Sm A (fun j=>x j+y j):=by
 induction h with
 |zero=>exact h2.cast fun j=>by simp
 |more c hr _ ih=>exact (Sm.more c hr ih).cast fun j=>by dsimp only;lia
theorem Sm.mul {A:List (Nat→Int)}{x:Nat→Int} (c:Int) (h:Sm A x):Sm A (fun j=>c*x j):=by
 induction h with
 |zero=>exact Sm.zero.cast fun j=>by simp
 |more d hr _ ih=>exact (Sm.more (c*d) hr ih).cast fun j=>by dsimp only;grind
theorem Sm.one {A:List (Nat→Int)}{r:Nat→Int} (h:r∈A):Sm A r:=(Sm.more 1 h Sm.zero).cast fun j=>by simp
def In (A:List (Nat→Int)) (x:Nat→Int):Prop:=∃d:Int,d≠0∧Sm A fun j=>d*x j
theorem In.one {A:List (Nat→Int)}{r:Nat→Int} (h:r∈A):In A r:=⟨1,by decide,(Sm.one h).cast fun j=>by simp⟩
theorem In.of {A:List (Nat→Int)}{x:Nat→Int} (h:Sm A x):In A x:=⟨1,by decide,h.cast fun j=>by simp⟩
theorem In.zero {A:List (Nat→Int)}:In A fun _=>0:=In.of Sm.zero
theorem In.add {A:List (Nat→Int)}{x y:Nat→Int} (h:In A x) (h2:In A y):In A fun j=>x j+y j:=by
 obtain⟨d,d0,hd⟩:=h
 obtain⟨e,e0,he⟩:=h2
 exact⟨d*e,q1o d0 e0,((hd.mul e).add (he.mul d)).cast fun j=>by dsimp only;grind⟩
theorem In.mul {A:List (Nat→Int)}{x:Nat→Int} (c:Int) (h:In A x):In A fun j=>c*x j:=by
 obtain⟨d,d0,hd⟩:=h
 exact⟨d,d0,(hd.mul c).cast fun j=>by dsimp only;grind⟩
theorem In.div {A:List (Nat→Int)}{x:Nat→Int}{c:Int} (c0:c≠0) (h:In A fun j=>c*x j):In A x:=by
 obtain⟨d,d0,hd⟩:=h
 exact⟨d*c,q1o d0 c0,hd.cast fun j=>by dsimp only;grind⟩
theorem In.cast {A:List (Nat→Int)}{x y:Nat→Int} (h:In A x) (e:∀j,x j=y j):In A y:=by
 rw[show y=x from funext fun j=>(e j).symm];exact h
theorem In.sub {A B:List (Nat→Int)} (h:∀r∈A,In B r) {x:Nat→Int} (hx:In A x):In B x:=by
 obtain⟨d,d0,hd⟩:=hx
 have:∀y,Sm A y→In B y:=fun y hy=>by
  induction hy with
  |zero=>exact In.zero
  |more c hr _ ih=>exact ((h _ hr).mul c).add ih
 exact In.div d0 (this _ hd)
theorem In.same {A B:List (Nat→Int)} (h:∀r∈A,In B r) (h2:∀r∈B,In A r):In A=In B:=funext fun _=>propext ⟨In.sub h,In.sub h2⟩
open Classical in
noncomputable def dim:Nat→((Nat→Int)→Prop)→Nat
 |0,_=>0
 |m+1,S=>(if ∃x,S x∧x 0≠0 then 1 else 0)+dim m fun y=>∃x,S x∧x 0=0∧∀j,y j=x (j+1)
open Classical in
theorem z7j:∀(m:Nat) (S:(Nat→Int)→Prop),dim (m+1) S=dim m S+(if ∃x,S x∧(∀j,j<m→x j=0)∧x m≠0 then 1 else 0)
 |0,S=>by
  simp only[dim]
  have e:(∃x,S x∧x 0≠0)↔∃x,S x∧(∀j,j<0→x j=0)∧x 0≠0:=⟨fun⟨x,h1,h2⟩=>⟨x,h1,fun j h=>by lia,h2⟩,fun⟨x,h1,_,h2⟩=>⟨x,h1,h2⟩⟩
  simp only[e]
  lia
 |m+1,S=>by
  rw[dim,z7j m,dim]
  have e:(∃y:Nat→Int,(∃x,S x∧x 0=0∧∀j,y j=x (j+1))∧(∀j,j<m→y j=0)∧y m≠0)↔∃x,S x∧(∀j,j<m+1→x j=0)∧x (m+1)≠0:=by
   constructor
   ·rintro⟨y,⟨x,h1,h2,h3⟩,h4,h5⟩
    refine⟨x,h1,fun j hj=>?_,by rw[←h3];exact h5⟩
    cases j with
    |zero=>exact h2
    |succ j=>rw[←h3];exact h4 j (by lia)
   ·rintro⟨x,h1,h2,h3⟩
    exact⟨fun j=>x (j+1),⟨x,h1,h2 0 (by lia),fun _=>rfl⟩,fun j hj=>h2 (j+1) (by lia),h3⟩
  simp only[e]
  lia
def sh (x:Nat→Int):Nat→Int:=fun j=>x (j+1)
theorem Sm.head0 {A:List (Nat→Int)} (h:∀r∈A,r 0=0) {x:Nat→Int} (hx:Sm A x):x 0=0:=by
 induction hx with
 |zero=>rfl
 |more c hr _ ih=>dsimp only;rw[h _ hr,ih];lia
theorem Sm.sh {A:List (Nat→Int)}{x:Nat→Int} (hx:Sm A x):Sm (A.map sh) (Rk.sh x):=by
 induction hx with
 |zero=>exact Sm.zero
 |more c hr _ ih=>exact Sm.more c (List.mem_map_of_mem hr) ih
def zs (y:Nat→Int):Nat→Int
 |0=>0
 |j+1=>y j
theorem z7i {A:List (Nat→Int)}{m:Nat} (h:∀r∈A,r 0=0):dim (m+1) (In A)=dim m (In (A.map sh)):=by
 rw[dim,if_neg,Nat.zero_add]
 ·congr 1
  funext y
  refine propext ⟨?_,?_⟩
  ·rintro⟨x,⟨d,d0,hd⟩,h0,hy⟩
   exact⟨d,d0,hd.sh.cast fun j=>by show d*x (j+1)=_;rw[hy]⟩
  ·rintro⟨d,d0,hd⟩
   refine⟨zs y,⟨d,d0,?_⟩,rfl,fun _=>rfl⟩
   have:∀z,Sm (A.map sh) z→Sm A (zs z):=fun z hz=>by
        induction hz with
        |zero=>exact Sm.zero.cast fun j=>by cases j<;>rfl
        |more c hr _ ih=>
         obtain⟨r,hr2,rfl⟩:=q0e.mp hr
         refine (Sm.more c hr2 ih).cast fun j=>?_
         cases j with
         |zero=>show c*r 0+0=0;rw[h r hr2];lia
         |succ j=>rfl
   refine (this _ hd).cast fun j=>?_
   cases j with
   |zero=>show (0:Int)=d*0;lia
   |succ j=>rfl
 ·rintro⟨x,⟨d,d0,hd⟩,h0⟩
  have:=Sm.head0 h hd
  exact h0 ((Int.mul_eq_zero.mp this).resolve_left d0)
def cl (h r:Nat→Int):Nat→Int:=fun j=>h 0*r j - r 0*h j
theorem y1j {A B:List (Nat→Int)}{h:Nat→Int}{m:Nat} (h0:h 0≠0) (hA:∀r,r∈A↔r=h∨r∈B):dim (m+1) (In A)=1+dim m (In (B.map fun r=>sh (cl h r))):=by
 have hh:h∈A:=(hA h).mpr (.inl rfl)
 rw[dim,if_pos ⟨h,In.one hh,h0⟩]
 congr 2
 funext y
 refine propext ⟨?_,?_⟩
 ·rintro⟨x,⟨d,d0,hd⟩,hx,hy⟩
  have key:∀z,Sm A z→Sm (B.map fun r=>sh (cl h r)) (sh (cl h z)):=fun z hz=>by
   induction hz with
   |zero=>exact Sm.zero.cast fun j=>by show (0:Int)=h 0*0 - 0*h (j+1);lia
   | @more c r x hr _ ih=>
     rcases (hA r).mp hr with rfl|hb
     ·exact ih.cast fun j=>by show r 0*x (j+1) - x 0*r (j+1)=r 0*(c*r (j+1)+x (j+1)) - (c*r 0+x 0)*r (j+1);grind
     ·exact (Sm.more c (q0n (f:=fun r=>sh (cl h r)) hb) ih).cast fun j=>by
         show c*(h 0*r (j+1) - r 0*h (j+1))+(h 0*x (j+1) - x 0*h (j+1))=h 0*(c*r (j+1)+x (j+1)) - (c*r 0+x 0)*h (j+1)
         grind
  refine⟨h 0*d,q1o h0 d0,(key _ hd).cast fun j=>?_⟩
  show h 0*(d*x (j+1)) - d*x 0*h (j+1)=h 0*d*y j
  rw[hx,hy];grind
 ·rintro⟨d,d0,hd⟩
  refine⟨zs y,⟨d,d0,?_⟩,rfl,fun _=>rfl⟩
  have key:∀z,Sm (B.map fun r=>sh (cl h r)) z→Sm A (zs z):=fun z hz=>by
   induction hz with
   |zero=>exact Sm.zero.cast fun j=>by cases j<;>rfl
   |more c hr _ ih=>
    obtain⟨r,hr2,rfl⟩:=q0e.mp hr
    refine (Sm.more (c*h 0) ((hA r).mpr (.inr hr2)) (Sm.more (-(c*r 0)) hh ih)).cast fun j=>?_
    cases j with
    |zero=>show c*h 0*r 0+(-(c*r 0)*h 0+0)=0;grind
    |succ j=>show c*h 0*r (j+1)+(-(c*r 0)*h (j+1)+_)=c*(h 0*r (j+1) - r 0*h (j+1))+_;grind [zs]
  refine (key _ hd).cast fun j=>?_
  cases j with
  |zero=>show (0:Int)=d*0;lia
  |succ j=>rfl
inductive Ech:Nat→List (Nat→Int)→Prop
 |nil {m:Nat}:Ech m []
 |skip {m:Nat}{A:List (Nat→Int)}:(∀r∈A,r 0=0)→Ech m (A.map sh)→Ech (m+1) A
 |head {m:Nat}{h:Nat→Int}{B:List (Nat→Int)}:h 0≠0→(∀r∈B,r 0=0)→Ech m (B.map sh)→Ech (m+1) (h::B)
theorem z6p:∀m:Nat,dim m (In [])=0
 |0=>rfl
 |m+1=>by rw[z7i (fun r h=>by simp at h)];exact z6p m
theorem Ech.dim {m:Nat}{A:List (Nat→Int)} (h:Ech m A):Rk.dim m (In A)=A.length:=by
 induction h with
 |nil=>exact z6p _
 |skip h _ ih=>rw[z7i h,ih,List.length_map]
 | @head m h B h0 hB _ ih=>
   rw[y1j h0 (B:=B) (fun r=>by simp)]
   have e:In (B.map fun r=>sh (cl h r))=In (B.map sh):=by
    have ec:∀r∈B,sh (cl h r)=fun j=>h 0*sh r j:=fun r hr=>funext fun j=>by
        show h 0*r (j+1) - r 0*h (j+1)=h 0*r (j+1)
        rw[hB r hr];lia
    refine In.same (fun r hr=>?_) (fun r hr=>?_)
    ·obtain⟨u,hu,rfl⟩:=q0e.mp hr
     rw[ec u hu]
     exact In.mul _ (In.one (q0n hu))
    ·obtain⟨u,hu,rfl⟩:=q0e.mp hr
     refine In.div h0 ?_
     rw[←ec u hu]
     exact In.one (q0n (f:=fun r=>sh (cl h r)) hu)
   rw[e,ih,q0a,q0D];lia
def z7r (m:Nat) (p:(Nat→Int)×Nat):Prop:=p.2<m∧p.1 p.2≠0∧∀j,j<p.2→p.1 j=0
theorem y1Q:∀(m:Nat) (ps:List ((Nat→Int)×Nat)),ps.Pairwise (fun a b=>a.2<b.2)→(∀p∈ps,z7r m p)→Ech m (ps.map Prod.fst)
 |_,[],_,_=> .nil
 |0,p::_,_,h=>absurd (h p List.mem_cons_self).1 (by lia)
 |m+1,p::ps,hp,h=>by
  have low:∀q∈ps,p.2<q.2:=(q0X.mp hp).1
  have down:∀qs:List ((Nat→Int)×Nat),qs.Pairwise (fun a b=>a.2<b.2)→(∀q∈qs,z7r (m+1) q∧0<q.2)→Ech m ((qs.map Prod.fst).map sh):=fun qs h1 h2=>by
   have:=y1Q m (qs.map fun q=>(sh q.1,q.2 - 1)) ?_ ?_
   ·rw[q0w] at this ⊢
    exact this
   ·rw[q0M]
    refine List.Pairwise.imp_of_mem (fun {a b} ha hb hab=>?_) h1
    have:=(h2 a ha).2
    have:=(h2 b hb).2
    show a.2 - 1<b.2 - 1
    lia
   ·intro q hq
    obtain⟨u,hu,rfl⟩:=q0e.mp hq
    obtain⟨⟨y1,y2,y3⟩,y4⟩:=h2 u hu
    refine⟨by show u.2 - 1<m;lia,?_,fun j hj=>?_⟩
    ·show u.1 (u.2 - 1+1)≠0
     rw[Nat.sub_add_cancel y4];exact y2
    ·exact y3 (j+1) (by have:j<u.2 - 1:=hj;lia)
  obtain⟨y1,y2,y3⟩:=h p q0i
  by_cases h0:p.2=0
  ·rw[h0] at y2
   refine .head y2 (fun r hr=>?_) (down ps (q0X.mp hp).2 fun q hq=>⟨h q (q0f _ hq),by have:=low q hq;lia⟩)
   obtain⟨q,hq,rfl⟩:=q0e.mp hr
   exact (h q (q0f _ hq)).2.2 0 (by have:=low q hq;lia)
  ·have pos:∀q∈p::ps,0<q.2:=fun q hq=>by
    rcases q0o.mp hq with rfl|hq
    ·lia
    ·have:=low q hq;lia
   refine .skip (fun r hr=>?_) (down (p::ps) hp fun q hq=>⟨h q hq,pos q hq⟩)
   obtain⟨q,hq,rfl⟩:=q0e.mp hr
   exact (h q hq).2.2 0 (pos q hq)
def v (r:List Int):Nat→Int:=fun j=>r.getD j 0
theorem y1Z {f:Int→Int→Int} (f0:f 0 0=0):∀(r h:List Int),r.length=h.length→∀j,v (List.zipWith f r h) j=f (v r j) (v h j)
 |[],[],_,j=>by show (0:Int)=f 0 0;rw[f0]
 |x::r,y::h,e,0=>rfl
 |x::r,y::h,e,j+1=>y1Z f0 r h (by simpa using e) j
 |[],_::_,e,_=>by simp at e
 |_::_,[],e,_=>by simp at e
end Rk
end L2
namespace L2
namespace Rk
structure Red (m:Nat) (R:List ((Nat→Int)×Nat)):Prop where
 lead:∀p∈R,z7r m p
 up:R.Pairwise fun a b=>a.2<b.2
 off:∀p∈R,∀q∈R,p.2≠q.2→p.1 q.2=0
theorem Red.dim {m n:Nat}{R:List ((Nat→Int)×Nat)} (h:Red m R) (hn:m≤n):Rk.dim n (In (R.map Prod.fst))=R.length:=by
 rw[(y1Q n R h.up fun p hp=>⟨by have:=(h.lead p hp).1;lia,(h.lead p hp).2⟩).dim,q0a]
def z0Z {α:Type} (f:α→Int):List α→Int
 |[]=>0
 |a::l=>f a+z0Z f l
theorem z1w {α:Type}{f:α→Int}:∀{l:List α},(∀a∈l,f a=0)→z0Z f l=0
 |[],_=>rfl
 |a::l,h=>by rw[z0Z,h a List.mem_cons_self,z1w fun b hb=>h b (List.mem_cons_of_mem _ hb)];rfl
theorem z3f {α:Type}{f g k:α→Int} (c:Int):∀{l:List α},(∀a∈l,k a=c*f a+g a)→z0Z k l=c*z0Z f l+z0Z g l
 |[],_=>by simp[z0Z]
 |a::l,h=>by rw[z0Z,z0Z,z0Z,h a List.mem_cons_self,z3f c fun b hb=>h b (List.mem_cons_of_mem _ hb)];grind
theorem z4U {f:(Nat→Int)×Nat→Int}{q:(Nat→Int)×Nat}:∀{R:List ((Nat→Int)×Nat)},R.Pairwise (fun a b=>a.2<b.2)→q∈R→(∀p∈R,p.2≠q.2→f p=0)→z0Z f R=f q
 |[],_,h,_=>by simp at h
 |p::R,hu,hq,hz=>by
  have low:=(q0X.mp hu).1
  rw[z0Z]
  rcases q0o.mp hq with rfl|hq2
  ·rw[z1w fun p hp=>hz p (q0f _ hp) (by have:=low p hp;lia)];lia
  ·rw[hz p q0i (by have:=low q hq2;lia),z4U (q0X.mp hu).2 hq2 fun p hp=>hz p (q0f _ hp)];lia
theorem held {m:Nat}{R:List ((Nat→Int)×Nat)} (h:Red m R) {share:Int} (hs:∀p∈R,p.1 p.2∣share) {x:Nat→Int} (hx:In (R.map Prod.fst) x) (j:Nat):
 share*x j=z0Z (fun p=>x p.2*(share/p.1 p.2)*p.1 j) R:=by
 obtain⟨d,d0,hd⟩:=hx
 have key:∀z,Sm (R.map Prod.fst) z→share*z j=z0Z (fun p=>z p.2*(share/p.1 p.2)*p.1 j) R:=fun z hz=>by
  induction hz with
  |zero=>rw[z1w fun p _=>by simp];simp
  | @more c r x hr _ ih=>
    obtain⟨q,hq,rfl⟩:=q0e.mp hr
    have e1:z0Z (fun p=>q.1 p.2*(share/p.1 p.2)*p.1 j) R=share*q.1 j:=by
        rw[z4U h.up hq fun p hp hne=>by rw[h.off q hq p hp (fun z=>hne z.symm)];simp]
        rw[Int.mul_ediv_cancel' (hs q hq)]
    rw[z3f (f:=fun p=>q.1 p.2*(share/p.1 p.2)*p.1 j) (g:=fun p=>x p.2*(share/p.1 p.2)*p.1 j) c fun p _=>by dsimp only;grind,e1,←ih]
    grind
 have k:=key _ hd
 have e:z0Z (fun p=>d*x p.2*(share/p.1 p.2)*p.1 j) R=d*z0Z (fun p=>x p.2*(share/p.1 p.2)*p.1 j) R+z0Z (fun _=>0) R:=z3f d fun p _=>by grind
 rw[e,z1w (f:=fun _=>0) fun _ _=>rfl] at k
 have:d*(share*x j)=d*z0Z (fun p=>x p.2*(share/p.1 p.2)*p.1 j) R:=by rw[Int.add_zero] at k;rw[←k];grind
 exact q1B d0 this
theorem Red.more {m:Nat}{R R':List ((Nat→Int)×Nat)}{x:Nat→Int}{l:Nat} (k:(Nat→Int)×Nat→Nat→Int) (h:Red m R) (hx:z7r m (x,l)) (hz:∀p∈R,x p.2=0)
 (hk:∀p∈R,∃s own less:Int,s≠0∧own≠0∧own*p.1 l=less*x l∧∀j,s*k p j=own*p.1 j - less*x j)
 (hm:∀q,q∈R'↔q=(x,l)∨∃p∈R,q=(k p,p.2)) (hu:R'.Pairwise fun a b=>a.2<b.2):
 Red m R'∧In (R'.map Prod.fst)=In (x::R.map Prod.fst):=by
 have s0:∀{s a:Int},s≠0→s*a=0→a=0:=fun h1 h2=>(Int.mul_eq_zero.mp h2).resolve_left h1
 have less0:∀p∈R,∀less own:Int,own*p.1 l=less*x l→l<p.2→less=0:=fun p hp less own e hl=>by
  rw[(h.lead p hp).2.2 l hl,q1C] at e
  exact (Int.mul_eq_zero.mp e.symm).resolve_right hx.2.1
 have ne:∀p∈R,p.2≠l:=fun p hp e=>hx.2.1 (by show x l=0;rw[←e];exact hz p hp)
 refine⟨⟨fun q hq=>?_,hu,fun a ha b hb hne=>?_⟩,?_⟩
 ·rcases (hm q).mp hq with rfl|⟨p,hp,rfl⟩
  ·exact hx
  ·obtain⟨s,own,less,s1,o1,e1,e2⟩:=hk p hp
   obtain⟨y1,y2,y3⟩:=h.lead p hp
   refine⟨y1,fun z=>?_,fun j hj=>s0 s1 ?_⟩
   ·have:=e2 p.2
    rw[show k p p.2=0 from z,hz p hp,q1C,q1C,Int.sub_zero] at this
    exact y2 (s0 o1 this.symm)
   ·show s*k p j=0
    rw[e2,y3 j hj]
    by_cases hl:l<p.2
    ·rw[less0 p hp less own e1 hl];lia
    ·rw[show x j=0 from hx.2.2 j (by have:=ne p hp;have:j<p.2:=hj;show j<l;lia)];lia
 ·rcases (hm a).mp ha with rfl|⟨p,hp,rfl⟩<;>rcases (hm b).mp hb with rfl|⟨q,hq,rfl⟩
  ·exact absurd rfl hne
  ·exact hz q hq
  ·obtain⟨s,own,less,s1,o1,e1,e2⟩:=hk p hp
   refine s0 s1 ?_
   show s*k p l=0
   rw[e2,e1];lia
  ·obtain⟨s,own,less,s1,o1,e1,e2⟩:=hk p hp
   refine s0 s1 ?_
   show s*k p q.2=0
   rw[e2,h.off p hp q hq hne,hz q hq];lia
 ·have hxm:x∈R'.map Prod.fst:=q0e.mpr ⟨(x,l),(hm _).mpr (.inl rfl),rfl⟩
  refine In.same (fun r hr=>?_) (fun r hr=>?_)
  ·obtain⟨q,hq,rfl⟩:=q0e.mp hr
   rcases (hm q).mp hq with rfl|⟨p,hp,rfl⟩
   ·exact In.one q0i
   ·obtain⟨s,own,less,s1,o1,e1,e2⟩:=hk p hp
    refine In.div s1 ?_
    have a1:In (x::R.map Prod.fst) p.1:=In.one (q0f _ (q0n hp))
    have a2:In (x::R.map Prod.fst) x:=In.one q0i
    exact ((a1.mul own).add (a2.mul (-less))).cast fun j=>by rw[e2];grind
  ·rcases q0o.mp hr with rfl|hr
   ·exact In.one hxm
   ·obtain⟨p,hp,rfl⟩:=q0e.mp hr
    obtain⟨s,own,less,s1,o1,e1,e2⟩:=hk p hp
    refine In.div o1 ?_
    have a1:In (R'.map Prod.fst) (k p):=In.one (q0e.mpr ⟨(k p,p.2),(hm _).mpr (.inr ⟨p,hp,rfl⟩),rfl⟩)
    have a2:In (R'.map Prod.fst) x:=In.one hxm
    exact ((a1.mul s).add (a2.mul less)).cast fun j=>by rw[e2];grind
theorem z8O {m:Nat}{R:List ((Nat→Int)×Nat)} (h:Red m R) {q:(Nat→Int)×Nat} (hq:q∈R) {x y x0:Nat→Int}{own less c:Int} (o:own≠0) (e:own*x q.2=less*q.1 q.2) (hy:∀j,y j=own*x j - less*q.1 j)
 (hc:c≠0) (hs:Sm (R.map Prod.fst) fun j=>x j - c*x0 j):y q.2=0∧(∀p∈R,x p.2=0→y p.2=0)∧own*c≠0∧Sm (R.map Prod.fst) fun j=>y j - own*c*x0 j:=by
 have y0:y q.2=0:=by rw[hy,e];lia
 refine⟨y0,fun p hp hz=>?_,q1o o hc,?_⟩
 ·by_cases hne:p.2=q.2
  ·rw[hne];exact y0
  ·rw[hy,hz,h.off q hq p hp fun z=>hne z.symm];lia
 ·exact (Sm.more (-less) (q0n hq) (hs.mul own)).cast fun j=>by rw[hy];grind
theorem z5g {A:List (Nat→Int)}{x x0:Nat→Int}{c:Int} (hc:c≠0) (hs:Sm A fun j=>x j - c*x0 j):In (x::A)=In (x0::A):=by
 have up:∀{r:Nat→Int}{z:Nat→Int},Sm A z→In (r::A) z:=fun h=>In.sub (fun r hr=>In.one (q0f _ hr)) (In.of h)
 refine In.same (fun r hr=>?_) (fun r hr=>?_)
 ·rcases q0o.mp hr with rfl|hr
  ·exact ((up hs).add ((In.one q0i).mul c)).cast fun j=>by lia
  ·exact In.one (q0f _ hr)
 ·rcases q0o.mp hr with rfl|hr
  ·refine In.div hc ?_
   exact ((In.one (r:=x) q0i).add ((up hs).mul (-1))).cast fun j=>by grind
  ·exact In.one (q0f _ hr)
theorem In.mono {A B:List (Nat→Int)} (h:∀r∈A,r∈B) {x:Nat→Int} (hx:In A x):In B x:=In.sub (fun r hr=>In.one (h r hr)) hx
theorem z8P {A:List (Nat→Int)}{x x0:Nat→Int}{c:Int} (hc:c≠0) (hs:Sm A fun j=>x j - c*x0 j) (h0:∀j,x j=0):In (x0::A)=In A:=by
 have hx:In A x0:=In.div hc (((In.of hs).mul (-1)).cast fun j=>by rw[h0];grind)
 refine In.same (fun r hr=>?_) (fun r hr=>In.one (q0f _ hr))
 rcases q0o.mp hr with rfl|hr
 ·exact hx
 ·exact In.one hr
theorem y1i {A:List (Nat→Int)}{m:Nat}{x:Nat→Int} (h:In A x) (h0:∀j,j<m→x j=0) (h1:x m≠0):dim (m+1) (In A)=dim m (In A)+1:=by
 rw[z7j,if_pos ⟨x,h,h0,h1⟩]
end Rk
end L2
namespace L2
open PySem PySem.Spec PyProof.Rows
open Builtin.Int (intBits)
namespace Rk
def fp (r:List Int):Nat:=r.findIdx (· != 0)
theorem y3V {r:List Int} (h:∃n∈r,n≠0):fp r<r.length:=by
 unfold fp
 rw[List.findIdx_lt_length]
 obtain⟨n,hn,h0⟩:=h
 exact⟨n,hn,by simpa using h0⟩
theorem z1I {r:List Int} (h:∃n∈r,n≠0):v r (fp r)≠0:=by
 have hl:=y3V h
 show r.getD (fp r) 0≠0
 rw[q0c,q0b hl,Option.getD_some]
 have:=List.findIdx_getElem (xs:=r) (p:=fun n=>n != 0) (w:=hl)
 intro z
 have z':r[List.findIdx (fun n=>n != 0) r]=0:=z
 rw[z'] at this
 exact absurd this (by decide)
theorem z1c {r:List Int}{j:Nat} (h:j<fp r):v r j=0:=by
 show r.getD j 0=0
 rw[q0c]
 cases e:r[j]? with
 |none=>rfl
 |some n=>
  obtain⟨hl,e2⟩:=q0E.mp e
  have:=List.not_of_lt_findIdx (p:=fun n=>n != 0) (xs:=r) h
  rw[←e2]
  simpa using this
theorem z2q {r:List Int}{l:Nat} (h1:v r l≠0) (h2:∀j,j<l→v r j=0):fp r=l:=by
 have hex:∃n∈r,n≠0:=by
  have hl:l<r.length:=q0C fun hn=>h1 (by
   show r.getD l 0=0
   rw[q0c,q1m (by lia)];rfl)
  refine⟨r[l],q0F hl,fun z=>h1 ?_⟩
  show r.getD l 0=0
  rw[q0c,q0b hl,Option.getD_some,z]
 rcases Nat.lt_trichotomy (fp r) l with h|h|h
 ·exact absurd (h2 _ h) (z1I hex)
 ·exact h
 ·exact absurd (z1c h) h1
theorem z4j:∀(r:List Int) (k:Nat),(∃n∈r,n≠0)→((((r.map V.int).mapIdx fun i x=>(V.int ((i+k:Nat):Int),x)).filter fun c=>match c.2 with| .int n=> !decide (V.int n=V.int 0)|_=>false).map Prod.fst)[0]? =some (V.int ((fp r+k:Nat):Int))
 |[],_,h=>by obtain⟨n,hn,_⟩:=h;simp at hn
 |m::r,k,h=>by
  rw[q0t,List.mapIdx_cons]
  by_cases hm:m=0
  ·subst hm
   rw[q1c (by simp)]
   have h':∃n∈r,n≠0:=by
        obtain⟨n,hn,h0⟩:=h
        rcases q0o.mp hn with rfl|hn
        ·exact absurd rfl h0
        ·exact⟨n,hn,h0⟩
   have ih:=z4j r (k+1) h'
   have e:fp (0::r)=fp r+1:=by unfold fp;rw[List.findIdx_cons];rfl
   rw[e,show fp r+1+k=fp r+(k+1) by lia]
   rw[show (fun i x=>(fun i x=>(V.int ((i+k:Nat):Int),x)) (i+1) x)=(fun (i:Nat) (x:V)=>(V.int ((i+(k+1):Nat):Int),x)) from by funext i x;show (V.int ((i+1+k:Nat):Int),x)=_;rw[show i+1+k=i+(k+1) by lia]]
   exact ih
  ·rw[q1b (by simp[hm])]
   have e:fp (m::r)=0:=by unfold fp;rw[List.findIdx_cons,show (m != 0)=true from by simpa using hm];rfl
   rw[e];rfl
def z6J (xs rs:List Int):Int:=(v rs (fp rs)).fdiv (Int.gcd (v rs (fp rs)) (v xs (fp rs)))
def z2B (xs rs:List Int):Int:=(v xs (fp rs)).fdiv (Int.gcd (v rs (fp rs)) (v xs (fp rs)))
def z0m (xs rs:List Int):List Int:=List.zipWith (fun one other=>z6J xs rs*one - z2B xs rs*other) xs rs
theorem z9P {a b:Int} (h:a≠0):((Int.gcd a b:Nat):Int)≠0:=fun z=>h (Int.gcd_eq_zero_iff.mp (Int.ofNat_eq_zero.mp z)).1
theorem z5k {xs rs:List Int} (h:∃n∈rs,n≠0):z6J xs rs≠0:=Wl.fdiv_ne (Int.gcd_dvd_left ..) (z1I h)
theorem z4B {xs rs:List Int} (h:∃n∈rs,n≠0):z6J xs rs*v xs (fp rs)=z2B xs rs*v rs (fp rs):=by
 have g0:=z9P (b:=v xs (fp rs)) (z1I h)
 have e1:=Wl.fdiv_mul (Int.gcd_dvd_left (a:=v rs (fp rs)) (b:=v xs (fp rs)))
 have e2:=Wl.fdiv_mul (Int.gcd_dvd_right (a:=v rs (fp rs)) (b:=v xs (fp rs)))
 unfold z6J z2B
 generalize ((Int.gcd (v rs (fp rs)) (v xs (fp rs)):Nat):Int)=g at*
 generalize (v rs (fp rs)).fdiv g=o at*
 generalize (v xs (fp rs)).fdiv g=l at*
 rw[←e1,←e2]
 grind
theorem z4L {xs rs:List Int} (hl:xs.length=rs.length) (j:Nat):v (z0m xs rs) j=z6J xs rs*v xs j - z2B xs rs*v rs j:=
 y1Z (f:=fun one other=>z6J xs rs*one - z2B xs rs*other) (by simp) xs rs hl j
theorem z1Q {xs rs:List Int} (hl:xs.length=rs.length):(z0m xs rs).length =xs.length:=by
 unfold z0m;rw[List.length_zipWith];lia
end Rk
end L2
namespace L2
open PySem PySem.Spec PyProof.Rows
open Builtin.Int (intBits)
namespace Rk
open Wl
theorem z1t {r:List Int} (j:Nat):v (z0j r) j*byL r=v r j:=by
 show (z0j r).getD j 0*byL r=r.getD j 0
 unfold z0j
 rw[q0c,q0c,q0j]
 cases e:r[j]? with
 |none=>simp
 |some n=>
  show n.fdiv (byL r)*byL r=n
  exact fdiv_mul (z3M (q0s e))
theorem plain_len (r:List Int):(z0j r).length =r.length:=by unfold z0j;rw[List.length_map]
theorem z1m {r:List Int} (h:∃n∈r,n≠0) (j:Nat):v (z0j r) j=0↔v r j=0:=by
 constructor
 ·intro z
  rw[←z1t,z];lia
 ·intro z
  have:=z1t (r:=r) j
  rw[z] at this
  exact (Int.mul_eq_zero.mp this).resolve_right (z2r h)
theorem z4z {r:List Int} (h:∃n∈r,n≠0):∃n∈z0j r,n≠0:=by
 obtain⟨n,hn,h0⟩:=h
 refine⟨n.fdiv (byL r),?_,fdiv_ne (z3M hn) h0⟩
 unfold z0j
 exact q0n hn
theorem z6Q {s:Int}:∀(r:List Int),(∀n∈r,s∣n)→z0V (r.map fun n=>n.fdiv s)=(z0V r).fdiv s
 |[],_=>by show (0:Int)=(0:Int).fdiv s;simp
 |n::r,h=>by
  show (if n.fdiv s=0 then z0V (r.map fun n=>n.fdiv s) else n.fdiv s)=(if n=0 then z0V r else n).fdiv s
  have ih:=z6Q r fun m hm=>h m (q0f _ hm)
  by_cases h0:n=0
  ·subst h0
   rw[if_pos (by simp),if_pos rfl,ih]
  ·rw[if_neg (fdiv_ne (h n q0i) h0),if_neg h0]
theorem z1D {r:List Int} (h:∃n∈r,n≠0):z0j (z0j r)=z0j r:=by
 have b0:=z2r h
 have dv:∀n∈r,byL r∣n:=fun n hn=>z3M hn
 have el:z0V (z0j r)=(z0V r).fdiv (byL r):=z6Q r dv
 have ln:=z4G h
 have ld:byL r∣z0V r:=by
  have:z0V r∈r∨z0V r=0:=by
   clear h b0 dv el ln
   induction r with
   |nil=>exact .inr rfl
   |cons n r ih=>
    by_cases h0:n=0
    ·have e:z0V (n::r)=z0V r:=if_pos h0
     rw[e]
     rcases ih with ih|ih
     ·exact .inl (q0f _ ih)
     ·exact .inr ih
    ·have e:z0V (n::r)=n:=if_neg h0
     rw[e];exact .inl q0i
  rcases this with h1|h1
  ·exact dv _ h1
  ·exact absurd h1 ln
 have em:=fdiv_mul ld
 have pos:0<z0V (z0j r):=by
  rw[el]
  generalize hq:(z0V r).fdiv (byL r)=q at*
  have hg:0<(z1v r:Int):=by have:=z3a h;lia
  by_cases hn:z0V r<0
  ·have eb:byL r= -(z1v r:Int):=by unfold byL;rw[if_pos hn]
   rw[eb] at em
   refine q0C fun hc=>?_
   have:0≤(-q)*(z1v r:Int):=Int.mul_nonneg (by lia) (by lia)
   have e2:q* -(z1v r:Int)=(-q)*(z1v r:Int):=by grind
   lia
  ·have eb:byL r=(z1v r:Int):=by unfold byL;rw[if_neg hn]
   rw[eb] at em
   refine q0C fun hc=>?_
   have:0≤(-q)*(z1v r:Int):=Int.mul_nonneg (by lia) (by lia)
   have e2:q*(z1v r:Int)= -((-q)*(z1v r:Int)):=by grind
   lia
 have g1:(z1v (z0j r):Int)∣1:=by
  have hb:∀n∈r,(z1v (z0j r):Int)*byL r∣n:=fun n hn=>by
   have h1:(z1v (z0j r):Int)∣n.fdiv (byL r):=z3b (by unfold z0j;exact List.mem_map_of_mem hn)
   have:=Int.mul_dvd_mul h1 (Int.dvd_refl (byL r))
   rw[fdiv_mul (dv n hn)] at this
   exact this
  have h2:=y1f hb
  have h3:(z1v r:Int)∣byL r:=by
   unfold byL
   split
   ·exact Int.dvd_neg.mpr (Int.dvd_refl _)
   ·exact Int.dvd_refl _
  have h4:=Int.dvd_trans h2 h3
  obtain⟨c,hc⟩:=h4
  refine⟨c,?_⟩
  have:byL r*(z1v (z0j r)*c)=byL r*1:=by rw[Int.mul_one];conv=>rhs;rw[hc]
                                         grind
  exact (q1B b0 this).symm
 have g2:(z1v (z0j r):Int)=1:=by
  have:=Int.eq_one_of_dvd_one (by lia) g1
  exact this
 have eb:byL (z0j r)=1:=by
  unfold byL
  rw[if_neg (by lia),g2]
 have:z0j (z0j r)=(z0j r).map fun n=>n.fdiv 1:=by
  show (z0j r).map (fun n=>n.fdiv (byL (z0j r)))=_
  rw[eb]
 rw[this]
 conv=>rhs;rw[←List.map_id (z0j r)]
 exact q0T fun n _=>by simp
end Rk
end L2
namespace L2
namespace Rk
open Wl
structure Rws (m:Nat) (us:List (List Int)):Prop where
 row:∀t∈us,t.length=m+1∧fp t<m∧z0j t=t
 up:us.Pairwise fun a b=>fp a<fp b
 off:∀s∈us,∀t∈us,fp s≠fp t→v s (fp t)=0
theorem Rws.nil {m:Nat}:Rws m []:=⟨fun t h=>by simp at h,.nil,fun t h=>by simp at h⟩
theorem z5t {t:List Int}{j:Nat} (h:v t j≠0):∃n∈t,n≠0:=by
 have h':t.getD j 0≠0:=h
 rw[q0c] at h'
 cases e:t[j]? with
 |none=>rw[e] at h';exact absurd rfl h'
 |some n=>rw[e] at h';exact⟨n,List.mem_of_getElem? e,h'⟩
theorem z9m {t:List Int} (h:fp t<t.length):∃n∈t,n≠0:=by
 unfold fp at h
 rw[List.findIdx_lt_length] at h
 obtain⟨n,hn,h0⟩:=h
 exact⟨n,hn,by simpa using h0⟩
theorem z1k {r:List Int} (h:∃n∈r,n≠0):fp (z0j r)=fp r:=
 z2q (fun z=>z1I h ((z1m h _).mp z)) fun j hj=>(z1m h j).mpr (z1c hj)
theorem Rws.nz {m:Nat}{us:List (List Int)} (h:Rws m us) {t:List Int} (ht:t∈us):∃n∈t,n≠0:=by
 obtain⟨a,b,_⟩:=h.row t ht
 exact z9m (by lia)
theorem Rws.inj {m:Nat}{us:List (List Int)} (h:Rws m us) {s t:List Int} (hs:s∈us) (ht:t∈us) (e:fp s=fp t):s=t:=by
 have hu:=h.up
 clear h
 induction hu with
 |nil=>simp at hs
 |cons h1 _ ih=>
  rcases q0o.mp hs with e1|h2<;>rcases q0o.mp ht with e2|h3
  ·rw[e1,e2]
  ·have:=h1 _ h3;rw[e1] at e;lia
  ·have:=h1 _ h2;rw[e2] at e;lia
  ·exact ih h2 h3
theorem Rws.red {m:Nat}{us:List (List Int)} (h:Rws m us):Red m (us.map fun t=>(v t,fp t)):=by
 refine⟨fun p hp=>?_,?_,fun p hp q hq hne=>?_⟩
 ·obtain⟨t,ht,rfl⟩:=q0e.mp hp
  exact⟨(h.row t ht).2.1,z1I (h.nz ht),fun j hj=>z1c hj⟩
 ·rw[q0M];exact h.up
 ·obtain⟨s,hs,rfl⟩:=q0e.mp hp
  obtain⟨t,ht,rfl⟩:=q0e.mp hq
  exact h.off s hs t ht hne
theorem z2D (us:List (List Int)):(us.map fun t=>(v t,fp t)).map Prod.fst=us.map v:=by rw[q0w];rfl
theorem Rws.dim {m n:Nat}{us:List (List Int)} (h:Rws m us) (hn:m≤n):Rk.dim n (In (us.map v))=us.length:=by
 have:=h.red.dim hn
 rw[z2D,q0a] at this
 exact this
theorem z8Q {m:Nat}{us:List (List Int)} (h:Rws m us) {xs:List Int}:∀(todo:List (List Int)) (y:List Int) (c:Int) (seen:List (List Int)),(∀t∈todo,t∈us)→(∀t∈seen,t∈us∧v y (fp t)=0)→y.length=m+1→c≠0→Sm (us.map v) (fun j=>v y j - c*v xs j)→
 (todo.foldl z0m y).length =m+1∧(∀t∈seen++todo,v (todo.foldl z0m y) (fp t)=0)∧∃c',c'≠0∧Sm (us.map v) fun j=>v (todo.foldl z0m y) j - c'*v xs j
 |[],y,c,seen,_,hs,hl,hc,hS=>⟨hl,fun t ht=>(hs t (by simpa using ht)).2,c,hc,hS⟩
 |t::todo,y,c,seen,ht,hs,hl,hc,hS=>by
  have htu:=ht t q0i
  have hlen:y.length=t.length:=by rw[hl,(h.row t htu).1]
  have st:=z8O (R:=us.map fun t=>(v t,fp t)) h.red (q:=(v t,fp t)) (q0e.mpr ⟨t,htu,rfl⟩) (x:=v y) (y:=v (z0m y t)) (x0:=v xs) (own:=z6J y t) (less:=z2B y t) (c:=c) (z5k (h.nz htu)) (z4B (h.nz htu)) (fun j=>z4L hlen j) hc (by rw[z2D];exact hS)
  rw[z2D] at st
  obtain⟨a1,a2,a3,a4⟩:=st
  have r:=z8Q h (xs:=xs) todo (z0m y t) (z6J y t*c) (seen++[t]) (fun s hs'=>ht s (q0f _ hs')) (fun s hs'=>by
   rcases q0r.mp hs' with h1|h1
   ·obtain⟨b1,b2⟩:=hs s h1
    exact⟨b1,a2 (v s,fp s) (q0e.mpr ⟨s,b1,rfl⟩) b2⟩
   ·rw[q0g.mp h1];exact⟨htu,a1⟩) (by rw[z1Q hlen,hl]) a3 a4
  rw[List.append_assoc,List.singleton_append] at r
  exact r
theorem Rws.rest {m:Nat}{us:List (List Int)} (h:Rws m us) {xs:List Int} (hl:xs.length=m+1):
 (us.foldl z0m xs).length =m+1∧(∀t∈us,v (us.foldl z0m xs) (fp t)=0)∧∃c,c≠0∧Sm (us.map v) fun j=>v (us.foldl z0m xs) j - c*v xs j:=by
 have:=z8Q h (xs:=xs) us xs 1 [] (fun t ht=>ht) (fun t ht=>by simp at ht) hl (by decide) (Sm.zero.cast fun j=>by lia)
 simpa using this
def z1z (r:List Int) (t:List Int):List Int:=z0j (z0m t r)
theorem Rws.more {m:Nat}{us us':List (List Int)}{xs:List Int} (h:Rws m us) (hl:xs.length=m+1) (hnz:∃j,j<m∧v (us.foldl z0m xs) j≠0)
 (hp:us'.Perm (us.map (z1z (z0j (us.foldl z0m xs)))++[z0j (us.foldl z0m xs)])) (hs:us'.Pairwise fun a b=>fp a≤fp b):
 Rws m us'∧In (us'.map v)=In (v xs::us.map v)∧us'.length=us.length+1:=by
 obtain⟨r1,r2,c,c0,r3⟩:=h.rest hl
 generalize us.foldl z0m xs=rest at*
 obtain⟨j0,hj0,hj1⟩:=hnz
 have nzr:∃n∈rest,n≠0:=z5t hj1
 have ha:z0j (z0j rest)=z0j rest:=z1D nzr
 have nza:=z4z nzr
 have la:(z0j rest).length =m+1:=by rw[plain_len,r1]
 have za:∀t∈us,v (z0j rest) (fp t)=0:=fun t ht=>(z1m nzr _).mpr (r2 t ht)
 have fpa:fp (z0j rest)<m:=by
  rw[z1k nzr]
  refine q0C fun hc=>hj1 (z1c ?_)
  lia
 have spn:In (v (z0j rest)::us.map v)=In (v xs::us.map v):=by
  rw[←z5g c0 r3]
  refine In.same (fun r hr=>?_) (fun r hr=>?_)
  ·rcases q0o.mp hr with rfl|hr
   ·refine In.div (z2r nzr) ?_
    exact (In.one (r:=v rest) q0i).cast fun j=>by rw[←z1t (r:=rest) j,Int.mul_comm]
   ·exact In.one (q0f _ hr)
  ·rcases q0o.mp hr with rfl|hr
   ·exact ((In.one (r:=v (z0j rest)) q0i).mul (byL rest)).cast fun j=>by rw[←z1t (r:=rest) j,Int.mul_comm]
   ·exact In.one (q0f _ hr)
 generalize z0j rest=a at*
 have cl:∀t∈us,t.length=a.length:=fun t ht=>by rw[(h.row t ht).1,la]
 have cv:∀t∈us,∀j,v (z0m t a) j=z6J t a*v t j - z2B t a*v a j:=fun t ht j=>z4L (cl t ht) j
 have ne:∀t∈us,fp t≠fp a:=fun t ht e=>z1I nza (by rw[←e];exact za t ht)
 have l0:∀t∈us,fp a<fp t→z2B t a=0:=fun t ht hlt=>by
  have e:=z4B (xs:=t) nza
  rw[z1c hlt,q1C] at e
  exact (Int.mul_eq_zero.mp e.symm).resolve_right (z1I nza)
 have kn0:∀t∈us,v (z0m t a) (fp t)≠0:=fun t ht=>by
  rw[cv t ht,za t ht,q1C,Int.sub_zero]
  exact q1o (z5k nza) (z1I (h.nz ht))
 have knz:∀t∈us,∃n∈z0m t a,n≠0:=fun t ht=>z5t (kn0 t ht)
 have kfp0:∀t∈us,fp (z0m t a)=fp t:=fun t ht=>z2q (kn0 t ht) fun j hj=>by
  rw[cv t ht,z1c hj,q1C]
  by_cases hlt:fp a<fp t
  ·rw[l0 t ht hlt];lia
  ·rw[z1c (r:=a) (j:=j) (by have:=ne t ht;lia)];lia
 have kfp:∀t∈us,fp (z1z a t)=fp t:=fun t ht=>by unfold z1z;rw[z1k (knz t ht),kfp0 t ht]
 have mem':∀u,u∈us'↔u=a∨∃t∈us,u=z1z a t:=fun u=>by
  rw[hp.mem_iff,q0r,q0e,q0g]
  constructor
  ·rintro (⟨t,ht,rfl⟩|rfl)
   ·exact .inr ⟨t,ht,rfl⟩
   ·exact .inl rfl
  ·rintro (rfl|⟨t,ht,rfl⟩)
   ·exact .inr rfl
   ·exact .inl ⟨t,ht,rfl⟩
 have nd:(us'.map fp).Nodup :=by
  have e:(us.map (z1z a)++[a]).map fp=us.map fp++[fp a]:=by
   rw[q0m,q0w]
   congr 1
   exact q0T fun t ht=>kfp t ht
  refine ((hp.map fp).nodup_iff).mpr ?_
  rw[e]
  refine List.nodup_append.mpr ⟨?_,by simp,fun x hx y hy=>?_⟩
  ·have:(us.map fp).Pairwise (· < ·):=by rw[q0M];exact h.up
   exact this.imp fun hlt=>by lia
  ·rw[q0g] at hy
   obtain⟨t,ht,rfl⟩:=q0e.mp hx
   rw[hy];exact ne t ht
 have up':us'.Pairwise fun a b=>fp a<fp b:=by
  have nd':us'.Pairwise fun a b=>fp a≠fp b:=by
   have:(us'.map fp).Pairwise (· ≠ ·):=nd
   rw[q0M] at this
   exact this
  exact hs.imp₂ (fun hle hne=>by lia) nd'
 let k:(Nat→Int)×Nat→Nat→Int:=fun p=>match us.find? fun t=>fp t==p.2 with
  |some t=>v (z1z a t)
  |none=>fun _=>0
 have kk:∀t∈us,k (v t,fp t)=v (z1z a t):=fun t ht=>by
  show (match us.find? fun s=>fp s==fp t with|some s=>v (z1z a s)|none=>fun _=>0)=_
  cases e:us.find? fun s=>fp s==fp t with
  |none=>
   have:=List.find?_eq_none.mp e t ht
   simp at this
  |some s=>
   have h1:=List.mem_of_find?_eq_some e
   have h2:=List.find?_some e
   rw[h.inj h1 ht (by simpa using h2)]
 have rm:=Red.more (R:=us.map fun t=>(v t,fp t)) (R':=us'.map fun t=>(v t,fp t)) (x:=v a) (l:=fp a) k h.red ⟨fpa,z1I nza,fun j hj=>z1c hj⟩ (fun p hp=>by
  obtain⟨t,ht,rfl⟩:=q0e.mp hp
  exact za t ht) (fun p hp=>by
  obtain⟨t,ht,rfl⟩:=q0e.mp hp
  refine⟨byL (z0m t a),z6J t a,z2B t a,z2r (knz t ht),z5k nza,z4B nza,fun j=>?_⟩
  rw[kk t ht,Int.mul_comm]
  show v (z0j (z0m t a)) j*_=_
  rw[z1t,cv t ht]) (fun q=>by
  rw[q0e]
  constructor
  ·rintro⟨u,hu,rfl⟩
   rcases (mem' u).mp hu with rfl|⟨t,ht,rfl⟩
   ·exact .inl rfl
   ·exact .inr ⟨(v t,fp t),q0e.mpr ⟨t,ht,rfl⟩,by rw[kk t ht,kfp t ht]⟩
  ·rintro (rfl|⟨p,hp,rfl⟩)
   ·exact⟨a,(mem' a).mpr (.inl rfl),rfl⟩
   ·obtain⟨t,ht,rfl⟩:=q0e.mp hp
    exact⟨z1z a t,(mem' _).mpr (.inr ⟨t,ht,rfl⟩),by rw[kk t ht,kfp t ht]⟩) (by rw[q0M];exact up')
 rw[z2D,z2D] at rm
 refine⟨⟨fun u hu=>?_,up',fun s hs t ht hne=>?_⟩,rm.2.trans spn,?_⟩
 ·rcases (mem' u).mp hu with rfl|⟨t,ht,rfl⟩
  ·exact⟨la,fpa,ha⟩
  ·refine⟨?_,?_,z1D (knz t ht)⟩
   ·unfold z1z;rw[plain_len,z1Q (cl t ht),cl t ht,la]
   ·rw[kfp t ht];exact (h.row t ht).2.1
 ·exact rm.1.off (v s,fp s) (q0e.mpr ⟨s,hs,rfl⟩) (v t,fp t) (q0e.mpr ⟨t,ht,rfl⟩) hne
 ·rw[hp.length_eq,q0x,q0a];rfl
theorem Rws.same {m:Nat}{us:List (List Int)}{xs:List Int} (h:Rws m us) (hl:xs.length=m+1) (h0:∀j,v (us.foldl z0m xs) j=0):In (us.map v)=In (v xs::us.map v):=by
 obtain⟨_,_,c,c0,r3⟩:=h.rest hl
 exact (z8P c0 r3 h0).symm
theorem Rws.off_all {m:Nat}{us:List (List Int)}{xs:List Int} (h:Rws m us) (hl:xs.length=m+1):In (v xs::us.map v) (v (us.foldl z0m xs)):=by
 obtain⟨_,_,c,c0,r3⟩:=h.rest hl
 rw[←z5g c0 r3]
 exact In.one q0i
end Rk
end L2
namespace L2
namespace Rk
open Wl
def z1r (ts:List (List Int)):Int:=ts.foldl (fun s t=>s*v t (fp t)) 1
theorem z4s:∀(ts:List (List Int)) (s:Int),s∣ts.foldl (fun s t=>s*v t (fp t)) s∧∀t∈ts,v t (fp t)∣ts.foldl (fun s t=>s*v t (fp t)) s
 |[],s=>⟨Int.dvd_refl _,fun t h=>by cases h⟩
 |u::ts,s=>by
  obtain⟨h1,h2⟩:=z4s ts (s*v u (fp u))
  refine⟨Int.dvd_trans (Int.dvd_mul_right s _) h1,fun t ht=>?_⟩
  rcases q0o.mp ht with rfl|ht
  ·exact Int.dvd_trans (Int.dvd_mul_left _ _) h1
  ·exact h2 t ht
theorem z4V {α β:Type}{f:β→Int}{g:α→β}:∀l:List α,z0Z f (l.map g)=z0Z (fun a=>f (g a)) l
 |[]=>rfl
 |a::l=>by rw[List.map_cons,z0Z,z0Z,z4V l]
theorem y1G:∀r:List Int,z0V r=v r (fp r)
 |[]=>rfl
 |n::r=>by
  by_cases h0:n=0
  ·have e:z0V (n::r)=z0V r:=if_pos h0
   have e2:fp (n::r)=fp r+1:=by unfold fp;rw[List.findIdx_cons,h0];rfl
   rw[e,e2,y1G r];rfl
  ·have e:z0V (n::r)=n:=if_neg h0
   have e2:fp (n::r)=0:=by unfold fp;rw[List.findIdx_cons,show (n != 0)=true from by simpa using h0];rfl
   rw[e,e2];rfl
theorem z8Y {r:List Int} (h:∃n∈r,n≠0):0<v (z0j r) (fp r):=by
 have em:=z1t (r:=r) (fp r)
 have n0:=z1I h
 rw[←y1G] at n0 em
 generalize hq:v (z0j r) (fp r)=q at*
 have hg:0<(z1v r:Int):=by have:=z3a h;lia
 by_cases hn:z0V r<0
 ·have eb:byL r= -(z1v r:Int):=by unfold byL;rw[if_pos hn]
  rw[eb] at em
  refine q0C fun hc=>?_
  have:0≤(-q)*(z1v r:Int):=Int.mul_nonneg (by lia) (by lia)
  have e2:q* -(z1v r:Int)=(-q)*(z1v r:Int):=by grind
  lia
 ·have eb:byL r=(z1v r:Int):=by unfold byL;rw[if_neg hn]
  rw[eb] at em
  refine q0C fun hc=>?_
  have:0≤(-q)*(z1v r:Int):=Int.mul_nonneg (by lia) (by lia)
  have e2:q*(z1v r:Int)= -((-q)*(z1v r:Int)):=by grind
  lia
theorem Rws.pos {m:Nat}{us:List (List Int)} (h:Rws m us) {t:List Int} (ht:t∈us):0<v t (fp t):=by
 have:=z8Y (h.nz ht)
 rw[(h.row t ht).2.2] at this
 exact this
end Rk
end L2
namespace L2
namespace Rk
open Wl
theorem z6E {m:Nat}{us:List (List Int)} (h:Rws m us):z1r us≠0:=by
 unfold z1r
 have:∀(ts:List (List Int)) (s:Int),s≠0→(∀t∈ts,v t (fp t)≠0)→ts.foldl (fun s t=>s*v t (fp t)) s≠0:=by
  intro ts
  induction ts with
  |nil=>intro s hs _;exact hs
  |cons t ts ih=>intro s hs ht;exact ih _ (Int.mul_ne_zero hs (ht t List.mem_cons_self)) fun u hu=>ht u (List.mem_cons_of_mem _ hu)
 exact this us 1 (by decide) fun t ht=>z1I (h.nz ht)
theorem Rws.told {m:Nat}{us:List (List Int)} (h:Rws m us) {x:Nat→Int} (hx:In (us.map v) x) (j:Nat):z1r us*x j=z0Z (fun t=>x (fp t)*(z1r us/v t (fp t))*v t j) us:=by
 have:=held h.red (share:=z1r us) (fun p hp=>by
  obtain⟨t,ht,rfl⟩:=q0e.mp hp
  exact (z4s us 1).2 t ht) (x:=x) (by rw[z2D];exact hx) j
 rw[z4V] at this
 exact this
theorem z3U {α:Type}{f:α→Int}:∀{l:List α},z0Z f l≠0→∃a∈l,f a≠0
 |[],h=>absurd rfl h
 |a::l,h=>by
  by_cases h0:f a=0
  ·rw[z0Z,h0,Int.zero_add] at h
   obtain⟨b,hb,hn⟩:=z3U h
   exact⟨b,q0f _ hb,hn⟩
  ·exact⟨a,q0i,h0⟩
theorem Rws.first {m:Nat}{us:List (List Int)} (h:Rws m us) {x:Nat→Int} (hx:In (us.map v) x) {p:Nat} (hp:x p≠0) (h0:∀j,j<p→x j=0):∃t∈us,fp t=p:=by
 have e:=h.told hx p
 have ne:z0Z (fun t=>x (fp t)*(z1r us/v t (fp t))*v t p) us≠0:=by
  rw[←e];exact q1o (z6E h) hp
 obtain⟨t,ht,hn⟩:=z3U ne
 refine⟨t,ht,?_⟩
 rcases Nat.lt_trichotomy (fp t) p with hlt|heq|hgt
 ·exact absurd (by rw[h0 _ hlt];simp) hn
 ·exact heq
 ·exact absurd (by rw[z1c hgt];simp) hn
theorem z7a:∀{l1 l2:List Nat},l1.Pairwise (· < ·)→l2.Pairwise (· < ·)→(∀x,x∈l1↔x∈l2)→l1=l2
 |[],[],_,_,_=>rfl
 |[],y::l2,_,_,h=>absurd ((h y).mpr List.mem_cons_self) (by simp)
 |x::l1,[],_,_,h=>absurd ((h x).mp List.mem_cons_self) (by simp)
 |x::l1,y::l2,h1,h2,h=>by
  have a1:=q0X.mp h1
  have a2:=q0X.mp h2
  have exy:x=y:=by
   rcases q0o.mp ((h x).mp q0i) with e|hx
   ·exact e
   ·rcases q0o.mp ((h y).mpr q0i) with e|hy
    ·exact e.symm
    ·have:=a2.1 x hx;have:=a1.1 y hy;lia
  subst exy
  congr 1
  refine z7a a1.2 a2.2 fun z=>?_
  constructor
  ·intro hz
   rcases q0o.mp ((h z).mp (q0f _ hz)) with e|hz'
   ·have:=a1.1 z hz;lia
   ·exact hz'
  ·intro hz
   rcases q0o.mp ((h z).mpr (q0f _ hz)) with e|hz'
   ·have:=a2.1 z hz;lia
   ·exact hz'
theorem y0H {r:List Int} (h:∃n∈r,n≠0) (hp:z0j r=r):byL r=1:=by
 have e:=z1t (r:=r) (fp r)
 rw[hp] at e
 have n0:=z1I h
 have:v r (fp r)*byL r=v r (fp r)*1:=by rw[Int.mul_one];exact e
 exact q1B n0 this
theorem z5i {r:List Int} (h:∃n∈r,n≠0) (hp:z0j r=r):(z1v r:Int)=1:=by
 have hb:=y0H h hp
 unfold byL at hb
 have hg:=z3a h
 split at hb<;>lia
theorem mem_v {r:List Int}{n:Int} (h:n∈r):∃j,v r j=n:=by
 obtain⟨j,hj,e⟩:=q0Q.mp h
 refine⟨j,?_⟩
 show r.getD j 0=n
 rw[q0c,q0b hj,e];rfl
theorem v_ext {r s:List Int} (hl:r.length=s.length) (h:∀j,v r j=v s j):r=s:=by
 refine List.ext_getElem hl fun j h1 h2=>?_
 have:=h j
 have e1:v r j=r[j]:=by
  show r.getD j 0=_
  rw[q0c,q0b h1];rfl
 have e2:v s j=s[j]:=by
  show s.getD j 0=_
  rw[q0c,q0b h2];rfl
 rw[←e1,←e2,this]
theorem z6M {a b:Int} (ha:0<a):∀(r:List Int) (g0:Nat),b∣a*(g0:Int)→(∀n∈r,b∣a*n)→b∣a*((r.foldl (fun (g:Nat) n=>Int.gcd (g:Int) n) g0:Nat):Int)
 |[],g0,h,_=>h
 |n::r,g0,h,hr=>by
  rw[List.foldl_cons]
  refine z6M ha r _ ?_ fun m hm=>hr m (q0f _ hm)
  have h1:b∣((Int.gcd (a*(g0:Int)) (a*n):Nat):Int):=Int.dvd_coe_gcd h (hr n q0i)
  rw[Int.gcd_mul_left] at h1
  rw[Int.natCast_mul,Int.natAbs_of_nonneg (by lia)] at h1
  exact h1
theorem z8Z {r s:List Int}{a b:Int} (hl:r.length=s.length) (hr:∃n∈r,n≠0) (hs:∃n∈s,n≠0) (pr:z0j r=r) (ps:z0j s=s) (ha:0<a) (hb:0<b) (h:∀j,a*v r j=b*v s j):r=s:=by
 have g1:=z5i hr pr
 have g2:=z5i hs ps
 have d:∀{r s:List Int}{a b:Int},0<a→(z1v r:Int)=1→(∀j,a*v r j=b*v s j)→b∣a:=fun {r s a b} a0 g h=>by
  have:=z6M a0 r 0 (by simp) fun n hn=>by
   obtain⟨j,rfl⟩:=mem_v hn
   exact⟨v s j,h j⟩
  have e:((r.foldl (fun (g:Nat) n=>Int.gcd (g:Int) n) 0:Nat):Int)=1:=g
  rw[e,Int.mul_one] at this
  exact this
 have d1:=d ha g1 h
 have d2:=d hb g2 fun j=>(h j).symm
 have e:a=b:=Int.dvd_antisymm (by lia) (by lia) d2 d1
 subst e
 exact v_ext hl fun j=>q1B (by lia) (h j)
theorem z3A {m:Nat}{us ws:List (List Int)} (h:Rws m us) (h2:Rws m ws) (e:In (us.map v)=In (ws.map v)) {t:List Int} (ht:t∈us):∃u∈ws,fp u=fp t:=
 h2.first (x:=v t) (by rw[←e];exact In.one (q0n ht)) (z1I (h.nz ht)) fun j hj=>z1c hj
theorem Rws.one {m:Nat}{us ws:List (List Int)} (h:Rws m us) (h2:Rws m ws) (e:In (us.map v)=In (ws.map v)):us=ws:=by
 have ef:us.map fp=ws.map fp:=by
  refine z7a (by rw[q0M];exact h.up) (by rw[q0M];exact h2.up) fun x=>?_
  constructor
  ·intro hx
   obtain⟨t,ht,rfl⟩:=q0e.mp hx
   obtain⟨u,hu,eu⟩:=z3A h h2 e ht
   exact q0e.mpr ⟨u,hu,eu⟩
  ·intro hx
   obtain⟨t,ht,rfl⟩:=q0e.mp hx
   obtain⟨u,hu,eu⟩:=z3A h2 h e.symm ht
   exact q0e.mpr ⟨u,hu,eu⟩
 have same:∀t∈us,∀u∈ws,fp u=fp t→t=u:=fun t ht u hu etu=>by
  have hin:In (ws.map v) (v t):=by rw[←e];exact In.one (q0n ht)
  have tv:∀j,z1r ws*v t j=v t (fp u)*(z1r ws/v u (fp u))*v u j:=fun j=>by
   rw[h2.told hin j]
   have key:∀(l:List (List Int)),(∀w∈l,w∈ws)→l.Pairwise (fun a b=>fp a<fp b)→u∈l→z0Z (fun w=>v t (fp w)*(z1r ws/v w (fp w))*v w j) l=v t (fp u)*(z1r ws/v u (fp u))*v u j:=by
        have zero:∀w∈ws,fp w≠fp u→v t (fp w)=0:=fun w hw hne=>by
         obtain⟨t',ht',e'⟩:=z3A h2 h e.symm hw
         rw[←e']
         exact h.off t ht t' ht' (by rw[e',←etu];exact fun z=>hne z.symm)
        intro l
        induction l with
        |nil=>intro _ _ hm;cases hm
        |cons w l ih=>
         intro hs hp hm
         have lo:=q0X.mp hp
         rw[z0Z]
         rcases q0o.mp hm with rfl|hm
         ·rw[z1w fun w' hw'=>by rw[zero w' (hs w' (q0f _ hw')) (by have:=lo.1 w' hw';lia)];simp]
          lia
         ·rw[ih (fun w' hw'=>hs w' (q0f _ hw')) lo.2 hm,zero w (hs w q0i) (by have:=lo.1 u hm;lia)]
          simp
   exact key ws (fun w hw=>hw) h2.up hu
  have pu:=h2.pos hu
  have pt:=h.pos ht
  rw[←etu] at pt
  have prop:∀j,v u (fp u)*v t j=v t (fp u)*v u j:=fun j=>by
   have e1:=tv j
   have hd:v u (fp u)∣z1r ws:=(z4s ws 1).2 u hu
   have e2:v u (fp u)*(z1r ws/v u (fp u))=z1r ws:=Int.mul_ediv_cancel' hd
   have q0:z1r ws/v u (fp u)≠0:=fun z=>by rw[z,q1C] at e2;exact z6E h2 e2.symm
   rw[←e2] at e1
   refine q1B q0 ?_
   rw[Int.mul_ediv_cancel_left _ (by lia)] at e1
   grind
  exact z8Z (by rw[(h.row t ht).1,(h2.row u hu).1]) (h.nz ht) (h2.nz hu) (h.row t ht).2.2 (h2.row u hu).2.2 pu pt prop
 have hlen:us.length=ws.length:=by have:=congrArg List.length ef;simpa using this
 refine List.ext_getElem hlen fun i h1 h3=>same _ (q0F h1) _ (q0F h3) ?_
 have:(us.map fp)[i]? =(ws.map fp)[i]? :=by rw[ef]
 rw[q0j,q0j,q0b h1,q0b h3] at this
 exact (Option.some.inj this).symm
end Rk
end L2
namespace L2
open PySem PySem.Spec PyProof.Rows
open Builtin.Int (intBits)
namespace Rk
open Wl
theorem z8z (ws:List (List Int)):∃us:List (List Int),us.Perm ws∧us.Pairwise (fun a b=>fp a≤fp b):=by
 refine⟨ws.mergeSort fun a b=>decide (fp a≤fp b),List.mergeSort_perm _ _,?_⟩
 have:=List.pairwise_mergeSort (le:=fun a b:List Int=>decide (fp a≤fp b)) (fun a b c h1 h2=>by simp at*;lia) (fun a b=>by simp;lia) ws
 exact this.imp fun h=>by simpa using h
end Rk
end L2
namespace L2
open PySem PySem.Spec PyProof.Rows
open Builtin.Int (intBits)
namespace Rk
open Wl
end Rk
end L2
namespace L2
open PySem PySem.Spec PyProof.Rows
open Builtin.Int (intBits)
def LsA (H:Hp) (as:List Addr) (ts:List (List Int)):Prop:=as.length=ts.length∧∀(i:Nat) (a:Addr) (t:List Int),as[i]? =some a→ts[i]? =some t→H a=some (.lst (t.map V.int))
theorem LsA.same {H H':Hp}{as:List Addr}{ts:List (List Int)} (g:Same H H') (h:LsA H as ts):LsA H' as ts:=⟨h.1,fun i a t e1 e2=>g _ _ (h.2 i a t e1 e2)⟩
theorem LsA.nil {H:Hp}:LsA H [] []:=⟨rfl,fun i a t e=>by simp at e⟩
abbrev dtL (t:List Int):Dt:= .l (t.map Dt.i)
theorem z4i {K:PySem.W.Frag}{H:Hp}{a:Addr}{ns:List Int} (h:H a=some (.lst (ns.map V.int))):IsD K H (.ref a) (dtL ns):= .l (SqL.of h) (z1U ns)
theorem LsA.isDs {K:PySem.W.Frag}{H:Hp}:∀{as:List Addr}{ts:List (List Int)},LsA H as ts→IsDs K H (as.map V.ref) (ts.map dtL)
 |[],[],_=> .nil
 |a::as,t::ts,h=> .cons (z4i (h.2 0 a t rfl rfl)) (LsA.isDs ⟨by simpa using h.1,fun i b u e1 e2=>h.2 (i+1) b u (by simpa using e1) (by simpa using e2)⟩)
 |[],_::_,h=>by have:=h.1;simp at this
 |_::_,[],h=>by have:=h.1;simp at this
theorem y1M {K:PySem.W.Frag}{H:Hp}{l:Addr}{as:List Addr}{ts:List (List Int)} (h:H l=some (.lst (as.map V.ref))) (t:LsA H as ts):IsD K H (.ref l) (.l (ts.map dtL)):= .l (SqL.of h) t.isDs
theorem z3H {H1 H':Hp}{G F:List V→HO}{g:List Int→List Int} (inj:∀xs ys,G xs=G ys→xs=ys) {as:List Addr}{ts:List (List Int)}{us:List V} (hl:as.length=ts.length) (h:∀(i:Nat) (a:Addr) (t:List Int),as[i]? =some a→ts[i]? =some t→H1 a=some (G (t.map V.int)))
 (e:Each (fun x u=>∃(a:Addr) (t:List Int) (p:Addr),x=V.ref a∧u=V.ref p∧H1 a=some (G (t.map V.int))∧H' p=some (F ((g t).map V.int))) (as.map V.ref) us):
 ∃as':List Addr,us=as'.map V.ref∧as'.length=(ts.map g).length ∧∀(i:Nat) (a:Addr) (t:List Int),as'[i]? =some a→(ts.map g)[i]? =some t→H' a=some (F (t.map V.int)):=by
 induction us generalizing as ts with
 |nil=>
  have:=e.length
  rw[q0a] at this
  have h0:as=[]:=q0J.mp this
  subst h0
  have h1:ts=[]:=q0J.mp (by rw[←hl];rfl)
  subst h1
  exact⟨[],rfl,rfl,fun i a t e=>by simp at e⟩
 |cons u us ih=>
  cases as with
  |nil=>cases e
  |cons a as=>
   cases ts with
   |nil=>simp at hl
   |cons t ts=>
    cases e with
    |cons e1 e2=>
     obtain⟨b,t',p,hb,rfl,h1,h2⟩:=e1
     cases hb
     have ht:=h 0 a t rfl rfl
     rw[ht] at h1
     have et:t=t':=by
      have z:t.map V.int=t'.map V.int:=inj _ _ (Option.some.inj h1)
      exact q1h (fun x y h=>by injection h) |>.mp z
     subst et
     obtain⟨as',rfl,hh1,hh2⟩:=ih (by simpa using hl) (fun i b u e1 e2=>h (i+1) b u (by simpa using e1) (by simpa using e2)) e2
     refine⟨p::as',rfl,by simpa using hh1,fun i b u e1 e2=>?_⟩
     cases i with
     |zero=>cases e1;cases e2;exact h2
     |succ i=>exact hh2 i b u (by simpa using e1) (by simpa using e2)
namespace Rk
end Rk
end L2
namespace L2
namespace Pt
open Rk
end Pt
end L2
namespace L2
namespace Dm
open Rk
end Dm
end L2
namespace L2
namespace Dm
open Rk Wl
end Dm
end L2
namespace L2
namespace Pt
open Rk Wl
end Pt
end L2
namespace L2
namespace Pt
open Rk Wl Dm
end Pt
end L2
namespace L2
open PySem PySem.Spec PyProof.Rows
section
variable {X:Cx}
end
section
variable {X:Cx}{pins:List (Addr×Obj)}{σ:St}{H:Hp}{s:Shared}
def y3h (K:PySem.W.Frag):R2:=fun x y H Q=>∃(a b:Addr) (xs:List V),x= .ref a∧y= .ref b∧SqL K H a xs∧SqL K H b []∧Q (.bl xs.isEmpty) H
theorem y0R {K:PySem.W.Frag} (hK:X.K=K) (hu:X.A.units+64<cLine):OpR X (compareOp .Eq) (y3h K):=by
 subst hK
 intro pins s σ H x y v u Q I r1 r2 h
 obtain⟨a,b,xs,rfl,rfl,q1,q2,q⟩:=h
 cases (show v=Value.ref a from r1)
 cases (show u=Value.ref b from r2)
 obtain⟨its,rv,p,hz⟩:=I.list q1
 obtain⟨its2,rv2,p2,hz2⟩:=I.list q2
 have l1:=rv.length
 have l2:=rv2.length
 have e2:its2=[]:=q0J.mp (by rw[←l2];rfl)
 subst e2
 cases xs with
 |nil=>
  have e1:its=[]:=q0J.mp (by rw[←l1];rfl)
  subst e1
  have t:=SeqAt.RcAt.lists (A:=X.A) (s:=s) (e:=fun _=>true) p.isList p2.isList rfl (by lia) (fun j h1 h2=>by simp at h1)
  exact t _ _ _ _ ⟨.bl true,H,I,rfl,q⟩
 |cons x0 xs=>
  have sz:(its.toArray.size != ([]:List Value).toArray.size)=true:=by
   rw[q0h,←l1]
   simp
  have t:=SeqAt.RcAt.lists_lengths (A:=X.A) (s:=s) p.isList p2.isList sz (by lia)
  exact t _ _ _ _ ⟨.bl false,H,I,rfl,q⟩
end
end L2
set_option maxHeartbeats 4000000
namespace L2
namespace Pt
open Rk Wl Dm
end Pt
end L2
namespace L2
namespace Pt
open Rk Wl Dm
end Pt
end L2
namespace L2
namespace Pt
open Rk Wl Dm
end Pt
end L2
namespace L2
namespace Pt
open Rk Wl Dm
end Pt
end L2
namespace L2
namespace Pt
open Rk Wl Dm
end Pt
end L2
set_option maxHeartbeats 1000000
namespace L2
namespace Rk
open Wl
def strk (k:Nat) (h t:List Int):List Int:=List.zipWith (fun n m=>n*v h k - m*v t k) t h
theorem z4o {k:Nat}{h t:List Int} (hl:t.length=h.length):(strk k h t).length =t.length:=by
 unfold strk
 rw[List.length_zipWith,hl,Nat.min_self]
theorem z2h {k:Nat}{h t:List Int} (hl:t.length=h.length) (j:Nat):v (strk k h t) j=v t j*v h k - v h j*v t k:=
 y1Z (f:=fun n m=>n*v h k - m*v t k) (by simp) t h hl j
structure RdI (m k:Nat) (rows F L:List (List Int)):Prop where
 fl:∀t∈F,t.length=m+1∧fp t<k
 up:F.Pairwise fun a b=>fp a<fp b
 off:∀s∈F,∀t∈F,fp s≠fp t→v s (fp t)=0
 ll:∀t∈L,t.length=m+1∧∀j,j<k→v t j=0
 sp:In ((F++L).map v)=In (rows.map v)
theorem RdI.start {m:Nat}{rows:List (List Int)} (h:∀t∈rows,t.length=m+1):RdI m 0 rows [] rows:=
 ⟨(fun t h=>by cases h),.nil,(fun s h=>by cases h),fun t ht=>⟨h t ht,fun j hj=>by lia⟩,rfl⟩
theorem RdI.pass {m k:Nat}{rows F L:List (List Int)} (I:RdI m k rows F L) (h:∀t∈L,v t k=0):RdI m (k+1) rows F L:=
 ⟨fun t ht=>⟨(I.fl t ht).1,by have:=(I.fl t ht).2;lia⟩,I.up,I.off,fun t ht=>⟨(I.ll t ht).1,fun j hj=>by
  by_cases e:j=k
  ·rw[e];exact h t ht
  ·exact (I.ll t ht).2 j (by lia)⟩,I.sp⟩
theorem RdI.step {m k:Nat}{rows F L:List (List Int)} (I:RdI m k rows F L) (km:k<m) {h:List Int} (hL:h∈L) (hk:v h k≠0):RdI m (k+1) rows (F.map (strk k h)++[h]) (L.map (strk k h)):=by
 obtain⟨hl,hz⟩:=I.ll h hL
 have hfp:fp h=k:=z2q hk hz
 have fe:∀t∈F,(strk k h t).length =m+1∧fp (strk k h t)=fp t:=fun t ht=>by
  obtain⟨tl,tk⟩:=I.fl t ht
  have e:t.length=h.length:=by rw[tl,hl]
  have tn:∃n∈t,n≠0:=z9m (by lia)
  refine⟨by rw[z4o e,tl],z2q ?_ fun j hj=>?_⟩
  ·rw[z2h e,hz _ tk,Int.zero_mul,Int.sub_zero]
   exact q1o (z1I tn) hk
  ·rw[z2h e,hz j (by lia),z1c hj];lia
 have inF:∀t,t∈F.map (strk k h)++[h]→(∃u∈F,t=strk k h u)∨t=h:=fun t ht=>by
  rcases q0r.mp ht with ht|ht
  ·obtain⟨u,hu,rfl⟩:=q0e.mp ht
   exact .inl ⟨u,hu,rfl⟩
  ·exact .inr (q0g.mp ht)
 refine⟨fun t ht=>?_,?_,fun s hs t ht hne=>?_,fun t ht=>?_,?_⟩
 ·rcases inF t ht with⟨u,hu,rfl⟩|rfl
  ·obtain⟨a,b⟩:=fe u hu
   have:=(I.fl u hu).2
   exact⟨a,by lia⟩
  ·exact⟨hl,by lia⟩
 ·rw[List.pairwise_append]
  refine⟨?_,by simp,fun a ha b hb=>?_⟩
  ·rw[q0M]
   refine List.Pairwise.imp_of_mem (fun {a b} ha hb hab=>?_) I.up
   rw[(fe a ha).2,(fe b hb).2];exact hab
  ·obtain⟨u,hu,rfl⟩:=q0e.mp ha
   rw[q0g.mp hb,(fe u hu).2,hfp]
   exact (I.fl u hu).2
 ·rcases inF s hs with⟨u,hu,rfl⟩|rfl
  ·have eu:u.length=h.length:=by rw[(I.fl u hu).1,hl]
   rcases inF t ht with⟨w,hw,rfl⟩|rfl
   ·rw[(fe w hw).2,z2h eu,hz _ (I.fl w hw).2,I.off u hu w hw (by rw[←(fe u hu).2,←(fe w hw).2];exact hne)]
    lia
   ·rw[hfp,z2h eu,Int.mul_comm];lia
  ·rcases inF t ht with⟨w,hw,rfl⟩|rfl
   ·rw[(fe w hw).2];exact hz _ (I.fl w hw).2
   ·exact absurd rfl hne
 ·obtain⟨u,hu,rfl⟩:=q0e.mp ht
  obtain⟨ul,uz⟩:=I.ll u hu
  have eu:u.length=h.length:=by rw[ul,hl]
  refine⟨by rw[z4o eu,ul],fun j hj=>?_⟩
  rw[z2h eu]
  by_cases e:j=k
  ·rw[e,Int.mul_comm];lia
  ·rw[uz j (by lia),hz j (by lia)];lia
 ·rw[←I.sp]
  have hm:∀u∈F++L,u.length=h.length:=fun u hu=>by
   rcases q0r.mp hu with hu|hu
   ·rw[(I.fl u hu).1,hl]
   ·rw[(I.ll u hu).1,hl]
  have hin:v h∈(F++L).map v:=q0n (q0z _ hL)
  refine In.same (fun r hr=>?_) (fun r hr=>?_)
  ·obtain⟨t,ht,rfl⟩:=q0e.mp hr
   have key:∀u∈F++L,In ((F++L).map v) (v (strk k h u)):=fun u hu=>by
     refine (((In.one (q0n (f:=v) hu)).mul (v h k)).add ((In.one hin).mul (-(v u k)))).cast fun j=>?_
     rw[z2h (hm u hu)];grind
   rcases q0r.mp ht with ht|ht
   ·rcases inF t ht with⟨u,hu,rfl⟩|rfl
    ·exact key u (q0N _ hu)
    ·exact In.one hin
   ·obtain⟨u,hu,rfl⟩:=q0e.mp ht
    exact key u (q0z _ hu)
  ·obtain⟨u,hu,rfl⟩:=q0e.mp hr
   have h1:v h∈((F.map (strk k h)++[h])++L.map (strk k h)).map v:=q0n (by simp)
   have h2:v (strk k h u)∈((F.map (strk k h)++[h])++L.map (strk k h)).map v:=q0n (by
     rcases q0r.mp hu with hu|hu
     ·exact q0N _ (q0N _ (q0n hu))
     ·exact q0z _ (q0n hu))
   refine In.div hk (((In.one h2).add ((In.one h1).mul (v u k))).cast fun j=>?_)
   rw[z2h (hm u hu)];grind
def z2t (k:Nat) (s:List (List Int)×List (List Int)):List (List Int)×List (List Int):=match s.2.filter fun t=>v t k != 0 with
 |[]=>s
 |h::_=>(s.1.map (strk k h)++[h],s.2.map (strk k h))
def z1l (rows:List (List Int)):Nat→List (List Int)×List (List Int)
 |0=>([],rows)
 |k+1=>z2t k (z1l rows k)
theorem z2j {m:Nat}{rows:List (List Int)} (hr:∀t∈rows,t.length=m+1):∀k,k≤m→RdI m k rows (z1l rows k).1 (z1l rows k).2
 |0,_=>RdI.start hr
 |k+1,hk=>by
  have ih:=z2j hr k (by lia)
  show RdI m (k+1) rows (z2t k (z1l rows k)).1 (z2t k (z1l rows k)).2
  unfold z2t
  cases e:(z1l rows k).2.filter fun t=>v t k != 0 with
  |nil=>
   dsimp only
   refine ih.pass fun t ht=>q0C fun z=>?_
   have:t∈(z1l rows k).2.filter fun t=>v t k != 0:=q1d.mpr ⟨ht,by simpa using z⟩
   rw[e] at this
   cases this
  |cons h l=>
   dsimp only
   have hm:h∈(z1l rows k).2.filter fun t=>v t k != 0:=by rw[e];exact q0i
   obtain⟨h1,h2⟩:=q1d.mp hm
   exact ih.step (by lia) h1 (by simpa using h2)
theorem RdI.none {m:Nat}{rows F L:List (List Int)} (I:RdI m m rows F L) {t:List Int} (ht:t∈L) (hn:v t m≠0):∃z,In (rows.map v) z∧(∀j,j<m→z j=0)∧z m≠0:=
 ⟨v t,by rw[←I.sp];exact In.one (q0n (q0z _ ht)),(I.ll t ht).2,hn⟩
theorem RdI.rws {m:Nat}{rows F L:List (List Int)} (I:RdI m m rows F L) (h0:∀t∈L,v t m=0):Rws m (F.map z0j)∧In ((F.map z0j).map v)=In (rows.map v):=by
 have nz:∀t∈F,∃n∈t,n≠0:=fun t ht=>z9m (by have:=I.fl t ht;lia)
 refine⟨⟨fun t ht=>?_,?_,fun s hs t ht hne=>?_⟩,?_⟩
 ·obtain⟨u,hu,rfl⟩:=q0e.mp ht
  obtain⟨a,b⟩:=I.fl u hu
  exact⟨by rw[plain_len,a],by rw[z1k (nz u hu)];exact b,z1D (nz u hu)⟩
 ·rw[q0M]
  refine List.Pairwise.imp_of_mem (fun {a b} ha hb hab=>?_) I.up
  rw[z1k (nz a ha),z1k (nz b hb)];exact hab
 ·obtain⟨u,hu,rfl⟩:=q0e.mp hs
  obtain⟨w,hw,rfl⟩:=q0e.mp ht
  rw[z1k (nz u hu),z1k (nz w hw)] at hne
  rw[z1k (nz w hw)]
  exact (z1m (nz u hu) _).mpr (I.off u hu w hw hne)
 ·rw[←I.sp]
  refine In.same (fun r hr=>?_) (fun r hr=>?_)
  ·rw[q0w] at hr
   obtain⟨u,hu,rfl⟩:=q0e.mp hr
   refine In.div (c:=byL u) (z2r (nz u hu)) ((In.one (q0n (f:=v) (q0N L hu))).cast fun j=>?_)
   show v u j=byL u*v (z0j u) j
   rw[←z1t (r:=u) j,Int.mul_comm]
  ·obtain⟨u,hu,rfl⟩:=q0e.mp hr
   rcases q0r.mp hu with hu|hu
   ·refine ((In.one (A:=(F.map z0j).map v) (r:=v (z0j u)) (q0n (q0n hu))).mul (byL u)).cast fun j=>?_
    rw[Int.mul_comm,z1t]
   ·obtain⟨ul,uz⟩:=I.ll u hu
    refine In.zero.cast fun j=>?_
    by_cases hj:j<m
    ·exact (uz j hj).symm
    by_cases hj2:j=m
    ·rw[hj2];exact (h0 u hu).symm
    ·refine q0C fun z=>?_
     have h':u.getD j 0≠0:=fun e=>z e.symm
     rw[q0c,q1m (by lia)] at h'
     exact h' rfl
end Rk
end L2
namespace L2
open Fr Wl Pt
namespace Rk
def z5P (m:Nat) (L:List (List Int)):Prop:=∃z,In (L.map v) z∧(∀j,j<m→z j=0)∧z m≠0
theorem z9K {A B:List (Nat→Int)} (h:In A=In B) (x:Nat→Int):In (x::A)=In (x::B):=by
 have half:∀{A B:List (Nat→Int)},In A=In B→∀r∈x::A,In (x::B) r:=fun h r hr=>by
  rcases q0o.mp hr with rfl|hr
  ·exact In.one q0i
  ·exact In.mono (fun s hs=>q0f _ hs) (h▸In.one hr)
 exact In.same (half h) (half h.symm)
theorem y2A {A:List (Nat→Int)}{x:Nat→Int} (h:In A x):In (x::A)=In A:=
 In.same (fun r hr=>by
  rcases q0o.mp hr with rfl|hr
  ·exact h
  ·exact In.one hr) (fun r hr=>In.one (q0f _ hr))
theorem z5s {m:Nat}{L:List (List Int)} (h:z5P m L) (w:List Int):z5P m (w::L):=by
 obtain⟨z,h1,h2,h3⟩:=h
 exact⟨z,In.mono (fun s hs=>by rw[q0t];exact q0f _ hs) h1,h2,h3⟩
theorem Rws.noff {m:Nat}{us L:List (List Int)} (h:Rws m us) (e:In (us.map v)=In (L.map v)):¬z5P m L:=by
 rintro⟨z,h1,h2,h3⟩
 rw[←e] at h1
 have:=y1i h1 h2 h3
 rw[h.dim (q1r m),h.dim (q0k m)] at this
 lia
theorem z8N {m:Nat}:∀(L:List (List Int)),(∀r∈L,r.length=m+1)→¬z5P m L→∃us,Rws m us∧In (us.map v)=In (L.map v)
 |[],_,_=>⟨[],Rws.nil,rfl⟩
 |xs::L,hL,ho=>by
  obtain⟨us,hR,hI⟩:=z8N L (fun r hr=>hL r (q0f _ hr)) fun z=>ho (z5s z xs)
  have xl:=hL xs q0i
  have hIx:In (v xs::us.map v)=In ((xs::L).map v):=by rw[q0t];exact z9K hI _
  by_cases hnz:∃j,j<m∧v (us.foldl z0m xs) j≠0
  ·obtain⟨us',p1,p2⟩:=(⟨(us.map (z1z (z0j (us.foldl z0m xs)))++[z0j (us.foldl z0m xs)]).mergeSort fun a b=>decide (fp a≤fp b),List.mergeSort_perm _ _,by
        have:=List.pairwise_mergeSort (le:=fun a b:List Int=>decide (fp a≤fp b)) (fun a b c h1 h2=>by simp at*;lia) (fun a b=>by simp;lia) (us.map (z1z (z0j (us.foldl z0m xs)))++[z0j (us.foldl z0m xs)])
        exact this.imp fun h=>by simpa using h⟩:∃us':List (List Int),us'.Perm (us.map (z1z (z0j (us.foldl z0m xs)))++[z0j (us.foldl z0m xs)])∧us'.Pairwise (fun a b=>fp a≤fp b))
   obtain⟨q1,q2,_⟩:=hR.more xl hnz p1 p2
   exact⟨us',q1,q2.trans hIx⟩
  ·have z0:∀j,j<m→v (us.foldl z0m xs) j=0:=fun j hj=>q0C fun hc=>hnz ⟨j,hj,hc⟩
   obtain⟨rl,_,_⟩:=hR.rest xl
   have zm:v (us.foldl z0m xs) m=0:=q0C fun hc=>ho ⟨_,hIx▸hR.off_all xl,z0,hc⟩
   refine⟨us,hR,?_⟩
   rw[←hIx]
   refine hR.same xl fun j=>?_
   by_cases hj:j<m
   ·exact z0 j hj
   ·by_cases hj2:j=m
    ·rw[hj2];exact zm
    ·show (us.foldl z0m xs).getD j 0=0
     rw[q0c,q1m (by lia)];rfl
end Rk
end L2
set_option maxHeartbeats 4000000
namespace L2
namespace Srt
open PyProof.Rows
open PySem.W (KasT kas_sort kas_count kas_bin kas_place kas_descPart kas_tail3 kas_desc kas_asc kas_rev)
structure Ord (c:Nat→Nat→Bool):Prop where
 asym:∀i j,c i j=true→c j i=false
 neg:∀i j k,c i j=false→c j k=false→c i k=false
def at0 (p:Array Nat) (i:Nat):Nat:=p.getD i 0
theorem z2Q {p:Array Nat}{i:Nat}:at0 p i=(p[i]?).getD 0:=by unfold at0;rw[Array.getD_eq_getD_getElem?]
def Up (c:Nat→Nat→Bool) (p:Array Nat) (k:Nat):Prop:=∀i j,i≤j→j<k→c (at0 p j) (at0 p i)=false
def Dn (c:Nat→Nat→Bool) (p:Array Nat) (k:Nat):Prop:=∀i j,i≤j→j<k→c (at0 p i) (at0 p j)=false
theorem z5O {p:Array Nat}{src d:Nat} (hs:src<p.size) (hd:d≤src) (k:Nat):at0 (bubble p src d) k=if k=src - d then at0 p src else if src - d<k∧k≤src then at0 p (k - 1) else at0 p k:=by
 have e:=getElem?_bubble hs d hd k
 rw[z2Q]
 by_cases h1:k=src - d
 ·rw[if_pos h1] at e ⊢;rw[z2Q,e]
 ·rw[if_neg h1] at e ⊢
  by_cases h2:src - d<k∧k≤src
  ·rw[if_pos h2] at e ⊢;rw[z2Q,e]
  ·rw[if_neg h2] at e ⊢;rw[z2Q,e]
theorem z2P {p:Array Nat}{i j:Nat} (hj:j≤p.size) (k:Nat):at0 (kas_rev p i j) k=if i≤k∧k<j then at0 p (i+j - 1 - k) else at0 p k:=by
 have e:=getElem?_mirror_all (i:=i) hj k
 rw[z2Q]
 unfold kas_rev
 by_cases h1:i≤k∧k<j
 ·rw[if_pos h1] at e ⊢;rw[z2Q,e]
 ·rw[if_neg h1] at e ⊢;rw[z2Q,e]
section
variable {c:Nat→Nat→Bool} (O:Ord c)
include O
theorem Ord.irr (i:Nat):c i i=false:=by
 cases h:c i i with
 |false=>rfl
 |true=>have:=O.asym i i h;rw[h] at this;exact this
theorem Up.of {p:Array Nat}{k:Nat} (h:∀i,1≤i→i<k→c (at0 p i) (at0 p (i - 1))=false):Up c p k:=by
 intro i j hij hj
 obtain⟨d,rfl⟩:∃d,j=i+d:=⟨j - i,by lia⟩
 induction d with
 |zero=>exact O.irr _
 |succ d ih=>
  have h1:=h (i+(d+1)) (by lia) hj
  exact O.neg _ _ _ h1 (ih (by lia) (by lia))
theorem Up.step {p:Array Nat}{k:Nat} (h:Up c p k) (hk:0<k→c (at0 p k) (at0 p (k - 1))=false):Up c p (k+1):=by
 refine Up.of O fun i h1 h2=>?_
 by_cases e:i=k
 ·subst e;exact hk (by lia)
 ·exact h (i - 1) i (by lia) (by lia)
theorem Dn.of {p:Array Nat}{k:Nat} (h:∀i,1≤i→i<k→c (at0 p (i - 1)) (at0 p i)=false):Dn c p k:=by
 intro i j hij hj
 obtain⟨d,rfl⟩:∃d,j=i+d:=⟨j - i,by lia⟩
 induction d with
 |zero=>exact O.irr _
 |succ d ih=>exact O.neg _ _ _ (ih (by lia) (by lia)) (h (i+(d+1)) (by lia) hj)
theorem Dn.step {p:Array Nat}{k:Nat} (h:Dn c p k) (hk:0<k→c (at0 p (k - 1)) (at0 p k)=false):Dn c p (k+1):=by
 refine Dn.of O fun i h1 h2=>?_
 by_cases e:i=k
 ·subst e;exact hk (by lia)
 ·exact h (i - 1) i (by lia) (by lia)
omit O in
theorem Dn.rev {p:Array Nat}{k:Nat} (h:Dn c p k) (hk:k≤p.size):Up c (kas_rev p 0 k) k:=by
 intro i j hij hj
 rw[z2P hk,z2P hk,if_pos (by lia),if_pos (by lia)]
 exact h _ _ (by lia) (by lia)
theorem z6b (p:Array Nat):∀f a,1≤a→Up c p a→a≤z0T c (kas_asc p f a)∧z0T c (kas_asc p f a)≤a+f∧Up c p (z0T c (kas_asc p f a))∧(z0T c (kas_asc p f a)<a+f→c (at0 p (z0T c (kas_asc p f a))) (at0 p (z0T c (kas_asc p f a) - 1))=true)
 |0,a,_,h=>⟨Nat.le_refl _,Nat.le_refl _,h,fun z=>absurd z (Nat.lt_irrefl _)⟩
 |f+1,a,ha,h=>by
  rw[kas_asc,z0T]
  cases e:c (p.getD a 0) (p.getD (a - 1) 0) with
  |true=>
   rw[if_pos rfl,z0T]
   exact⟨q0k _,by lia,h,fun _=>e⟩
  |false=>
   rw[if_neg (by decide)]
   obtain⟨h1,h2,h3,h4⟩:=z6b p f (a+1) (by lia) (h.step O fun _=>e)
   exact⟨by lia,by lia,h3,fun z=>h4 (by lia)⟩
omit O in
theorem z1x {α β:Type}{f:α→KasT β}:∀(t:KasT α),z0T c (t.bind f)=z0T c (f (z0T c t))
 | .ret _=>rfl
 | .ask i j k=>z1x (k (c i j))
omit O in
theorem z1B (p:Array Nat) (i j:Nat):(kas_rev p i j).size =p.size:=mirror_size _ _ _ _
omit O in
theorem z7n (p:Array Nat) (i j:Nat):(bubble p i j).size =p.size:=bubble_size _ _ _
def Eqs (c:Nat→Nat→Bool) (p:Array Nat) (lo hi:Nat):Prop:=∀i j,lo≤i→i<hi→lo≤j→j<hi→c (at0 p i) (at0 p j)=false
omit O in
theorem Dn.turn {p:Array Nat}{lo k:Nat} (h:Dn c p k) (he:Eqs c p lo k) (hk:k≤p.size):Dn c (kas_rev p lo k) k:=by
 intro i j hij hj
 rw[z2P hk,z2P hk]
 by_cases h1:lo≤i
 ·rw[if_pos (by lia),if_pos (by lia)]
  exact he _ _ (by lia) (by lia) (by lia) (by lia)
 ·rw[if_neg (by lia)]
  by_cases h2:lo≤j
  ·rw[if_pos (by lia)]
   exact h _ _ (by lia) (by lia)
  ·rw[if_neg (by lia)]
   exact h _ _ hij hj
theorem z2W:∀f (p:Array Nat) a q,q+1≤a→a+f≤p.size→Dn c p a→Eqs c p (a - (q+1)) a→
 (z0T c (kas_desc f p a q)).1.size =p.size∧a≤(z0T c (kas_desc f p a q)).2.1 ∧(z0T c (kas_desc f p a q)).2.1 ≤a+f∧(z0T c (kas_desc f p a q)).2.2 +1≤(z0T c (kas_desc f p a q)).2.1 ∧Dn c (z0T c (kas_desc f p a q)).1 (z0T c (kas_desc f p a q)).2.1 ∧Eqs c (z0T c (kas_desc f p a q)).1 ((z0T c (kas_desc f p a q)).2.1 - ((z0T c (kas_desc f p a q)).2.2 +1)) (z0T c (kas_desc f p a q)).2.1
 |0,p,a,q,hq,hs,hd,he=>⟨rfl,Nat.le_refl _,Nat.le_refl _,hq,hd,he⟩
 |f+1,p,a,q,hq,hs,hd,he=>by
  have one:∀(p:Array Nat) (b:Nat),Eqs c p (b+1 - (0+1)) (b+1):=fun p b i j h1 h2 h3 h4=>by
   rw[show i=j by lia];exact O.irr _
  rw[kas_desc,z0T]
  cases e:c (p.getD a 0) (p.getD (a - 1) 0) with
  |true=>
   rw[if_pos rfl]
   have e':c (at0 p a) (at0 p (a - 1))=true:=e
   by_cases hq0:q>0
   ·rw[if_pos hq0]
    have hk:a≤p.size:=by lia
    have hd2:Dn c (kas_rev p (a - (q+1)) a) (a+1):=(hd.turn he hk).step O fun _=>by
     rw[z2P hk,z2P hk,if_pos (by lia),if_neg (by lia)]
     refine O.neg _ (at0 p (a - 1)) _ (he _ _ (by lia) (by lia) (by lia) (by lia)) (O.asym _ _ e')
    obtain⟨z1,z2,z3,z4,z5,z6⟩:=z2W f _ (a+1) 0 (by lia) (by rw[z1B];lia) hd2 (one _ _)
    exact⟨by rw[z1,z1B],by lia,by lia,z4,z5,z6⟩
   ·rw[if_neg hq0]
    obtain⟨z1,z2,z3,z4,z5,z6⟩:=z2W f p (a+1) 0 (by lia) (by lia) (hd.step O fun _=>O.asym _ _ e') (one _ _)
    exact⟨z1,by lia,by lia,z4,z5,z6⟩
  |false=>
   rw[if_neg (by decide),z0T]
   have e':c (at0 p a) (at0 p (a - 1))=false:=e
   cases e2:c (p.getD (a - 1) 0) (p.getD a 0) with
   |true=>
    rw[if_pos rfl]
    exact⟨rfl,q0k _,by show a≤_;lia,hq,hd,he⟩
   |false=>
    rw[if_neg (by decide)]
    have e2':c (at0 p (a - 1)) (at0 p a)=false:=e2
    have he2:Eqs c p (a+1 - (q+1+1)) (a+1):=fun i j h1 h2 h3 h4=>by
     have toA:∀i,a - (q+1)≤i→i<a+1→c (at0 p i) (at0 p (a - 1))=false∧c (at0 p (a - 1)) (at0 p i)=false:=fun i h1 h2=>by
        by_cases hi:i=a
        ·subst hi;exact⟨e',e2'⟩
        ·exact⟨he _ _ (by lia) (by lia) (by lia) (by lia),he _ _ (by lia) (by lia) (by lia) (by lia)⟩
     exact O.neg _ _ _ (toA i (by lia) h2).1 (toA j (by lia) h4).2
    obtain⟨z1,z2,z3,z4,z5,z6⟩:=z2W f p (a+1) (q+1) (by lia) (by lia) (hd.step O fun _=>e2') he2
    exact⟨z1,by lia,by lia,z4,z5,z6⟩
theorem z5f {p:Array Nat}{a m:Nat} (h1:1≤a) (h2:a≤m) (h3:m≤p.size) (hd:Dn c p a):(z0T c (kas_tail3 a m p)).2.size =p.size∧1≤(z0T c (kas_tail3 a m p)).1 ∧(z0T c (kas_tail3 a m p)).1 ≤m∧Up c (z0T c (kas_tail3 a m p)).2 (z0T c (kas_tail3 a m p)).1 :=by
 unfold kas_tail3
 rw[z1x,z0T]
 obtain⟨z1,z2,z3,_⟩:=z6b O (kas_rev p 0 a) (m - a) a h1 (hd.rev (by lia))
 exact⟨z1B _ _ _,by lia,by lia,z3⟩
theorem z2J {p:Array Nat}{a m:Nat} (h1:1≤a) (h2:a+1≤m) (h3:m≤p.size) (hd:Dn c p (a+1)):(z0T c (kas_descPart a m p)).2.size =p.size∧1≤(z0T c (kas_descPart a m p)).1 ∧(z0T c (kas_descPart a m p)).1 ≤m∧Up c (z0T c (kas_descPart a m p)).2 (z0T c (kas_descPart a m p)).1 :=by
 unfold kas_descPart
 rw[z1x]
 obtain⟨z1,z2,z3,z4,z5,z6⟩:=z2W O (m - (a+1)) p (a+1) 0 (by lia) (by lia) hd (fun i j _ _ _ _=>by rw[show i=j by lia];exact O.irr _)
 generalize z0T c (kas_desc (m - (a+1)) p (a+1) 0)=r at*
 split
 ·obtain⟨y1,y2,y3,y4⟩:=z5f O (p:=kas_rev r.1 (r.2.1 - (r.2.2+1)) r.2.1) (a:=r.2.1) (m:=m) (by lia) (by lia) (by rw[z1B];lia) (z5.turn z6 (by lia))
  exact⟨by rw[y1,z1B,z1],y2,y3,y4⟩
 ·obtain⟨y1,y2,y3,y4⟩:=z5f O (p:=r.1) (a:=r.2.1) (m:=m) (by lia) (by lia) (by lia) z5
  exact⟨by rw[y1,z1],y2,y3,y4⟩
theorem z8L {p:Array Nat}{m:Nat} (h1:1≤m) (h3:m≤p.size):(z0T c (kas_count m p)).2.size =p.size∧1≤(z0T c (kas_count m p)).1 ∧(z0T c (kas_count m p)).1 ≤m∧Up c (z0T c (kas_count m p)).2 (z0T c (kas_count m p)).1 :=by
 unfold kas_count
 rw[z1x]
 obtain⟨z1,z2,z3,z4⟩:=z6b O p (m - 1) 1 (by lia) (Up.of O fun i h1 h2=>by lia)
 generalize z0T c (kas_asc p (m - 1) 1)=a at*
 by_cases ha:(a==m)=true
 ·rw[if_pos ha]
  exact⟨rfl,z1,by show a≤m;lia,z3⟩
 ·rw[if_neg ha]
  have ham:a≠m:=by simpa using ha
  have e4:=z4 (by lia)
  by_cases h2:a>1
  ·rw[if_pos h2,z0T]
   cases e:c (p.getD 0 0) (p.getD (a - 1) 0) with
   |true=>
    rw[if_pos rfl]
    exact⟨rfl,z1,by show a≤m;lia,z3⟩
   |false=>
    rw[if_neg (by decide)]
    have e':c (at0 p 0) (at0 p (a - 1))=false:=e
    have heq:Eqs c p 0 a:=fun i j _ hi _ hj=>O.neg _ _ _ (O.neg _ _ _ (z3 0 i (by lia) hi) e') (z3 j (a - 1) (by lia) (by lia))
    have hk:a≤p.size:=by lia
    have hd:Dn c (kas_rev p 0 a) (a+1):=(Dn.turn (lo:=0) (fun i j _ hj=>heq i j (by lia) (by lia) (by lia) hj) heq hk).step O fun _=>by
      rw[z2P hk,z2P hk,if_pos (by lia),if_neg (by lia)]
      exact O.neg _ (at0 p (a - 1)) _ (heq _ _ (by lia) (by lia) (by lia) (by lia)) (O.asym _ _ e4)
    obtain⟨y1,y2,y3,y4⟩:=z2J O (p:=kas_rev p 0 a) (a:=a) (m:=m) (by lia) (by lia) (by rw[z1B];exact h3) hd
    exact⟨by rw[y1,z1B],y2,y3,y4⟩
  ·rw[if_neg h2]
   have a1:a=1:=by lia
   subst a1
   exact z2J O (by lia) (by lia) h3 (Dn.of O fun i h1 h2=>by rw[show i=1 by lia];exact O.asym _ _ e4)
theorem z3q {p:Array Nat}{k:Nat} (hu:Up c p k):∀f l r,r - l≤f→l≤r→r≤k→(∀i,i<l→c (at0 p k) (at0 p i)=false)→(∀i,r≤i→i<k→c (at0 p k) (at0 p i)=true)→
 z0T c (kas_place p k f l r)≤k∧(∀i,i<z0T c (kas_place p k f l r)→c (at0 p k) (at0 p i)=false)∧(∀i,z0T c (kas_place p k f l r)≤i→i<k→c (at0 p k) (at0 p i)=true)
 |0,l,r,hf,hlr,hr,h1,h2=>by
  rw[kas_place,z0T]
  exact⟨by lia,h1,fun i hi hk=>h2 i (by lia) hk⟩
 |f+1,l,r,hf,hlr,hr,h1,h2=>by
  rw[kas_place]
  by_cases c0:l≥r
  ·rw[if_pos c0,z0T]
   exact⟨by lia,h1,fun i hi hk=>h2 i (by lia) hk⟩
  ·rw[if_neg c0,z0T]
   cases e:c (p.getD k 0) (p.getD ((l+r)/2) 0) with
   |true=>
    rw[if_pos rfl]
    have e':c (at0 p k) (at0 p ((l+r)/2))=true:=e
    refine z3q hu f l ((l+r)/2) (by lia) (by lia) (by lia) h1 fun i hi hk=>?_
    cases z:c (at0 p k) (at0 p i) with
    |true=>rfl
    |false=>
     have:=O.neg _ _ _ z (hu ((l+r)/2) i hi hk)
     rw[e'] at this
     exact this.symm
   |false=>
    rw[if_neg (by decide)]
    have e':c (at0 p k) (at0 p ((l+r)/2))=false:=e
    refine z3q hu f ((l+r)/2+1) r (by lia) (by lia) hr (fun i hi=>?_) h2
    exact O.neg _ _ _ e' (hu i ((l+r)/2) (by lia) (by lia))
theorem z8M:∀f (p:Array Nat) k,k+f≤p.size→Up c p k→(z0T c (kas_bin f p k)).size =p.size∧Up c (z0T c (kas_bin f p k)) (k+f)
 |0,p,k,_,h=>⟨rfl,h⟩
 |f+1,p,k,hs,h=>by
  rw[kas_bin,z1x]
  obtain⟨l1,l2,l3⟩:=z3q O h k 0 k (by lia) (by lia) (q0k _) (fun i hi=>absurd hi (q1t _)) (fun i h1 h2=>absurd h2 (by lia))
  generalize z0T c (kas_place p k k 0 k)=l at*
  have hk:k<p.size:=by lia
  have hu:Up c (bubble p k (k - l)) (k+1):=fun i j hij hj=>by
   rw[z5O hk (by lia),z5O hk (by lia),show k - (k - l)=l by lia]
   by_cases i1:i=l
   ·rw[if_pos i1]
    by_cases j1:j=l
    ·rw[if_pos j1];exact O.irr _
    ·rw[if_neg j1,if_pos (by lia)]
     exact O.asym _ _ (l3 (j - 1) (by lia) (by lia))
   ·rw[if_neg i1]
    by_cases i2:l<i∧i≤k
    ·rw[if_pos i2,if_neg (by lia),if_pos (by lia)]
     exact h (i - 1) (j - 1) (by lia) (by lia)
    ·rw[if_neg i2]
     by_cases j1:j=l
     ·rw[if_pos j1];exact l2 i (by lia)
     ·rw[if_neg j1]
      by_cases j2:l<j∧j≤k
      ·rw[if_pos j2];exact h i (j - 1) (by lia) (by lia)
      ·rw[if_neg j2];exact h i j hij (by lia)
  obtain⟨y1,y2⟩:=z8M f (bubble p k (k - l)) (k+1) (by rw[z7n];lia) hu
  exact⟨by rw[y1,z7n],by rw[show k+(f+1)=k+1+f by lia];exact y2⟩
theorem y0y {n:Nat} (hn:1≤n):(z0T c (kas_sort n)).size =n∧Up c (z0T c (kas_sort n)) n:=by
 unfold kas_sort
 rw[z1x]
 have hsz:(List.toArray (List.range n)).size =n:=by rw[q0h,q1e]
 obtain⟨z1,z2,z3,z4⟩:=z8L O (p:=List.toArray (List.range n)) (m:=n) hn (by lia)
 generalize z0T c (kas_count n (List.toArray (List.range n)))=r at*
 by_cases h:r.1<n
 ·rw[if_pos h]
  have hm:max r.1 1=r.1:=by lia
  rw[hm]
  obtain⟨y1,y2⟩:=z8M O (n - r.1) r.2 r.1 (by lia) z4
  exact⟨by lia,by rw[show r.1+(n - r.1)=n by lia] at y2;exact y2⟩
 ·rw[if_neg h]
  have:r.1=n:=by lia
  rw[this] at z4
  exact⟨by show r.2.size=n;lia,z4⟩
end
structure STO {α:Type} (lt:α→α→Bool):Prop where
 irr:∀x,lt x x=false
 trans:∀x y z,lt x y=true→lt y z=true→lt x z=true
 tot:∀x y,x≠y→lt x y=true∨lt y x=true
theorem STO.asym {α:Type}{lt:α→α→Bool} (h:STO lt) {x y:α} (e:lt x y=true):lt y x=false:=by
 cases z:lt y x with
 |false=>rfl
 |true=>have:=h.trans x y x e z;rw[h.irr] at this;exact this.symm
theorem STO.anti {α:Type}{lt:α→α→Bool} (h:STO lt) {x y:α} (e1:lt x y=false) (e2:lt y x=false):x=y:=by
 apply Classical.byContradiction
 intro hn
 rcases h.tot x y hn with z|z
 ·rw[e1] at z;cases z
 ·rw[e2] at z;cases z
theorem STO.neg {α:Type}{lt:α→α→Bool} (h:STO lt) {x y z:α} (e1:lt x y=false) (e2:lt y z=false):lt x z=false:=by
 cases e:lt x z with
 |false=>rfl
 |true=>
  by_cases hxy:x=y
  ·subst hxy;rw[e] at e2;cases e2
  ·rcases h.tot x y hxy with w|w
   ·rw[e1] at w;cases w
   ·have:=h.trans y x z w e
    rw[e2] at this;cases this
theorem STO.ord {α:Type}{lt:α→α→Bool} (h:STO lt) (f:Nat→α):Ord fun i j=>lt (f i) (f j):=⟨fun _ _ e=>h.asym e,fun _ _ _ e1 e2=>h.neg e1 e2⟩
def z7V {α:Type} [DecidableEq α] (lt:α→α→Bool):List α→List α→Bool
 |[],[]=>false
 |[],_::_=>true
 |_::_,[]=>false
 |x::a,y::b=>if x=y then z7V lt a b else lt x y
theorem z9t {α:Type} [DecidableEq α] {lt:α→α→Bool} (h:STO lt):STO (z7V lt):=by
 refine⟨fun x=>?_,fun x=>?_,fun x=>?_⟩
 ·induction x with
  |nil=>rfl
  |cons a x ih=>rw[z7V,if_pos rfl,ih]
 ·induction x with
  |nil=>
   intro y z e1 e2
   cases z with
   |nil=>cases y<;>simp[z7V] at e1 e2
   |cons _ _=>rfl
  |cons a x ih=>
   intro y z e1 e2
   cases y with
   |nil=>simp[z7V] at e1
   |cons b y=>
    cases z with
    |nil=>simp[z7V] at e2
    |cons d z=>
     rw[z7V] at e1 e2 ⊢
     by_cases h1:a=b
     ·subst h1
      rw[if_pos rfl] at e1
      by_cases h2:a=d
      ·rw[if_pos h2] at e2 ⊢;exact ih _ _ e1 e2
      ·rw[if_neg h2] at e2 ⊢;exact e2
     ·rw[if_neg h1] at e1
      by_cases h2:b=d
      ·subst h2
       rw[if_neg h1];exact e1
      ·rw[if_neg h2] at e2
       have e3:=h.trans _ _ _ e1 e2
       rw[if_neg (fun z=>by subst z;rw[h.irr] at e3;cases e3)]
       exact e3
 ·induction x with
  |nil=>
   intro y hn
   cases y with
   |nil=>exact absurd rfl hn
   |cons _ _=>exact .inl rfl
  |cons a x ih=>
   intro y hn
   cases y with
   |nil=>exact .inr rfl
   |cons b y=>
    rw[z7V,z7V]
    by_cases h1:a=b
    ·subst h1
     rw[if_pos rfl,if_pos rfl]
     exact ih y fun z=>hn (by rw[z])
    ·rw[if_neg h1,if_neg (fun z=>h1 z.symm)]
     exact h.tot a b h1
theorem z9F:STO fun a b:Int=>decide (a<b):=⟨fun x=>by simp,fun x y z h1 h2=>by simp at*;lia,fun x y h=>by simp;lia⟩
theorem z6O:∀a b:List Int,lts (a.map Dt.i) (b.map Dt.i)=z7V (fun a b:Int=>decide (a<b)) a b
 |[],[]=>rfl
 |[],_::_=>rfl
 |_::_,[]=>rfl
 |x::a,y::b=>by
  rw[q0t,q0t,lts,z7V,z6O a b]
  have e:(Dt.eqb (.i x) (.i y)=true)↔x=y:=by rw[Dt.eqb];simp
  by_cases h:x=y
  ·rw[if_pos h,if_pos (e.mpr h)]
  ·rw[if_neg h,if_neg fun z=>h (e.mp z)];rfl
end Srt
end L2
namespace L2
open Fr Wl Rk Pt
open PySem.Builtin.Int (intBits)
namespace Pa
structure PartsI (m:Nat) (bn:Nat→Nat) (ws:List (List Int)) (L:List (List (List Int))):Prop where
 nd:L.Nodup
 good:∀us∈L,Rws m us∧∀t∈us,∀n∈t,intBits n≤bn us.length
 lot:∀us∈L,∃S:List (List Int),S.Sublist ws∧In (us.map v)=In (S.map v)
 all:∀S:List (List Int),S.Sublist ws→(∃us∈L,In (us.map v)=In (S.map v))∨z5P m S
structure MidI (m:Nat) (bn:Nat→Nat) (ws:List (List Int)) (w:List Int) (L L':List (List (List Int))) (j:Nat):Prop where
 nd:L'.Nodup
 good:∀us∈L',Rws m us∧∀t∈us,∀n∈t,intBits n≤bn us.length
 lot:∀us∈L',∃S:List (List Int),S.Sublist (ws++[w])∧In (us.map v)=In (S.map v)
 old:∀us∈L,us∈L'
 new:∀us∈L.take j,(∃us'∈L',In (us'.map v)=In ((w::us).map v))∨z5P m (w::us)
theorem y1N {A:List (Nat→Int)}{B:List (Nat→Int)}{x:Nat→Int} (e:In A=In B):In (x::A)=In (B++[x]):=by
 have h1:∀r∈A,In B r:=fun r hr=>by rw[←e];exact In.one hr
 have h2:∀r∈B,In A r:=fun r hr=>by rw[e];exact In.one hr
 refine In.same (fun r hr=>?_) (fun r hr=>?_)
 ·rcases q0o.mp hr with rfl|hr
  ·exact In.one (by simp)
  ·exact In.mono (fun s hs=>q0N _ hs) (h1 r hr)
 ·rcases q0r.mp hr with hr|hr
  ·exact In.mono (fun s hs=>q0f _ hs) (h2 r hr)
  ·rw[q0g.mp hr];exact In.one q0i
theorem y0W {m:Nat}{S T:List (List Int)} (h:∀t∈S,t∈T) (o:z5P m S):z5P m T:=by
 obtain⟨z,h1,h2,h3⟩:=o
 refine⟨z,In.mono (fun r hr=>?_) h1,h2,h3⟩
 obtain⟨t,ht,rfl⟩:=q0e.mp hr
 exact q0e.mpr ⟨t,h t ht,rfl⟩
theorem y0V {m:Nat}{S T:List (List Int)} (e:In (S.map v)=In (T.map v)) (o:z5P m S):z5P m T:=by
 obtain⟨z,h1,h2,h3⟩:=o
 exact⟨z,by rw[←e];exact h1,h2,h3⟩
theorem PartsI.start {m:Nat}{bn:Nat→Nat}:PartsI m bn [] [[]] where
 nd:=by simp
 good:=fun us h=>by
  rw[q0g.mp h]
  exact⟨Rws.nil,fun t ht=>nomatch ht⟩
 lot:=fun us h=>⟨[],.refl _,by rw[q0g.mp h]⟩
 all:=fun S h=> .inl ⟨[],q0g.mpr rfl,by rw[List.sublist_nil.mp h]⟩
theorem PartsI.mid {m:Nat}{bn:Nat→Nat}{ws:List (List Int)}{L:List (List (List Int))} (h:PartsI m bn ws L) (w:List Int):MidI m bn ws w L L 0 where
 nd:=h.nd
 good:=h.good
 lot:=fun us hu=>by
  obtain⟨S,h1,h2⟩:=h.lot us hu
  exact⟨S,h1.trans (List.sublist_append_left _ _),h2⟩
 old:=fun _ hu=>hu
 new:=fun us hu=>by simp at hu
theorem MidI.off {m:Nat}{bn:Nat→Nat}{ws:List (List Int)}{w:List Int}{L L':List (List (List Int))}{j:Nat}{us:List (List Int)} (h:MidI m bn ws w L L' j) (e:L[j]? =some us) (o:z5P m (w::us)):MidI m bn ws w L L' (j+1) where
 nd:=h.nd
 good:=h.good
 lot:=h.lot
 old:=h.old
 new:=fun x hx=>by
  rw[q0L,e] at hx
  rcases q0r.mp hx with hx|hx
  ·exact h.new x hx
  ·rw[q0g.mp hx];exact .inr o
theorem MidI.put {m:Nat}{bn:Nat→Nat}{ws:List (List Int)}{w:List Int}{L L' L2:List (List (List Int))}{j:Nat}{us us':List (List Int)} (h:MidI m bn ws w L L' j) (h0:PartsI m bn ws L) (e:L[j]? =some us) (hR:Rws m us') (hb:∀t∈us',∀n∈t,intBits n≤bn us'.length) (hI:In (us'.map v)=In ((w::us).map v))
 (hn:L2.Nodup) (hm:∀x,x∈L2↔x∈L'∨x=us'):MidI m bn ws w L L2 (j+1) where
 nd:=hn
 good:=fun x hx=>by
  rcases (hm x).mp hx with hx|rfl
  ·exact h.good x hx
  ·exact⟨hR,hb⟩
 lot:=fun x hx=>by
  rcases (hm x).mp hx with hx|rfl
  ·exact h.lot x hx
  ·obtain⟨S,h1,h2⟩:=h0.lot us (q0s e)
   refine⟨S++[w],List.Sublist.append h1 (.refl _),?_⟩
   rw[hI,q0t,q0m]
   exact y1N h2
 old:=fun x hx=>(hm x).mpr (.inl (h.old x hx))
 new:=fun x hx=>by
  rw[q0L,e] at hx
  rcases q0r.mp hx with hx|hx
  ·rcases h.new x hx with⟨u,h1,h2⟩|o
   ·exact .inl ⟨u,(hm u).mpr (.inl h1),h2⟩
   ·exact .inr o
  ·rw[q0g.mp hx]
   exact .inl ⟨us',(hm us').mpr (.inr rfl),hI⟩
theorem MidI.done {m:Nat}{bn:Nat→Nat}{ws:List (List Int)}{w:List Int}{L L':List (List (List Int))} (h:MidI m bn ws w L L' L.length) (h0:PartsI m bn ws L):PartsI m bn (ws++[w]) L' where
 nd:=h.nd
 good:=h.good
 lot:=h.lot
 all:=fun S hS=>by
  obtain⟨S1,S2,rfl,s1,s2⟩:=List.sublist_append_iff.mp hS
  have hw:S2=[]∨S2=[w]:=by
    cases S2 with
    |nil=>exact .inl rfl
    |cons x S2=>
     have hl:=s2.length_le
     have:S2=[]:=q0J.mp (by rw[q0D,q0I] at hl;lia)
     subst this
     have:=s2.subset q0i
     rw[q0g.mp this]
     exact .inr rfl
  rcases hw with rfl|rfl
  ·rw[q1n]
   rcases h0.all S1 s1 with⟨us,h1,h2⟩|o
   ·exact .inl ⟨us,h.old us h1,h2⟩
   ·exact .inr o
  ·rcases h0.all S1 s1 with⟨us,h1,h2⟩|o
   ·have e2:In ((w::us).map v)=In ((S1++[w]).map v):=by
     rw[q0t,q0m]
     exact y1N h2
    rcases h.new us (by rw[q0S];exact h1) with⟨u,k1,k2⟩|o
    ·exact .inl ⟨u,k1,by rw[k2,e2]⟩
    ·exact .inr (y0V e2 o)
   ·exact .inr (y0W (fun t ht=>q0N _ ht) o)
end Pa
end L2
namespace L2
namespace Ri
structure Mt (S:List Nat→Nat→Prop) (C:List Nat→Prop):Prop where
 one:∀l e,e∈l→S l e
 sub:∀l l' e,(∀x∈l,S l' x)→S l e→S l' e
 exch:∀l e x,S (e::l) x→S l x∨S (x::l) e
 cen:∀l l',C l→(∀x∈l',S l x)→C l'
 nil:C []
abbrev Up (l:List Nat):Prop:=l.Pairwise (· < ·)
section
variable {S:List Nat→Nat→Prop}{C:List Nat→Prop} (M:Mt S C)
def Td (S:List Nat→Nat→Prop) (l:List Nat):Prop:=∃x∈l,S (l.erase x) x
include M
theorem Mt.mono {l l':List Nat} (h:∀x∈l,x∈l') {e:Nat} (he:S l e):S l' e:=M.sub l l' e (fun x hx=>M.one _ _ (h x hx)) he
theorem Mt.csub {l l':List Nat} (h:∀x∈l,x∈l') (hc:C l'):C l:=M.cen l' l hc fun x hx=>M.one _ _ (h x hx)
omit M in
theorem y2P {l:List Nat} (h:Up l):l.Nodup:=h.imp fun h=>q0u h
theorem Mt.td {l l':List Nat} (hn:l.Nodup) (h:∀x∈l,x∈l') (ht:Td S l):Td S l':=by
 obtain⟨x,hx,hs⟩:=ht
 refine⟨x,h x hx,M.mono (fun y hy=>?_) hs⟩
 obtain⟨h1,h2⟩:=hn.mem_erase_iff.mp hy
 exact (List.mem_erase_of_ne h1).mpr (h y h2)
omit M in
end
def z3W (pl:List Nat):Nat:=match pl.getLast? with
 |some k=>k+1
 |none=>0
def z7p (n:Nat) (pl:List Nat):List Nat:=(List.range (n - z3W pl)).map fun i=>z3W pl+i
def y3H (n:Nat):Nat→List (List Nat)
 |0=>[[]]
 |k+1=>(y3H n k).flatMap fun pl=>(z7p n pl).map fun i=>pl++[i]
def Lt (n:Nat) (q:List Nat):Prop:=Up q∧∀x∈q,x<n
theorem z4f {n:Nat}{pl:List Nat}{i:Nat} (hu:Up pl):i∈z7p n pl↔i<n∧∀x∈pl,x<i:=by
 unfold z7p
 rw[q0e]
 have key:(∀x∈pl,x<i)↔z3W pl≤i:=by
  rcases List.eq_nil_or_concat pl with en|⟨L,k,en⟩
  ·subst en;exact⟨fun _=>q0A _,fun _ x hx=>nomatch hx⟩
  ·rw[List.concat_eq_append] at en
   have es:z3W pl=k+1:=by unfold z3W;rw[en,List.getLast?_concat]
   rw[es]
   subst en
   refine⟨fun h=>h k (by simp),fun h x hx=>?_⟩
   rcases q0r.mp hx with hx|hx
   ·have:=(List.pairwise_append.mp hu).2.2 x hx k (by simp)
    lia
   ·rw[q0g.mp hx];lia
 rw[key]
 refine⟨?_,fun⟨h1,h2⟩=>⟨i - z3W pl,q1a.mpr (by lia),by lia⟩⟩
 rintro⟨j,hj,rfl⟩
 have:=q1a.mp hj
 lia
theorem lt_app {n:Nat}{pl:List Nat}{i:Nat}:Lt n (pl++[i])↔Lt n pl∧i∈z7p n pl:=by
 constructor
 ·rintro⟨h1,h2⟩
  have hp:=List.pairwise_append.mp h1
  exact⟨⟨hp.1,fun x hx=>h2 x (q0N _ hx)⟩,(z4f hp.1).mpr ⟨h2 i (by simp),fun x hx=>hp.2.2 x hx i (by simp)⟩⟩
 ·rintro⟨⟨h1,h2⟩,h3⟩
  obtain⟨h4,h5⟩:=(z4f h1).mp h3
  refine⟨List.pairwise_append.mpr ⟨h1,List.pairwise_singleton ..,fun x hx y hy=>by rw[q0g.mp hy];exact h5 x hx⟩,fun x hx=>?_⟩
  rcases q0r.mp hx with hx|hx
  ·exact h2 x hx
  ·rw[q0g.mp hx];exact h4
theorem mem_lotK {n:Nat}:∀{k:Nat}{q:List Nat},q∈y3H n k↔Lt n q∧q.length=k
 |0,q=>by
  rw[y3H,q0g]
  refine⟨?_,fun h=>q0J.mp h.2⟩
  rintro rfl
  exact⟨⟨.nil,fun x hx=>nomatch hx⟩,rfl⟩
 |k+1,q=>by
  rw[y3H,List.mem_flatMap]
  constructor
  ·rintro⟨pl,h1,h2⟩
   obtain⟨i,hi,rfl⟩:=q0e.mp h2
   obtain⟨h3,h4⟩:=mem_lotK.mp h1
   exact⟨lt_app.mpr ⟨h3,hi⟩,by rw[q0x,h4];rfl⟩
  ·rintro⟨h1,h2⟩
   rcases List.eq_nil_or_concat q with en|⟨L,i,en⟩
   ·rw[en] at h2;cases h2
   ·rw[List.concat_eq_append] at en
    subst en
    obtain⟨h3,h4⟩:=lt_app.mp h1
    rw[q0x,q0I] at h2
    exact⟨L,mem_lotK.mpr ⟨h3,by lia⟩,q0e.mpr ⟨i,h4,rfl⟩⟩
def y2L (n:Nat):Nat→List (List Nat)
 |0=>[]
 |k+1=>y2L n k++y3H n k
theorem mem_upTo {n:Nat}:∀{k:Nat}{q:List Nat},q∈y2L n k↔Lt n q∧q.length<k
 |0,q=>by rw[y2L];exact⟨fun h=>(nomatch h),fun h=>absurd h.2 (Nat.not_lt_zero _)⟩
 |k+1,q=>by
  rw[y2L,q0r,mem_upTo,mem_lotK]
  constructor
  ·rintro (⟨h1,h2⟩|⟨h1,h2⟩)
   ·exact⟨h1,by lia⟩
   ·exact⟨h1,by lia⟩
  ·rintro⟨h1,h2⟩
   by_cases h:q.length=k
   ·exact .inr ⟨h1,h⟩
   ·exact .inl ⟨h1,by lia⟩
theorem y3G {n:Nat}{q:List Nat} (h:Lt n q):q.length≤n:=by
 have:=(y2P h.1).length_le_of_subset (l₂:=List.range n) fun x hx=>q1a.mpr (h.2 x hx)
 rwa[q1e] at this
theorem y3F {n:Nat}{q r:List Nat} (h:Lt n q) (s:r.Sublist q):Lt n r:=⟨h.1.sublist s,fun x hx=>h.2 x (s.subset hx)⟩
section
variable {S:List Nat→Nat→Prop}{C:List Nat→Prop} (M:Mt S C)
include M
omit M in
end
def z3Q:Nat→List (List Nat)
 |0=>[[]]
 |j+1=>z3Q j++(z3Q j).map (· ++[j])
theorem z2Z:∀{j:Nat}{q:List Nat},q∈z3Q j→Lt j q
 |0,q,h=>by rw[List.mem_singleton.mp h];exact⟨.nil,fun x hx=>nomatch hx⟩
 |j+1,q,h=>by
  rcases q0r.mp h with h|h
  ·have:=z2Z h
   exact⟨this.1,fun x hx=>q0U (this.2 x hx)⟩
  ·obtain⟨M,hM,rfl⟩:=q0e.mp h
   have:=z2Z hM
   refine⟨List.pairwise_append.mpr ⟨this.1,List.pairwise_singleton ..,fun x hx y hy=>by rw[q0g.mp hy];exact this.2 x hx⟩,fun x hx=>?_⟩
   rcases q0r.mp hx with hx|hx
   ·exact q0U (this.2 x hx)
   ·rw[q0g.mp hx];exact Nat.lt_succ_self _
theorem z8r {n:Nat} (h:n≤6):(y2L n (n+1)).Perm (z3Q n):=by
 have:∀n,n<7→(y2L n (n+1)).isPerm (z3Q n)=true:=by decide+kernel
 exact List.isPerm_iff.mp (this n (by lia))
end Ri
end L2
namespace L2
open Fr Wl Rk Pt Pa
namespace Ri
def wr (ws:List (List Int)) (l:List Nat):List (List Int):=l.map fun i=>ws.getD i []
def Sn (ws:List (List Int)) (l:List Nat) (e:Nat):Prop:=In ((wr ws l).map v) (v (ws.getD e []))
def Cn (m:Nat) (ws:List (List Int)) (l:List Nat):Prop:=¬z5P m (wr ws l)
theorem Sm.split {A:List (Nat→Int)}{b x:Nat→Int} (h:Sm (b::A) x):∃c:Int,Sm A fun j=>x j - c*b j:=by
 induction h with
 |zero=>exact⟨0,Sm.zero.cast fun j=>by simp⟩
 |more c hr _ ih=>
  obtain⟨d,hd⟩:=ih
  rcases q0o.mp hr with rfl|hr
  ·exact⟨c+d,hd.cast fun j=>by grind⟩
  ·exact⟨d,(Sm.more c hr hd).cast fun j=>by grind⟩
theorem In.exch {A:List (Nat→Int)}{b x:Nat→Int} (h:In (b::A) x):In A x∨In (x::A) b:=by
 obtain⟨d,d0,hd⟩:=h
 obtain⟨c,hc⟩:=Sm.split hd
 by_cases c0:c=0
 ·subst c0
  exact .inl ⟨d,d0,hc.cast fun j=>by grind⟩
 ·refine .inr (In.div c0 ?_)
  have h1:In (x::A) x:=In.one q0i
  have h2:In (x::A) fun j=>d*x j - c*b j:=In.mono (fun s hs=>q0f _ hs) (In.of hc)
  exact ((h1.mul d).add (h2.mul (-1))).cast fun j=>by grind
theorem z2Y (m:Nat) (ws:List (List Int)):Mt (Sn ws) (Cn m ws) where
 one l e he:=In.one (q0n (f:=v) (q0n (f:=fun i=>ws.getD i []) he))
 sub l l' e h he:=In.sub (fun r hr=>by
  obtain⟨u,hu,rfl⟩:=q0e.mp hr
  obtain⟨i,hi,rfl⟩:=q0e.mp hu
  exact h i hi) he
 exch l e x h:=In.exch h
 cen l l' hc h:=fun⟨z,h1,h2⟩=>hc ⟨z,In.sub (fun r hr=>by
  obtain⟨u,hu,rfl⟩:=q0e.mp hr
  obtain⟨i,hi,rfl⟩:=q0e.mp hu
  exact h i hi) h1,h2⟩
 nil:=fun⟨z,⟨d,d0,hz⟩,_,h3⟩=>by
  have:∀x,Sm [] x→x m=0:=fun x hx=>by
    cases hx with
    |zero=>rfl
    |more c hr _=>cases hr
  exact h3 ((Int.mul_eq_zero.mp (this _ hz)).resolve_left d0)
noncomputable def dm (m:Nat) (ws:List (List Int)) (l:List Nat):Nat:=dim m (In ((wr ws l).map v))
theorem y1h {m:Nat}{L:List (List Int)}{xs:List Int} (hL:∀r∈L,r.length=m+1) (xl:xs.length=m+1) (ho:¬z5P m (xs::L)):In (L.map v) (v xs)∨dim m (In ((xs::L).map v))=dim m (In (L.map v))+1:=by
 obtain⟨us,hR,hI⟩:=z8N L hL fun z=>ho (z5s z xs)
 have hIx:In (v xs::us.map v)=In ((xs::L).map v):=by rw[q0t];exact z9K hI _
 by_cases hnz:∃j,j<m∧v (us.foldl z0m xs) j≠0
 ·obtain⟨us',p1,p2⟩:=z8z (us.map (z1z (z0j (us.foldl z0m xs)))++[z0j (us.foldl z0m xs)])
  obtain⟨q1,q2,q3⟩:=hR.more xl hnz p1 p2
  refine .inr ?_
  rw[←hIx,←q2,←hI,q1.dim (q0k _),hR.dim (q0k _)]
  exact q3
 ·have z0:∀j,j<m→v (us.foldl z0m xs) j=0:=fun j hj=>Classical.byContradiction fun hc=>hnz ⟨j,hj,hc⟩
  obtain⟨rl,_,_⟩:=hR.rest xl
  have zm:v (us.foldl z0m xs) m=0:=Classical.byContradiction fun hc=>ho ⟨_,hIx▸hR.off_all xl,z0,hc⟩
  refine .inl ?_
  rw[←hI,hR.same xl fun j=>?_]
  ·exact In.one q0i
  by_cases hj:j<m
  ·exact z0 j hj
  ·by_cases hj2:j=m
   ·rw[hj2];exact zm
   ·show (us.foldl z0m xs).getD j 0=0
    rw[q0c,q1m (by lia)];rfl
section
variable {m:Nat}{ws:List (List Int)} (hw:∀t∈ws,t.length=m+1)
include hw
theorem y2M {l:List Nat} (h:∀x∈l,x<ws.length):∀r∈wr ws l,r.length=m+1:=fun r hr=>by
 obtain⟨i,hi,rfl⟩:=q0e.mp hr
 have:=h i hi
 rw[q0c,q0b this]
 exact hw _ (q0F this)
theorem y2G {l:List Nat}{e:Nat} (h:∀x∈e::l,x<ws.length) (hc:Cn m ws (e::l)):(Sn ws l e∧dm m ws (e::l)=dm m ws l)∨(¬Sn ws l e∧dm m ws (e::l)=dm m ws l+1):=by
 by_cases hs:Sn ws l e
 ·refine .inl ⟨hs,?_⟩
  unfold dm
  rw[show wr ws (e::l)=ws.getD e []::wr ws l from rfl,q0t,y2A hs]
 ·refine .inr ⟨hs,?_⟩
  have h2:=y2M hw h
  exact (y1h (xs:=ws.getD e []) (L:=wr ws l) (fun r hr=>h2 r (q0f _ hr)) (h2 _ q0i) hc).resolve_left hs
theorem z9V:∀{l:List Nat},l.Nodup→(∀x∈l,x<ws.length)→Cn m ws l→dm m ws l≤l.length∧(dm m ws l<l.length→Td (Sn ws) l)
 |[],_,_,_=>⟨by unfold dm;rw[show (wr ws []).map v=[] from rfl,z6p];exact Nat.le_refl _,fun h=>absurd h (Nat.not_lt_zero _)⟩
 |e::l,hn,h,hc=>by
  obtain⟨n1,n2⟩:=List.nodup_cons.mp hn
  obtain⟨h1,h2⟩:=z9V n2 (fun x hx=>h x (q0f _ hx)) ((z2Y m ws).csub (fun x hx=>q0f _ hx) hc)
  rw[q0D]
  rcases y2G hw h hc with⟨s,d⟩|⟨s,d⟩
  ·exact⟨by lia,fun _=>⟨e,q0i,by rw[List.erase_cons_head];exact s⟩⟩
  ·refine⟨by lia,fun hlt=>?_⟩
   exact (z2Y m ws).td n2 (fun x hx=>q0f _ hx) (h2 (by lia))
omit hw in
omit hw in
end
end Ri
end L2
namespace L2
namespace Srt
def kq (p:Int×List Int):List Dt:=[.i p.1,.l (p.2.map Dt.i)]
def ltK (a b:Int×List Int):Bool:=z7V (fun a b:Int=>decide (a<b)) (a.1::a.2) (b.1::b.2)
theorem ltK_sto:STO ltK:=by
 have h:=z9t z9F
 refine⟨fun x=>h.irr _,fun x y z h1 h2=>h.trans _ _ _ h1 h2,fun x y hn=>h.tot _ _ fun e=>hn ?_⟩
 injection e with e1 e2
 exact Prod.ext e1 e2
theorem z6Y {a b:List Int} (h:a.map Dt.i=b.map Dt.i):a=b:=(q1h fun x y h=>by injection h).mp h
theorem y3E (a b:Int×List Int):lts (kq a) (kq b)=ltK a b:=by
 unfold kq ltK
 rw[lts,z7V]
 have e:(Dt.eqb (.i a.1) (.i b.1)=true)↔a.1=b.1:=by rw[Dt.eqb];simp
 by_cases h:a.1=b.1
 ·rw[if_pos h,if_pos (e.mpr h),lts]
  by_cases h2:Dt.eqb (.l (a.2.map Dt.i)) (.l (b.2.map Dt.i))=true
  ·rw[if_pos h2]
   rw[Dt.eqb_iff,Dt.l.injEq] at h2
   rw[z6Y h2,(z9t z9F).irr];rfl
  ·rw[if_neg h2]
   exact z6O _ _
 ·rw[if_neg h,if_neg fun z=>h (e.mp z)];rfl
theorem z4b {α:Type}{n:Nat}{R:α→Prop}{c d:Nat→Nat→Bool} (h:∀i j,i<n→j<n→c i j=d i j):∀{t:PySem.W.KasT α},TrT n R t→z0T c t=z0T d t
 | .ret _,_=>rfl
 | .ask i j k,ht=>by rw[z0T,z0T,h i j ht.1 ht.2.1];exact z4b h (ht.2.2 _)
def z5T (ps:List (Int×List Int)):List (Int×List Int):=(z1N (ps.map kq)).map fun i=>ps.getD i (0,[])
theorem z7y (rs:List (Int×List Int)):(z5T rs).Perm rs:=by
 have h:=(z1d (rs.map kq)).map fun i=>rs.getD i (0,[])
 rw[q0a] at h
 refine h.trans ?_
 rw[show (List.range rs.length).map (fun i=>rs.getD i (0,[]))=rs from List.ext_getElem (by simp) fun i h1 h2=>by
  rw[List.getElem_map,List.getElem_range,q0c,q0b h2];rfl]
theorem z6D (rs:List (Int×List Int)):(z5T rs).Pairwise fun a b=>ltK b a=false:=by
 unfold z5T z1N
 rw[q0a]
 by_cases h:rs.length<2
 ·rw[if_pos h,q0M,List.pairwise_iff_getElem]
  intro i j hi hj hij
  rw[q1e] at hi hj
  lia
 ·rw[if_neg h]
  have z:=y0y (c:=fun i j=>ltK (rs.getD i (0,[])) (rs.getD j (0,[]))) (ltK_sto.ord fun i=>rs.getD i (0,[])) (n:=rs.length) (by lia)
  have ec:z0T (fun i j=>lts ((rs.map kq).getD i []) ((rs.map kq).getD j [])) (PySem.W.kas_sort rs.length)=z0T (fun i j=>ltK (rs.getD i (0,[])) (rs.getD j (0,[]))) (PySem.W.kas_sort rs.length):=by
   refine z4b (n:=rs.length) (fun i j hi hj=>?_) (z4l (by lia))
   have g:∀i,i<rs.length→(rs.map kq).getD i []=kq (rs.getD i (0,[])):=fun i hi=>by
     rw[q0c,q0j,q0c,q0b hi];rfl
   rw[g i hi,g j hj,y3E]
  rw[ec]
  obtain⟨z1,z2⟩:=z
  rw[q0M,List.pairwise_iff_getElem]
  intro i j hi hj hij
  have:=z2 i j (by lia) (by rw[q0K] at hj;lia)
  have e:∀i (h:i<(z0T (fun i j=>ltK (rs.getD i (0,[])) (rs.getD j (0,[]))) (PySem.W.kas_sort rs.length)).toList.length),(z0T (fun i j=>ltK (rs.getD i (0,[])) (rs.getD j (0,[]))) (PySem.W.kas_sort rs.length)).toList[i]=at0 (z0T (fun i j=>ltK (rs.getD i (0,[])) (rs.getD j (0,[]))) (PySem.W.kas_sort rs.length)) i:=fun i h=>by
   rw[z2Q,Array.getElem?_eq_getElem (by rw[q0K] at h;exact h)]
   simp
  rw[e i hi,e j hj]
  exact this
theorem y0u:∀(a b:List (Int×List Int)),a.Perm b→a.Pairwise (fun x y=>ltK y x=false)→b.Pairwise (fun x y=>ltK y x=false)→a=b:=by
 intro a
 induction a with
 |nil=>intro b hp _ _;exact (hp.nil_eq)
 |cons x a ih=>
  intro b hp ha hb
  cases b with
  |nil=>have:=hp.length_eq;simp at this
  |cons y b=>
   have exy:x=y:=by
        rcases q0o.mp (hp.mem_iff.mp (q0i ..)) with e|e
        ·exact e
        ·rcases q0o.mp (hp.mem_iff.mpr (q0i ..)) with e2|e2
         ·exact e2.symm
         ·exact ltK_sto.anti (List.rel_of_pairwise_cons hb e) (List.rel_of_pairwise_cons ha e2)
   subst exy
   rw[ih b (List.perm_cons x |>.mp hp) (List.Pairwise.of_cons ha) (List.Pairwise.of_cons hb)]
end Srt
end L2
namespace L2
open Fr Wl Rk Pt Pa
namespace Ri
open Classical in
theorem y1R:∀(m:Nat) (S:(Nat→Int)→Prop),dim m S≤m
 |0,_=>Nat.le_refl _
 |m+1,S=>by
  rw[dim]
  have:=y1R m fun y=>∃x,S x∧x 0=0∧∀j,y j=x (j+1)
  split<;>lia
theorem y1q {ws:List (List Int)}{w:List Int}{q:List Nat} (h:∀x∈q,x<ws.length):wr (ws++[w]) q=wr ws q:=by
 unfold wr
 refine q0T fun i hi=>?_
 rw[q0c,q0c,q0W (h i hi)]
theorem y2c (n:Nat):∀{S ws:List (List Int)},ws.length=n→S.Sublist ws→∃q∈z3Q n,wr ws q=S:=by
 induction n with
 |zero=>
  intro S ws hn hs
  rw[q0J.mp hn] at hs ⊢
  exact⟨[],q0g.mpr rfl,(List.sublist_nil.mp hs).symm⟩
 |succ n ih=>
  intro S ws hn hs
  rcases List.eq_nil_or_concat ws with en|⟨vs,w,en⟩
  ·rw[en] at hn;cases hn
  ·rw[List.concat_eq_append] at en
   subst en
   have hv:vs.length=n:=by rw[q0x,q0I] at hn;lia
   obtain⟨S1,S2,rfl,h1,h2⟩:=List.sublist_append_iff.mp hs
   obtain⟨q,hq,eq⟩:=ih hv h1
   have ql:=z2Z hq
   rw[z3Q]
   have h2':S2=[]∨S2=[w]:=by
    cases h2 with
    |cons _ h=>exact .inl (List.sublist_nil.mp h)
    |cons_cons _ h=>exact .inr (by rw[List.sublist_nil.mp h])
   rcases h2' with rfl|rfl
   ·exact⟨q,q0N _ hq,by rw[y1q (by rw[hv];exact ql.2),eq,q1n]⟩
   ·refine⟨q++[n],q0z _ (q0e.mpr ⟨q,hq,rfl⟩),?_⟩
    unfold wr
    rw[q0m]
    congr 1
    ·rw[←eq];exact y1q (by rw[hv];exact ql.2)
    ·rw[q1y,q0c,q0V (by lia),hv,Nat.sub_self];rfl
section
variable {m:Nat}{ws:List (List Int)}
theorem z8d (m:Nat) {q:List Nat}{x:Nat} (hx:x∈q) (hs:Sn ws (q.erase x) x):In ((wr ws (q.erase x)).map v)=In ((wr ws q).map v):=by
 refine In.same (fun r hr=>?_) (fun r hr=>?_)
 ·obtain⟨u,hu,rfl⟩:=q0e.mp hr
  obtain⟨i,hi,rfl⟩:=q0e.mp hu
  exact (z2Y m ws).one _ _ (List.mem_of_mem_erase hi)
 ·obtain⟨u,hu,rfl⟩:=q0e.mp hr
  obtain⟨i,hi,rfl⟩:=q0e.mp hu
  by_cases hix:i=x
  ·rw[hix];exact hs
  ·exact (z2Y m ws).one _ _ ((List.mem_erase_of_ne hix).mpr hi)
theorem z7c:∀(k:Nat) (q:List Nat),q.length≤k→Lt ws.length q→∃r,Lt ws.length r∧¬Td (Sn ws) r∧In ((wr ws r).map v)=In ((wr ws q).map v)
 |0,q,hk,hq=>⟨q,hq,(fun⟨x,hx,_⟩=>by rw[List.length_eq_zero_iff.mp (Nat.le_zero.mp hk)] at hx;cases hx),rfl⟩
 |k+1,q,hk,hq=>by
  by_cases ht:Td (Sn ws) q
  ·obtain⟨x,hx,hs⟩:=ht
   obtain⟨r,h1,h2,h3⟩:=z7c k (q.erase x) (by rw[List.length_erase_of_mem hx];lia) (y3F hq List.erase_sublist)
   exact⟨r,h1,h2,h3.trans (z8d 0 hx hs)⟩
  ·exact⟨q,hq,ht,rfl⟩
theorem y0Z {n:Nat}{q:List Nat} (h6:n≤6) (h:Lt n q):q∈z3Q n:=(z8r h6).mem_iff.mp (mem_upTo.mpr ⟨h,Nat.lt_succ_of_le (y3G h)⟩)
theorem parts_few {bn:Nat→Nat}{L:List (List (List Int))} (hw:∀t∈ws,t.length=m+1) (hL:PartsI m bn ws L) (h6:ws.length≤6) (m4:m≤4) (h5:m=4→ws.length≤5):L.length<64:=by
 have ch:∀us:List (List Int),∃q:List Nat,us∈L→Lt ws.length q∧q.length≤m∧In ((wr ws q).map v)=In (us.map v):=fun us=>by
  by_cases hu:us∈L
  ·obtain⟨S,hS,hI⟩:=hL.lot us hu
   obtain⟨q,hq,eq⟩:=y2c ws.length rfl hS
   obtain⟨r,h1,h2,h3⟩:=z7c (ws:=ws) _ q (q0k _) (z2Z hq)
   refine⟨r,fun _=>⟨h1,?_,by rw[h3,eq,hI]⟩⟩
   have hR:=(hL.good us hu).1
   have hI2:In (us.map v)=In ((wr ws r).map v):=by rw[h3,eq,hI]
   have hc:Cn m ws r:=hR.noff hI2
   have d:dm m ws r=us.length:=by unfold dm;rw[←hI2,hR.dim (Nat.le_refl _)]
   have hl:us.length≤m:=by rw[←hR.dim (q0k m)];exact y1R m _
   have:=z9V hw (y2P h1.1) h1.2 hc
   have nt:¬dm m ws r<r.length:=fun z=>h2 (this.2 z)
   lia
  ·exact⟨[],fun z=>absurd z hu⟩
 have φ:=fun us=>Classical.choose (ch us)
 have hφ:∀us∈L,Lt ws.length (Classical.choose (ch us))∧(Classical.choose (ch us)).length ≤m∧In ((wr ws (Classical.choose (ch us))).map v)=In (us.map v):=fun us hu=>Classical.choose_spec (ch us) hu
 have nd:(L.map fun us=>Classical.choose (ch us)).Nodup :=by
  rw[List.Nodup,q0M]
  refine hL.nd.imp_of_mem fun {a b} ha hb hab e=>hab ?_
  refine (hL.good a ha).1.one (hL.good b hb).1 ?_
  rw[←(hφ a ha).2.2,←(hφ b hb).2.2,e]
 have sub:∀q∈L.map (fun us=>Classical.choose (ch us)),q∈(z3Q ws.length).filter fun q=>decide (q.length≤m):=fun q hq=>by
  obtain⟨us,hu,rfl⟩:=q0e.mp hq
  exact q1d.mpr ⟨y0Z h6 (hφ us hu).1,decide_eq_true (hφ us hu).2.1⟩
 have hlen:=nd.length_le_of_subset sub
 rw[q0a] at hlen
 refine q1q hlen ?_
 have few:∀n,n<7→∀m,m<5→(m=4→n≤5)→((z3Q n).filter fun q=>decide (q.length≤m)).length <64:=by decide+kernel
 exact few ws.length (by lia) m (by lia) h5
end
end Ri
end L2
namespace L2
open PySem PySem.Spec PyProof.Rows
def top (i:Nat):Stmt:=PySem.Challenge.pw_wallspace_k21_whole_ladder.main.body.getD i (.Pass ⟨0,0,0,0⟩)
structure Txt (mg:Str→Option Value):Prop where
 abs:mg "abs"=none
 len:mg "len"=none
 isinstance:mg "isinstance"=none
 int:mg "int"=none
 bool:mg "bool"=none
 tuple:mg "tuple"=none
 list:mg "list"=none
 any:mg "any"=none
 min:mg "min"=none
 max:mg "max"=none
 range:mg "range"=none
 enumerate:mg "enumerate"=none
 zip:mg "zip"=none
 sorted:mg "sorted"=none
 sum:mg "sum"=none
section
open Fr
open Builtin.Int (intBits)
variable {P:Program}{w:World}{K:PySem.W.Frag}{mg:Str→Option Value}{base:Heap}{f:Addr}{fd:FuncData}
abbrev z3o:Stmt:=top 4
theorem sc_divisor:z0x ["one","other","rest"] ["one","other"] (z0n z3o):=⟨rfl,rfl,rfl,by decide+kernel,rfl,by decide+kernel,by decide+kernel⟩
def z1K:Sp:=fun vs H Q _=>∃a b:Int,vs=[.int a,.int b]∧Q (.int (Int.gcd a b:Int)) H
theorem z7R (T:Txt mg) (F:Fun K "divisor" "divisor" z3o f fd):FnOk P w K mg base CX0 1 f fd ["one","other"] z1K:=by
 refine F.ok sc_divisor (fun vs H Q E h=>?_) (fun cdv A outer s H vs Q E hr h=>?_)
 ·obtain⟨a,b,rfl,_⟩:=h;rfl
 obtain⟨a,b,rfl,q⟩:=h
 refine⟨_,(z0c (z6H PassesOwn.never (z0s z4C (pv 1) z0g (z0C _)) (z0c (z0p (i:=2) sc_divisor.nd rfl (Or.inl rfl) (z0w y2q (pv 0) (pv 1)))
  (z0c (z0p (i:=0) sc_divisor.nd rfl (Or.inl rfl) (pv 1))
  (z0i (z0p (i:=1) sc_divisor.nd rfl (Or.inl rfl) (pv 2))))))
  (z0i (z0y (z0u z4N rfl T.abs boot_abs (z0a (pv 0) z0e))))),?_⟩
 refine z6t (fun σ H'=>H'=H∧∃x y r,σ=[some (.int x),some (.int y),r]∧Int.gcd x y=Int.gcd a b) (fun σ _=>match σ with|[_,some (.int y),_]=>y.natAbs|_=>0) ⟨rfl,a,b,none,rfl,rfl⟩ ?_ ?_
 ·rintro σ H' ⟨rfl,x,y,r,rfl,hg⟩
  refine⟨_,rfl,rfl,_,rfl,?_⟩
  by_cases hy:y=0
  ·subst hy
   refine z1X ?_
   refine⟨_,rfl,_,rfl,?_⟩
   rw[y2I hg rfl]
   exact q
  ·rw[show (!decide (V.int y=V.int 0))=true from by simp[hy]]
   refine z5y ?_
   refine⟨_,rfl,_,rfl,_,_,rfl,rfl,hy,?_⟩
   refine⟨_,rfl,?_⟩
   refine⟨_,rfl,?_⟩
   exact⟨⟨rfl,y,x.fmod y,_,rfl,turn hg⟩,less hy⟩
 ·rintro σ H' Q1 Q2 hQ ⟨v,e,e2,k,ek,qk⟩
  exact⟨v,e,e2,k,ek,hQ _ _ qk⟩
end
section
open Fr
open Builtin.Int (intBits)
variable {P:Program}{w:World}{K:PySem.W.Frag}{mg:Str→Option Value}{base:Heap}{f:Addr}{fd:FuncData}
abbrev z3i:Stmt:=top 20
theorem z7A:z0x ["_law_found"] ["_law_found"] (z0n z3i):=⟨rfl,rfl,rfl,by decide+kernel,rfl,by decide+kernel,by decide+kernel⟩
def z8t:Sp:=fun vs H Q _=>∃i:Int,vs=[.int i]∧Q (.bl true) H
theorem z7L (T:Txt mg) (F:Fun K "_law_whole" "_law_whole" z3i f fd):FnOk P w K mg base CX0 1 f fd ["_law_found"] z8t:=by
 refine F.ok z7A (fun vs H Q E h=>?_) (fun cdv A outer s H vs Q E hr h=>?_)
 ·obtain⟨_,rfl,_⟩:=h;rfl
 obtain⟨i,rfl,q⟩:=h
 refine⟨_,(z0i (z0y (y3s (z0u z0X rfl T.isinstance boot_isinstance (z0a (pv 0) (z0a (z2e (v:= .ty "int") rfl T.int boot_int rfl) z0e))) (y3p (y3q (z0u z0X rfl T.isinstance boot_isinstance (z0a (pv 0) (z0a (z2e (v:= .ty "bool") rfl T.bool boot_bool rfl) z0e)))))))),?_⟩
 refine⟨_,rfl,_,_,_,_,rfl,.int _,rfl,_,rfl,?_⟩
 refine z5y ?_
 exact⟨_,rfl,_,_,_,_,rfl,.int _,rfl,_,rfl,q⟩
end
section
open Fr
open Builtin.Int (intBits)
variable {P:Program}{w:World}{K:PySem.W.Frag}{mg:Str→Option Value}{base:Heap}{f:Addr}{fd:FuncData}
abbrev z2c:Stmt:=top 21
theorem sc_l_divisor:z0x ["_law_one","_law_other"] ["_law_one","_law_other"] (z0n z2c):=⟨rfl,rfl,rfl,by decide+kernel,rfl,by decide+kernel,by decide+kernel⟩
theorem turnE {a0 b0 a b:Int} (h:Int.gcd a b=Int.gcd a0 b0):Int.gcd b (a%b)=Int.gcd a0 b0:=by
 rw[Int.emod_def,Int.gcd_sub_mul_left_right,Int.gcd_comm b a]
 exact h
theorem y2C (a b:Int):Int.gcd (if a<0 then -a else a) (if b<0 then -b else b)=Int.gcd a b:=by
 split<;>split<;>simp[Int.gcd_neg,Int.neg_gcd]
theorem z5q (T:Txt mg) (F:Fun K "_law_divisor" "_law_divisor" z2c f fd):FnOk P w K mg base CX0 1 f fd ["_law_one","_law_other"] z1K:=by
 refine F.ok sc_l_divisor (fun vs H Q E h=>?_) (fun cdv A outer s H vs Q E hr h=>?_)
 ·obtain⟨_,_,rfl,_⟩:=h;rfl
 obtain⟨a,b,rfl,q⟩:=h
 refine⟨_,(z0c (z0p (i:=0) sc_l_divisor.nd rfl (Or.inl rfl) (z0u z4N rfl T.abs boot_abs (z0a (pv 0) z0e)))
  (z0c (z0p (i:=1) sc_l_divisor.nd rfl (Or.inl rfl) (z0u z4N rfl T.abs boot_abs (z0a (pv 1) z0e)))
  (z0c (z6H PassesOwn.never (z0s y0P (pv 1) z0g (z0C _)) (z0i (y3l (i:=0) (j:=1) rfl sc_l_divisor.nd rfl rfl (by decide) rfl rfl (z0a (pv 1) (z0a (z0w z0N (pv 0) (pv 1)) z0e)) (by rfl))))
  (z0i (z0y (pv 0)))))),?_⟩
 refine⟨_,rfl,_,rfl,?_⟩
 refine⟨_,rfl,_,rfl,?_⟩
 refine z6t (fun σ H'=>H'=H∧∃x y,σ=[some (.int x),some (.int y)]∧0≤x∧0≤y∧Int.gcd x y=Int.gcd a b) (fun σ _=>match σ with|[_,some (.int y)]=>y.natAbs|_=>0)
  ⟨rfl,_,_,rfl,by split<;>lia,by split<;>lia,y2C a b⟩ ?_ ?_
 ·rintro σ H' ⟨rfl,x,y,rfl,hx,hy,hg⟩
  refine⟨_,rfl,_,_,rfl,rfl,_,rfl,?_⟩
  refine z5z (fun c=>?_) (fun c=>?_)
  ·have c':0<y:=of_decide_eq_true c
   refine⟨_,rfl,_,rfl,_,rfl,_,_,rfl,rfl,c',_,_,rfl,?_⟩
   have m0:=Int.emod_nonneg x (Int.ne_of_gt c')
   have m1:=Int.emod_lt_of_pos x c'
   refine⟨⟨rfl,y,x%y,rfl,hy,m0,turnE hg⟩,?_⟩
   show (x%y).natAbs <y.natAbs
   lia
  ·have c':¬0<y:=fun z=>c (decide_eq_true z)
   have y0:y=0:=by lia
   subst y0
   refine⟨_,rfl,?_⟩
   have e:x=(Int.gcd a b:Int):=by rw[←hg,Int.gcd_zero];lia
   rw[←e] at q
   exact q
 ·rintro σ H' Q1 Q2 hQ ⟨v,e,i,j,e2,e3,k,ek,qk⟩
  exact⟨v,e,i,j,e2,e3,k,ek,hQ _ _ qk⟩
end
end L2
namespace L2
open PySem PySem.Spec PyProof.Rows
section
open Fr Wl
open Builtin.Int (intBits)
variable {P:Program}{w:World}{K:PySem.W.Frag}{mg:Str→Option Value}{base:Heap}{f:Addr}{fd:FuncData}
theorem z8D {K:PySem.W.Frag}{b:Bool}{H:Hp}{a:Addr}{xs:List V}{v:V}{Q:VK} (h:SqB b K H a (xs++[v])) (q:∀p H',Same H H'→SqA K H' p xs→Q (.ref p) H'):rSlA K (.ref a) none (some (-1)) H Q:=by
 cases b with
 |true=>
  refine .inl ⟨a,_,rfl,h,fun p hp=>?_⟩
  rw[z7k]
  exact q p _ (z0d hp _) (.inl (SqL.of z0b))
 |false=>
  refine .inr ⟨a,_,rfl,h,y0b,fun p hp=>?_⟩
  rw[z7k]
  exact q p _ (z0d hp _) (.inr (SqT.of z0b))
theorem z3c (rs:List Int):(rs.map V.int).any trV=true↔∃n∈rs,n≠0:=by
 rw[List.any_map,q1i]
 constructor
 ·rintro⟨n,hn,h⟩
  exact⟨n,hn,by simpa[trV] using h⟩
 ·rintro⟨n,hn,h⟩
  exact⟨n,hn,by simpa[trV] using h⟩
theorem z2y (rs:List Int):∀y∈rs.map V.int,PlV y:=fun y hy=>by
 obtain⟨n,_,rfl⟩:=q0e.mp hy
 trivial
abbrev z1f:Stmt:=top 5
theorem sc_divisor_of_all:z0x ["numbers","shared","number"] ["numbers"] (z0n z1f):=⟨rfl,rfl,rfl,by decide+kernel,rfl,by decide+kernel,by decide+kernel⟩
def z6B (K:PySem.W.Frag):Sp:=fun vs H Q _=>∃(p:Addr) (rs:List Int),vs=[.ref p]∧SqA K H p (rs.map V.int)∧rs.length≤1000∧Q (.int (z1v rs:Nat)) H
theorem z2z (T:Txt mg) (F:Fun K "divisor_of_all" "divisor_of_all" z1f f fd) (c_divisor:Cal P w K mg base 1 "divisor" ["one","other"] z1K):FnOk P w K mg base CX0 2 f fd ["numbers"] (z6B K):=by
 refine F.ok sc_divisor_of_all (fun vs H Q E h=>?_) (fun cdv A outer s H vs Q E hr h=>?_)
 ·obtain⟨_,_,rfl,_⟩:=h;rfl
 obtain⟨p,rs,rfl,hS,hlen,q⟩:=h
 obtain⟨b,hB⟩:=hS.toB
 refine⟨_,(z0c (z0p (i:=1) sc_divisor_of_all.nd rfl (Or.inl rfl) z0g)
  (z0c (z0W PassesOwn.never rfl (z2L (K:=K) rfl (pv 0)) (z0k (i:=2) sc_divisor_of_all.nd rfl (Or.inl rfl)) (z0i (z0p (i:=1) sc_divisor_of_all.nd rfl (Or.inl rfl) (z0B c_divisor hr rfl (z0a (pv 1) (z0a (pv 2) z0e))))))
  (z0i (z0y (pv 1))))),?_⟩
 refine⟨_,rfl,p,b,_,rfl,hB,?_⟩
 refine z0D (z1L K b p (rs.map V.int)) (fun i σ H'=>H'=H∧∃s2,σ=[some (.ref p),some (.int (z1v (rs.take i):Nat)),s2]) ⟨rfl,_,rfl⟩ (fun i σ H' _ h=>h.1▸hB) ?_ ?_
 ·rintro i x σ H4 H5 hi ⟨rfl,s2,rfl⟩ ⟨rfl,hx⟩
  rw[q0j] at hx
  obtain⟨n,hn,rfl⟩:=q0v.mp hx
  have tk:rs.take (i+1)=rs.take i++[n]:=by rw[q0L,hn];rfl
  refine⟨_,rfl,_,rfl,_,_,rfl,?_⟩
  rw[tk,z5B]
  exact⟨rfl,_,rfl⟩
 ·rintro σ H4 ⟨rfl,s2,rfl⟩
  rw[q0a,q0S]
  exact⟨_,rfl,q⟩
abbrev z8I:Stmt:=top 7
theorem sc_wall:z0x ["numbers","shared","leading"] ["numbers"] (z0n z8I):=⟨rfl,rfl,rfl,by decide+kernel,rfl,by decide+kernel,by decide+kernel⟩
def y1w (K:PySem.W.Frag):Sp:=fun vs H Q _=>∃(p:Addr) (ns:List Int) (last:Int),vs=[.ref p]∧SqA K H p ((ns++[last]).map V.int)∧(ns++[last]).length ≤1000∧(∀n∈ns++[last],intBits n≤9000)∧
 (∃n∈ns,n≠0)∧∀t H',Same H H'→H' t=some (.tup ((z0j (ns++[last])).map V.int))→Q (.ref t) H'
theorem z3F (rs:List Int) (h:z0V rs≠0):atI (((rs.map V.int).filter fun v=>match v with| .int n=> !decide (V.int n=V.int 0)|_=>false).map fun v=>v) 0=some (.int (z0V rs)):=by
 rw[List.map_id']
 induction rs with
 |nil=>exact absurd rfl h
 |cons m r ih=>
  rw[q0t]
  by_cases hm:m=0
  ·subst hm
   rw[q1c (by simp)]
   have e:z0V (0::r)=z0V r:=if_pos rfl
   rw[e] at h ⊢
   exact ih h
  ·rw[q1b (by simp[hm])]
   have e:z0V (m::r)=m:=if_neg hm
   rw[e]
   exact z1i (j:=0) rfl
theorem y2s (T:Txt mg) (F:Fun K "wall" "wall" z8I f fd) (c_divisor_of_all:Cal P w K mg base 2 "divisor_of_all" ["numbers"] (z6B K)):FnOk P w K mg base CX0 3 f fd ["numbers"] (y1w K):=by
 refine F.ok sc_wall (fun vs H Q E h=>?_) (fun cdv A outer s H vs Q E hr h=>?_)
 ·obtain⟨_,_,_,rfl,_⟩:=h;rfl
 obtain⟨p,ns,last,rfl,hS,hlen,zb,hnz,q⟩:=h
 obtain⟨b,hB⟩:=hS.toB
 refine⟨_,(z0c (z0O (z1M (z1y (z0u (z3L (K:=K) rfl rfl) rfl T.any boot_any (z0a (z2k (z8E (K:=K) rfl) (pv 0) z3s (z3r (z7I z3T z0g))) z0e)))) (z0i y0G) z0v)
  (z0c (z0p (i:=1) sc_wall.nd rfl (Or.inr rfl) (z0B c_divisor_of_all hr rfl (z0a (pv 0) z0e)))
  (z0c (z0p (i:=2) sc_wall.nd rfl (Or.inl rfl) (z0G (z0q (K:=K) rfl) (z0J (Nc:=["number"]) (fr:=[none]) rfl (z2L (K:=K) rfl (pv 0)) rfl (by decide) rfl (by decide) rfl trivial trivial (fun _ _ _ _=>(z0k (i:=0) (show List.Nodup (["number"]:List Str) from by decide) rfl (Or.inl rfl))) (fun _ _ _ _=>(z1o (z0s z4C (pv 0) z0g (z0C _)))) (fun _ _ _ _=>(pv 0))) z0g (fun _ _=>rfl)))
  (z0c (z0O (z0s y3y (pv 2) z0g (z0C _)) (z0i (z0p (i:=1) sc_wall.nd rfl (Or.inr rfl) (z7I z3T (pv 1)))) z0v)
  (z0i (z0y (z0E (z1q (K:=K) rfl) rfl T.tuple boot_tuple (z0a (z0J (Nc:=["number","shared"]) (fr:=[none,some 1]) rfl (z2L (K:=K) rfl (pv 0)) rfl (by decide) rfl (by decide) rfl ⟨rfl,trivial⟩ ⟨⟨rfl,rfl,rfl,rfl⟩,trivial⟩ (fun _ _ _ _=>(z0k (i:=0) (show List.Nodup (["number","shared"]:List Str) from by decide) rfl (Or.inl rfl))) (fun _ _ _ _=>z0U) (fun _ _ _ _=>(z0w z2l (pv 0) (pv 1)))) z0e)))))))),?_⟩
 refine⟨_,rfl,_,rfl,_,rfl,z8D (by rw[q0m] at hB;exact hB) fun q1 H1 g1 hq1=>?_⟩
 refine⟨q1,_,rfl,hq1,z2y ns,_,rfl,?_⟩
 rw[(z3c ns).mpr hnz]
 refine z1X ?_
 have hnz2:∃n∈ns++[last],n≠0:=let ⟨n,h1,h2⟩:=hnz;⟨n,q0N _ h1,h2⟩
 generalize ns++[last]=rs at*
 have hB1:=hB.same g1
 have hS1:=hS.same g1
 refine⟨_,rfl,p,rs,rfl,hS1,hlen,?_⟩
 refine⟨_,rfl,p,b,_,rfl,hB1,fun D hD=>?_⟩
 refine z1e rfl (z1L K b p (rs.map V.int)) hD (fun v=>match v with| .int n=> !decide (V.int n=V.int 0)|_=>false) (fun v=>v) (fun H' g'=>hB1.same g') (z0l (by rw[q0a];lia)) ?_ ?_ ?_
 ·intro x hx Hc gc S h
  obtain⟨n,_,rfl⟩:=q0e.mp hx
  exact⟨_,rfl,rfl,_,rfl,h⟩
 ·intro x hx _ Hc gc S h
  exact⟨_,rfl,h⟩
 ·refine⟨D,_,_,_,rfl,rfl,SqL.of z0b,z3F rs (z4G hnz2),?_⟩
  have gD:=z0d (H:=H1) hD (.lst ((((rs.map V.int).filter fun v=>match v with| .int n=> !decide (V.int n=V.int 0)|_=>false)).map fun v=>v))
  generalize upd H1 D (.lst ((((rs.map V.int).filter fun v=>match v with| .int n=> !decide (V.int n=V.int 0)|_=>false)).map fun v=>v))=H5 at gD
  have hB5:=hB1.same gD
  refine⟨_,rfl,_,_,rfl,rfl,_,rfl,?_⟩
  have hby:byL rs≠0∧intBits (byL rs)≤9000:=⟨z2r hnz2,z7m hnz2 zb⟩
  refine z5z (fun c=>?_) (fun c=>?_)
  case' _=>
   have c':z0V rs<0:=of_decide_eq_true c
   have eb: -(z1v rs:Int)=byL rs:=by unfold byL;rw[if_pos c']
   refine⟨_,rfl,_,rfl,?_⟩
   dsimp only
   rw[eb]
  rotate_left
  case' _=>
   have c':¬z0V rs<0:=fun z=>c (decide_eq_true z)
   have eb:(z1v rs:Int)=byL rs:=by unfold byL;rw[if_neg c']
   rw[eb]
  all_goals
   refine⟨_,rfl,p,b,_,rfl,hB5,fun D2 hD2=>?_⟩
   refine z1e rfl (z1L K b p (rs.map V.int)) hD2 (fun _=>true) (fun v=>match v with| .int n=> .int (n.fdiv (byL rs))|u=>u) (fun H' g'=>hB5.same g') (z0l (by rw[q0a];lia)) ?_ ?_ ?_
   ·intro x _ Hc _ S h
    exact h
   ·intro x hx _ Hc _ S h
    obtain⟨n,_,rfl⟩:=q0e.mp hx
    exact⟨_,rfl,_,rfl,_,_,rfl,rfl,hby,h⟩
   ·rw[z0F,q0w]
    have em:rs.map ((fun v=>match v with| .int n=>V.int (n.fdiv (byL rs))|u=>u)∘V.int)=(z0j rs).map V.int:=by
     unfold z0j
     rw[q0w];rfl
    rw[em]
    exact⟨D2,_,rfl,.inl ⟨SqL.of z0b,fun t ht=>q t _ (g1.trans (gD.trans ((z0d hD2 _).trans (z0d ht _)))) z0b⟩⟩
end
section
open Fr Wl
open Builtin.Int (intBits)
variable {P:Program}{w:World}{K:PySem.W.Frag}{mg:Str→Option Value}{base:Heap}{f:Addr}{fd:FuncData}
theorem z0o {S1 S2:TS}{D:y1W}{σ:St}{H:Hp} (I:St→Hp→Prop) (h1:∀N:St→Hp→Prop,(∀σ' H',I σ' H'→N σ' H')→S1 {D with nx:=N} σ H) (h2:∀σ' H',I σ' H'→S2 D σ' H'):tSeq S1 S2 D σ H:=h1 _ h2
theorem z7o {i:Int} (h1: -(2^64)<i) (h2:i<2^64):intBits i≤64:=intBits_le_64 h1 h2
theorem z1s {ns:List Int}{k:Int} (h0:0≤k) (h:k<ns.length):atI (ns.map V.int) k=some (.int (ns.getD k.toNat 0)):=by
 have hk:k.toNat<ns.length:=by lia
 have ek:k=((k.toNat:Nat):Int):=by lia
 rw[ek]
 refine z1i ?_
 rw[q0j,q0G,q0c,q0b hk]
 rfl
abbrev z5X:Stmt:=top 22
theorem sc_l_mix:z0x ["_law_script","_law_k","_law_cell","_law_number"] ["_law_script","_law_k"] (z0n z5X):=⟨rfl,rfl,rfl,by decide+kernel,rfl,by decide+kernel,by decide+kernel⟩
def y3a (K:PySem.W.Frag):Sp:=fun vs H Q _=>∃(a:Addr) (ns:List Int) (k:Int),vs=[.ref a,.int k]∧SqL K H a (ns.map V.int)∧ns.length≤63∧0≤k∧k≤1000000∧∀r:Int,0≤r→r<2147483587→Q (.int r) H
theorem y0T (T:Txt mg) (F:Fun K "_law_mix" "_law_mix" z5X f fd):FnOk P w K mg base CX0 1 f fd ["_law_script","_law_k"] (y3a K):=by
 refine F.ok sc_l_mix (fun vs H Q E h=>?_) (fun cdv A outer s H vs Q E hr h=>?_)
 ·obtain⟨_,_,_,rfl,_⟩:=h;rfl
 obtain⟨a,ns,k,rfl,hS,h63,h0,h1,q⟩:=h
 refine⟨_,(z0c (z0p (i:=2) sc_l_mix.nd rfl (Or.inl rfl) z0g)
  (z0c (z0O (z0s y0P (z0u (z0Q (K:=K) rfl) rfl T.len PySem.boot_len (z0a (pv 0) z0e)) z0g (z0C _)) (z0i (z0p (i:=2) sc_l_mix.nd rfl (Or.inl rfl) (z0G (z0q (K:=K) rfl) (pv 0) (z0w z0N (pv 1) (z0u (y0e rfl) rfl T.min boot_min (z0a z0g (z0a (z0u (z0Q (K:=K) rfl) rfl T.len PySem.boot_len (z0a (pv 0) z0e)) z0e)))) (fun _ _=>rfl)))) z0v)
  (z0c (z0p (i:=3) sc_l_mix.nd rfl (Or.inl rfl) (z0w z0N (z0w z1G (pv 2) (z0w z1p z0g (z0w z1G (pv 1) z0g))) z0g))
  (z0c (z0p (i:=3) sc_l_mix.nd rfl (Or.inl rfl) (z0w z0N (z0w z1G (z0w z1p (pv 3) (pv 3)) (pv 1)) z0g))
  (z0i (z0y (z0w z0N (z0w z1p (pv 3) (pv 3)) z0g))))))),?_⟩
 have hl:(ns.map V.int).length =ns.length:=q0a _
 refine⟨_,rfl,a,_,rfl,.inl hS,_,_,rfl,rfl,_,rfl,?_⟩
 refine z5z (fun c=>?_) (fun c=>?_)
 case' _=>
  have c':0<(((ns.map V.int).length :Nat):Int):=of_decide_eq_true c
  rw[hl] at c'
  have em:(if (((ns.map V.int).length :Nat):Int)<63 then (((ns.map V.int).length :Nat):Int) else 63)=ns.length:=by rw[hl];split<;>lia
  refine⟨_,rfl,_,rfl,_,rfl,a,_,rfl,.inl hS,_,_,rfl,?_⟩
  rw[em]
  refine⟨_,_,rfl,rfl,c',a,_,_,_,rfl,rfl,hS,z1s (Int.emod_nonneg _ (by lia)) (Int.emod_lt_of_pos _ c'),?_⟩
 all_goals
  refine⟨_,rfl,_,rfl,_,_,rfl,rfl,_,_,rfl,rfl,z3w (m:=64) (n:=64) (z7o (by lia) (by lia)) (z7o (by lia) (by lia)),_,_,rfl,rfl,_,_,rfl,rfl,cm,?_⟩
  have z1:∀x:Int,intBits (x%2147483629)≤64:=fun x=>z7o (by lia) (by lia)
  refine⟨_,rfl,_,rfl,_,_,rfl,rfl,z3w (m:=64) (n:=64) (z1 _) (z1 _),_,rfl,_,_,rfl,rfl,_,_,rfl,rfl,cm,?_⟩
  exact⟨_,rfl,_,rfl,_,_,rfl,rfl,z3w (m:=64) (n:=64) (z1 _) (z1 _),_,_,rfl,rfl,cm,q _ (by lia) (by lia)⟩
abbrev z3m:Stmt:=top 23
theorem sc_l_draws:z0x ["_law_script","_law_cell","_law_found","_law_k"] ["_law_script"] (z0n z3m):=⟨rfl,rfl,rfl,by decide+kernel,rfl,by decide+kernel,by decide+kernel⟩
def z8x (K:PySem.W.Frag):Sp:=fun vs H Q _=>∃(a:Addr) (ss:List Int),vs=[.ref a]∧SqL K H a (ss.map V.int)∧ss.length≤63∧
 ∀(ds:List Int) (l:Addr) (H':Hp),H l=none→ds.length=60→(∀d∈ds,0≤d∧d<2147483587)→Same H H'→H' l=some (.lst (ds.map V.int))→Q (.ref l) H'
theorem z8e {xs us:List V} (h:Each (fun _ u=>∃n:Int,u=V.int n∧0≤n∧n<2147483587) xs us):∃ps:List Int,us=ps.map V.int∧ps.length=xs.length∧∀n∈ps,0≤n∧n<2147483587:=by
 induction h with
 |nil=>exact⟨[],rfl,rfl,fun n h=>by cases h⟩
 |cons e _ ih=>
  obtain⟨n,rfl,n0⟩:=e
  obtain⟨ps,rfl,hl,hp⟩:=ih
  refine⟨n::ps,rfl,by simp[hl],fun k hk=>?_⟩
  rcases q0o.mp hk with rfl|hk
  ·exact n0
  ·exact hp k hk
def y2g (n:Nat):List V:=(List.range n).map fun i=>V.int ((0:Int)+(i:Nat))
theorem y2f {n i:Nat} (h:i<n):(y2g n)[i]? =some (V.int (0+(i:Nat))):=by
 unfold y2g
 rw[q0j,List.getElem?_range h];rfl
theorem z4y (n:Nat):(y2g n).length =n:=by unfold y2g;rw[List.length_map,List.length_range]
theorem z5Z (n:Nat):z4O (Itr 0 n) (y2g n).length (fun _=>True) (fun i H x H'=>H'=H∧(y2g n)[i]? =some x):=by
 have r:=z0R 0 n
 rw[z4y]
 exact⟨r.go,r.stop,fun i H x H' h hi y=>by
  obtain⟨e1,e2⟩:=r.yld i H x H' h hi y
  exact⟨e1,by rw[y2f hi,e2]⟩⟩
theorem z7P (T:Txt mg) (F:Fun K "_law_draws" "_law_draws" z3m f fd) (c_l_mix:Cal P w K mg base 1 "_law_mix" ["_law_script","_law_k"] (y3a K)):FnOk P w K mg base CX0 2 f fd ["_law_script"] (z8x K):=by
 refine F.ok sc_l_draws (fun vs H Q E h=>?_) (fun cdv A outer s H vs Q E hr h=>?_)
 ·obtain⟨_,_,rfl,_⟩:=h;rfl
 obtain⟨a,ss,rfl,hS,h63,q⟩:=h
 refine⟨_,(z0c (z0p (i:=1) sc_l_draws.nd rfl (Or.inl rfl) z0g)
  (z0c (z0O (z0s y0P (z0u (z0Q (K:=K) rfl) rfl T.len PySem.boot_len (z0a (pv 0) z0e)) z0g (z0C _)) (z0i (z0p (i:=1) sc_l_draws.nd rfl (Or.inl rfl) (z0G (z0q (K:=K) rfl) (pv 0) z0g (fun _ _=>rfl)))) z0v)
  (z0c (z0O (z0s z3O (z0w z0N (pv 1) z0g) z0g (z0C _)) (z0i (z0y (z0J (Nc:=["_law_k","_law_script"]) (fr:=[none,some 0]) rfl (z1a rfl T.range (z0a z0g z0e)) rfl (by decide) rfl (by decide) rfl ⟨rfl,trivial⟩ ⟨⟨rfl,rfl,rfl,rfl⟩,trivial⟩ (fun _ _ _ _=>(z0k (i:=0) (show List.Nodup (["_law_k","_law_script"]:List Str) from by decide) rfl (Or.inl rfl))) (fun _ _ _ _=>z0U) (fun _ _ _ _=>(z0B c_l_mix hr rfl (z0a (pv 1) (z0a (pv 0) z0e))))))) z0v)
  (z0c (z0p (i:=2) sc_l_draws.nd rfl (Or.inl rfl) (z0H z0e))
  (z0c (z0p (i:=1) sc_l_draws.nd rfl (Or.inl rfl) (z0w z4D (pv 1) z0g))
  (z0c (z0W PassesOwn.never rfl (z1a rfl T.range (z0a z0g z0e)) (z0k (i:=3) sc_l_draws.nd rfl (Or.inl rfl)) (z0c (z1C (z6e PySem.F.plainAttrs_list PySem.F.slot_list_append PySem.F.type_list_append z1b (pv 2) (z0a (z0w z0N (pv 1) z0g) z0e)))
  (z0i (z0p (i:=1) sc_l_draws.nd rfl (Or.inl rfl) (z0w z4D (pv 1) z0g)))))
  (z0i (z0y (pv 2))))))))),?_⟩
 have hl:(ss.map V.int).length =ss.length:=q0a _
 refine z0o (fun σ H'=>H=H'∧∃(c:Int),σ=[some (.ref a),some (.int c),none,none]) (fun N hN=>?_) ?_
 ·exact hN _ _ ⟨rfl,_,rfl⟩
 rintro σ H' ⟨rfl,c,rfl⟩
 refine z0o (fun σ H'=>H=H'∧∃(c:Int),σ=[some (.ref a),some (.int c),none,none]) (fun N hN=>?_) ?_
 ·refine⟨_,rfl,a,_,rfl,.inl hS,_,_,rfl,rfl,_,rfl,?_⟩
  refine z5z (fun c=>?_) (fun c=>?_)
  ·have c':0<(((ss.map V.int).length :Nat):Int):=of_decide_eq_true c
   rw[hl] at c'
   exact⟨_,rfl,a,_,_,_,rfl,rfl,hS,z1s (by decide) c',hN _ _ ⟨rfl,_,rfl⟩⟩
  ·exact hN _ _ ⟨rfl,_,rfl⟩
 rintro σ H' ⟨rfl,c,rfl⟩
 refine⟨_,rfl,_,_,rfl,rfl,cm,rfl,_,rfl,?_⟩
 refine z5z (fun c=>?_) (fun c=>?_)
 ·refine⟨_,rfl,by decide,by decide,fun D hD=>?_⟩
  refine z5F rfl (z5Z 60) hD (fun _=>true) (fun _ _ u=>∃n:Int,u=V.int n∧0≤n∧n<2147483587) (fun _ _ _ _ _ _ h=>h) (fun _ _=>trivial) (z0l (by rw[z4y];decide)) ?_ ?_ ?_
  ·intro x hx Hc gc S h
   exact h _ (Same.refl _)
  ·intro x hx _ Hc gc S h
   unfold y2g at hx
   obtain⟨j,hj,rfl⟩:=q0e.mp hx
   have hj':=q1a.mp hj
   exact⟨_,rfl,_,rfl,a,ss,_,rfl,SqL.same gc hS,h63,by lia,by lia,fun r r0 r1=>h _ _ (Same.refl _) ⟨_,rfl,r0,r1⟩⟩
  intro xs H4 g4 hD4 he
  rw[z0F] at he
  obtain⟨ps,rfl,pl,zp⟩:=z8e he
  rw[z4y] at pl
  exact q ps D _ hD pl zp g4 hD4
 refine⟨q0A _,fun l hl0=>?_⟩
 have g0:=z0d hl0 (.lst [])
 have e0:upd H l (.lst []) l=some (.lst (([]:List Int).map V.int)):=z0b
 generalize upd H l (.lst [])=H0 at*
 refine⟨_,rfl,_,_,rfl,rfl,cf,?_⟩
 refine⟨_,rfl,by decide,by decide,?_⟩
 refine z0D (z0R 0 60) (fun i σ H'=>∃(ds:List Int) (num:Int) (s3:Option V),σ=[some (.ref a),some (.int num),some (.ref l),s3]∧H' l=some (.lst (ds.map V.int))∧ds.length=i∧(∀d∈ds,0≤d∧d<2147483587)∧Same H H')
  ⟨[],_,_,rfl,e0,rfl,by simp,g0⟩ (fun _ _ _ _ _=>trivial) ?_ ?_
 ·clear e0
  rintro i x σ H1 H2 hi ⟨ds,num,s3,rfl,hl1,hlen,hb,g⟩ ⟨rfl,rfl⟩
  have hz:(ds.map V.int).length <sizeLine:=z1E (by rw[q0a,hlen];lia)
  refine⟨_,rfl,.inl ⟨rfl,_,SqL.of hl1⟩,_,rfl,_,_,rfl,rfl,cm,l,_,_,rfl,rfl,hl1,hz,?_⟩
  refine⟨_,rfl,_,_,rfl,rfl,cf,?_⟩
  refine⟨ds++[num%5040],_,_,rfl,by rw[z0b,q0m];rfl,by simp[hlen],fun d hd=>?_,fun b u e=>by rw[z0h (z0f e hl0)];exact g _ _ e⟩
  rcases q0r.mp hd with hd|hd
  ·exact hb d hd
  ·rw[q0g.mp hd];lia
 ·rintro σ H1 ⟨ds,num,s3,rfl,hl1,hlen,hb,g⟩
  exact⟨_,rfl,q ds l _ hl0 hlen hb g hl1⟩
end
end L2
namespace L2
open PySem PySem.Spec PyProof.Rows
section
open Fr Wl
open Builtin.Int (intBits)
variable {P:Program}{w:World}{K:PySem.W.Frag}{mg:Str→Option Value}{base:Heap}{f:Addr}{fd:FuncData}
abbrev z3j:Stmt:=top 24
theorem sc_l_plain:z0x ["_law_row_here","_law_most","_law_number","_law_first"] ["_law_row_here"] (z0n z3j):=⟨rfl,rfl,rfl,by decide+kernel,rfl,by decide+kernel,by decide+kernel⟩
def z5R (K:PySem.W.Frag):Sp:=fun vs H Q _=>∃(p:Addr) (rs:List Int),vs=[.ref p]∧SqA K H p (rs.map V.int)∧rs.length≤1000∧(∀n∈rs,intBits n≤9000)∧(∃n∈rs,n≠0)∧
 ∀t H',Same H H'→H' t=some (.tup ((z0j rs).map V.int))→Q (.ref t) H'
theorem z7M (T:Txt mg) (F:Fun K "_law_plain" "_law_plain" z3j f fd) (c_l_divisor:Cal P w K mg base 1 "_law_divisor" ["_law_one","_law_other"] z1K):FnOk P w K mg base CX0 2 f fd ["_law_row_here"] (z5R K):=by
 refine F.ok sc_l_plain (fun vs H Q E h=>?_) (fun cdv A outer s H vs Q E hr h=>?_)
 ·obtain⟨_,_,rfl,_⟩:=h;rfl
 obtain⟨p,rs,rfl,hS,hlen,zb,hnz2,q⟩:=h
 obtain⟨b,hB1⟩:=hS.toB
 refine⟨_,(z0c (z0p (i:=1) sc_l_plain.nd rfl (Or.inr rfl) z0g)
  (z0c (z0W PassesOwn.never rfl (z2L (K:=K) rfl (pv 0)) (z0k (i:=2) sc_l_plain.nd rfl (Or.inl rfl)) (z0i (z0p (i:=1) sc_l_plain.nd rfl (Or.inr rfl) (z0B c_l_divisor hr rfl (z0a (pv 1) (z0a (pv 2) z0e))))))
  (z0c (z0p (i:=3) sc_l_plain.nd rfl (Or.inl rfl) (z0G (z0q (K:=K) rfl) (z0J (Nc:=["_law_number"]) (fr:=[none]) rfl (z2L (K:=K) rfl (pv 0)) rfl (by decide) rfl (by decide) rfl trivial trivial (fun _ _ _ _=>(z0k (i:=0) (show List.Nodup (["_law_number"]:List Str) from by decide) rfl (Or.inl rfl))) (fun _ _ _ _=>(z1o (z0s z4C (pv 0) z0g (z0C _)))) (fun _ _ _ _=>(pv 0))) z0g (fun _ _=>rfl)))
  (z0c (z0O (z0s y3y (pv 3) z0g (z0C _)) (z0i (z0p (i:=1) sc_l_plain.nd rfl (Or.inr rfl) (z0w z1Z z0g (pv 1)))) z0v)
  (z0i (z0y (z0E (z1q (K:=K) rfl) rfl T.tuple boot_tuple (z0a (z0J (Nc:=["_law_number","_law_most"]) (fr:=[none,some 1]) rfl (z2L (K:=K) rfl (pv 0)) rfl (by decide) rfl (by decide) rfl ⟨rfl,trivial⟩ ⟨⟨rfl,rfl,rfl,rfl⟩,trivial⟩ (fun _ _ _ _=>(z0k (i:=0) (show List.Nodup (["_law_number","_law_most"]:List Str) from by decide) rfl (Or.inl rfl))) (fun _ _ _ _=>z0U) (fun _ _ _ _=>(z0w z2l (pv 0) (pv 1)))) z0e)))))))),?_⟩
 refine⟨_,rfl,p,b,_,rfl,hB1,?_⟩
 refine z0D (z1L K b p (rs.map V.int)) (fun i σ H'=>H=H'∧∃s2,σ=[some (.ref p),some (.int (z1v (rs.take i):Nat)),s2,none]) ⟨rfl,_,rfl⟩ (fun i σ H' _ h=>h.1▸hB1) ?_ ?_
 ·rintro i x σ H4 H5 hi ⟨rfl,s2,rfl⟩ ⟨rfl,hx⟩
  rw[q0j] at hx
  obtain⟨n,hn,rfl⟩:=q0v.mp hx
  have tk:rs.take (i+1)=rs.take i++[n]:=by rw[q0L,hn];rfl
  refine⟨_,rfl,_,rfl,_,_,rfl,?_⟩
  rw[tk,z5B]
  exact⟨rfl,_,rfl⟩
 rintro σ H1 ⟨rfl,s2,rfl⟩
 rw[q0a,q0S]
 refine⟨_,rfl,p,b,_,rfl,hB1,fun D hD=>?_⟩
 refine z1e rfl (z1L K b p (rs.map V.int)) hD (fun v=>match v with| .int n=> !decide (V.int n=V.int 0)|_=>false) (fun v=>v) (fun H' g'=>hB1.same g') (z0l (by rw[q0a];lia)) ?_ ?_ ?_
 ·intro x hx Hc gc S h
  obtain⟨n,_,rfl⟩:=q0e.mp hx
  exact⟨_,rfl,rfl,_,rfl,h⟩
 ·intro x hx _ Hc gc S h
  exact⟨_,rfl,h⟩
 ·refine⟨D,_,_,_,rfl,rfl,SqL.of z0b,z3F rs (z4G hnz2),?_⟩
  have gD:=z0d (H:=H) hD (.lst ((((rs.map V.int).filter fun v=>match v with| .int n=> !decide (V.int n=V.int 0)|_=>false)).map fun v=>v))
  generalize upd H D (.lst ((((rs.map V.int).filter fun v=>match v with| .int n=> !decide (V.int n=V.int 0)|_=>false)).map fun v=>v))=H5 at gD
  have hB5:=hB1.same gD
  refine⟨_,rfl,_,_,rfl,rfl,_,rfl,?_⟩
  have hby:byL rs≠0∧intBits (byL rs)≤9000:=⟨z2r hnz2,z7m hnz2 zb⟩
  refine z5z (fun c=>?_) (fun c=>?_)
  case' _=>
   have c':z0V rs<0:=of_decide_eq_true c
   have eb:0 - (z1v rs:Int)=byL rs:=by unfold byL;rw[if_pos c'];lia
   refine⟨_,rfl,_,_,rfl,rfl,?_⟩
   dsimp only
   rw[eb]
  rotate_left
  case' _=>
   have c':¬z0V rs<0:=fun z=>c (decide_eq_true z)
   have eb:(z1v rs:Int)=byL rs:=by unfold byL;rw[if_neg c']
   rw[eb]
  all_goals
   refine⟨_,rfl,p,b,_,rfl,hB5,fun D2 hD2=>?_⟩
   refine z1e rfl (z1L K b p (rs.map V.int)) hD2 (fun _=>true) (fun v=>match v with| .int n=> .int (n.fdiv (byL rs))|u=>u) (fun H' g'=>hB5.same g') (z0l (by rw[q0a];lia)) ?_ ?_ ?_
   ·intro x _ Hc _ S h
    exact h
   ·intro x hx _ Hc _ S h
    obtain⟨n,_,rfl⟩:=q0e.mp hx
    exact⟨_,rfl,_,rfl,_,_,rfl,rfl,hby,h⟩
   ·rw[z0F,q0w]
    have em:rs.map ((fun v=>match v with| .int n=>V.int (n.fdiv (byL rs))|u=>u)∘V.int)=(z0j rs).map V.int:=by
     unfold z0j
     rw[q0w];rfl
    rw[em]
    exact⟨D2,_,rfl,.inl ⟨SqL.of z0b,fun t ht=>q t _ (gD.trans ((z0d hD2 _).trans (z0d ht _))) z0b⟩⟩
end
end L2
namespace L2
open PySem PySem.Spec PyProof.Rows
section
open Fr Wl Rk
open Builtin.Int (intBits)
variable {P:Program}{w:World}{K:PySem.W.Frag}{mg:Str→Option Value}{base:Heap}{f:Addr}{fd:FuncData}
theorem z2C {n k:Nat} (h:k<n):ixN n (k:Int)=some k:=by
 unfold ixN
 rw[if_pos (by lia),if_pos (by lia)]
 rw[q0G]
theorem z8c (m:Nat):(List.replicate m [V.int 0]).flatten =(List.replicate m (0:Int)).map V.int:=by
 induction m with
 |zero=>rfl
 |succ m ih=>rw[List.replicate_succ,List.flatten_cons,ih,List.replicate_succ];rfl
theorem y3P {K:PySem.W.Frag}{H:Hp}{a:Addr}{ns:List Int} (h:H a=some (.lst (ns.map V.int))):IsD K H (.ref a) (.l (ns.map Dt.i)):= .l (SqL.of h) (z1U ns)
theorem z7z {n:Int} (h:n.natAbs≤5000000000000000000):intBits n≤64:=intBits_le_of_natAbs (y:=5000000000000000000) h (by decide)
theorem z9O {ds:List Int} (h:∀d∈ds,0≤d∧d<2147483587) (j:Nat):0≤ds.getD j 0∧ds.getD j 0<2147483587:=by
 rw[q0c]
 cases e:ds[j]? with
 |none=>exact⟨Int.le_refl _,by decide⟩
 |some n=>exact h n (List.mem_of_getElem? e)
theorem z4I {rs:List Int}{b:Nat} (h:∀n∈rs,n.natAbs≤b) (j:Nat):(rs.getD j 0).natAbs ≤b:=by
 rw[q0c]
 cases e:rs[j]? with
 |none=>exact Nat.zero_le _
 |some n=>exact h n (List.mem_of_getElem? e)
def y4e (H:Hp) (a:Addr) (m k:Nat) (way:Int) (b:Nat):St→Hp→Prop:=fun σ H'=>∃(R:Addr) (rs:List Int) (s5 s6:Option V),σ=[some (.ref a),some (.int (m:Nat)),some (.int (k:Nat)),some (.int way),some (.ref R),s5,s6]∧H R=none∧H' R=some (.lst (rs.map V.int))∧rs.length=m+1∧(∀n∈rs,n.natAbs≤b)∧Same H H'
theorem z6c {H H':Hp}{a R:Addr}{m k b j:Nat}{way z:Int}{rs:List Int}{s5 s6:Option V} (hR:H R=none) (hl:rs.length=m+1) (hb:∀n∈rs,n.natAbs≤b) (g:Same H H') (hz:z.natAbs≤b):
 y4e H a m k way b [some (.ref a),some (.int (m:Nat)),some (.int (k:Nat)),some (.int way),some (.ref R),s5,s6] (upd H' R (.lst ((rs.map V.int).set j (.int z)))):=
 ⟨R,rs.set j z,s5,s6,rfl,hR,by rw[z0b,List.map_set],by rw[List.length_set];exact hl,fun n hn=>by
   rcases List.mem_or_eq_of_mem_set hn with hn|rfl
   ·exact hb n hn
   ·exact hz,fun c o e=>by rw[z0h (z0f e hR)];exact g _ _ e⟩
def RB (m:Nat) (rs:List Int):Prop:=(∀n∈rs,n.natAbs≤4000000000000000000)∧∀j,j<m→(v rs j).natAbs ≤4000000000
theorem RB.of {m:Nat}{rs:List Int} (h:∀n∈rs,n.natAbs≤3):RB m rs:=⟨fun n hn=>q0q (h n hn) (by decide),fun j _=>q0q (z4I h j) (by decide)⟩
theorem v_set {rs:List Int}{i j:Nat}{z:Int}:v (rs.set i z) j=z∨v (rs.set i z) j=v rs j:=by
 show (rs.set i z).getD j 0=z∨(rs.set i z).getD j 0=rs.getD j 0
 rw[q0c,q0c,List.getElem?_set]
 by_cases h:i=j
 ·rw[if_pos h]
  by_cases h2:i<rs.length
  ·rw[if_pos h2];exact .inl rfl
  ·rw[if_neg h2,q1m (by lia)];exact .inr rfl
 ·rw[if_neg h];exact .inr rfl
theorem y0n {rs:List Int}{i j:Nat}{z:Int} (h:i≠j):v (rs.set i z) j=v rs j:=by
 show (rs.set i z).getD j 0=rs.getD j 0
 rw[q0c,q0c,List.getElem?_set_ne h]
theorem RB.set {m i:Nat}{rs:List Int}{z:Int} (h:RB m rs) (hz:z.natAbs≤4000000000):RB m (rs.set i z):=⟨fun n hn=>by
 rcases List.mem_or_eq_of_mem_set hn with hn|rfl
 ·exact h.1 n hn
 ·exact q0q hz (by decide),fun j hj=>by
 rcases v_set (rs:=rs) (i:=i) (j:=j) (z:=z) with e|e
 ·rw[e];exact hz
 ·rw[e];exact h.2 j hj⟩
theorem RB.last {m:Nat}{rs:List Int}{z:Int} (h:RB m rs) (hz:z.natAbs≤4000000000000000000):RB m (rs.set m z):=⟨fun n hn=>by
 rcases List.mem_or_eq_of_mem_set hn with hn|rfl
 ·exact h.1 n hn
 ·exact hz,fun j hj=>by rw[y0n (by lia)];exact h.2 j hj⟩
def RowJ (H:Hp) (a:Addr) (m k:Nat) (way:Int):St→Hp→Prop:=fun σ H'=>∃(R:Addr) (rs:List Int) (s5 s6:Option V),σ=[some (.ref a),some (.int (m:Nat)),some (.int (k:Nat)),some (.int way),some (.ref R),s5,s6]∧H R=none∧H' R=some (.lst (rs.map V.int))∧rs.length=m+1∧RB m rs∧Same H H'
theorem y0I {Hx:Hp}{z1 z2 z3:Addr}{z:Int} (h0:0≤z) (h1:z<3) (e1:Hx z1=some (.lst [V.int 1,V.int 0,V.int 0,V.int 2])) (e2:Hx z2=some (.lst [V.int 0,V.int 1,V.int 1,V.int (-1)])) (e3:Hx z3=some (.lst [V.int 1,V.int 1,V.int 0,V.int 0])):
 ∃(y:Addr) (cs:List Int),atI [V.ref z1,V.ref z2,V.ref z3] z=some (.ref y)∧Hx y=some (.lst (cs.map V.int))∧cs.length=4∧∀n∈cs,n.natAbs≤3:=by
 rcases (by lia:z=0∨z=1∨z=2) with rfl|rfl|rfl
 ·exact⟨z1,[1,0,0,2],rfl,e1,rfl,by decide⟩
 ·exact⟨z2,[0,1,1,-1],rfl,e2,rfl,by decide⟩
 ·exact⟨z3,[1,1,0,0],rfl,e3,rfl,by decide⟩
abbrev z5W:Stmt:=top 25
theorem sc_l_row:z0x ["_law_draws_here","_law_ways","_law_k","_law_way","_law_row_here","_law_j","_law_at"] ["_law_draws_here","_law_ways","_law_k","_law_way"] (z0n z5W):=⟨rfl,rfl,rfl,by decide+kernel,rfl,by decide+kernel,by decide+kernel⟩
def y2Z (K:PySem.W.Frag):Sp:=fun vs H Q _=>∃(a:Addr) (ds:List Int) (m k:Nat) (way:Int),vs=[.ref a,.int (m:Nat),.int (k:Nat),.int way]∧H a=some (.lst (ds.map V.int))∧ds.length=60∧(∀d∈ds,0≤d∧d<2147483587)∧1≤m∧m≤4∧k≤6∧
 ∀(t:Addr) (rs:List Int) (H':Hp),Same H H'→H' t=some (.tup ((z0j rs).map V.int))→rs.length=m+1→(∃j,j<m∧v rs j≠0)→((∀n∈rs,intBits n≤64)∧∀j,j<m→intBits (v rs j)≤32)→Q (.ref t) H'
theorem y0S (T:Txt mg) (F:Fun K "_law_row" "_law_row" z5W f fd) (c_l_plain:Cal P w K mg base 2 "_law_plain" ["_law_row_here"] (z5R K)):FnOk P w K mg base CX0 3 f fd ["_law_draws_here","_law_ways","_law_k","_law_way"] (y2Z K):=by
 refine F.ok sc_l_row (fun vs H Q E h=>?_) (fun cdv A outer s H vs Q E hr h=>?_)
 ·obtain⟨_,_,_,_,_,rfl,_⟩:=h;rfl
 obtain⟨a,ds,m,k,way,rfl,ha,dl,db,m1,m4,k6,q⟩:=h
 apply Exists.intro
 apply And.intro
 ·apply z0c
  ·exact (z0p (i:=4) sc_l_row.nd rfl (Or.inl rfl) (z0H z0e))
  apply z0c
  ·exact (z0W PassesOwn.never rfl (z1a rfl T.range (z0a (z0w z1G (pv 1) z0g) z0e)) (z0k (i:=5) sc_l_row.nd rfl (Or.inl rfl)) (z0i (z1C (z6e PySem.F.plainAttrs_list PySem.F.slot_list_append PySem.F.type_list_append z1b (pv 4) (z0a (z0w z1Z (z0w z0N (z0G (z0q (K:=K) rfl) (pv 0) (z0w z1G (z0w z1G z0g (z0w z1p z0g (pv 2))) (pv 5)) (fun _ _=>rfl)) z0g) z0g) z0e)))))
  apply z0c
  ·exact (z0O (z0s z3O (pv 3) z0g (z0C _)) (z0i (z2K z0g (z4e (pv 4) (pv 1) z1S))) z0v)
  apply z0c
  ·apply (z0O (z0s z3O (pv 3) z0g (z0C _)) (z0i (z0p (i:=4) sc_l_row.nd rfl (Or.inl rfl) (z0w z3u (z2k (z4r (K:=K) rfl) (z0G (z0q (K:=K) rfl) ?l (z0w z0N (z0G (z0q (K:=K) rfl) (pv 4) z0g (fun _ _=>rfl)) z0g) (fun _ _=>rfl)) z3s (z3r (pv 1))) (z0H (z0a (z0G (z0q (K:=K) rfl) (pv 4) (pv 1) (fun _ _=>rfl)) z0e))))) z0v)
   case l=>exact (z0H (z0a (z0H (z0a z0g (z0a z0g (z0a z0g (z0a z0g z0e))))) (z0a (z0H (z0a z0g (z0a z0g (z0a z0g (z0a (z7I z3T z0g) z0e))))) (z0a (z0H (z0a z0g (z0a z0g (z0a z0g (z0a z0g z0e))))) z0e))))
  apply z0c
  ·exact (z0O (PW.pt (y3j (z0s z3O (pv 3) z0g (z0C _)) (y2i (z0s y0P (pv 1) z0g (z0C _))))) (z0c (z0p (i:=6) sc_l_row.nd rfl (Or.inl rfl) (z0w z0N (z0G (z0q (K:=K) rfl) (pv 4) z0g (fun _ _=>rfl)) (pv 1)))
  (z0c (z0p (i:=4) sc_l_row.nd rfl (Or.inl rfl) (z0w z3u (z0w y3u (z0H (z0a z0g z0e)) (pv 1)) (z0H (z0a (z0w z1Z (z0w z0N (z0G (z0q (K:=K) rfl) (pv 4) (pv 1) (fun _ _=>rfl)) z0g) z0g) z0e))))
  (z0c (z2K z0g (z4e (pv 4) (pv 6) z1S))
  (z0i (z2K (z7I z3T z0g) (z4e (pv 4) (z0w z0N (z0w z1G (z0w z1G (pv 6) z0g) (z0w z0N (z0w z4D (z0G (z0q (K:=K) rfl) (pv 0) (z0w z1G z0g (z0w z1p z0g (pv 2))) (fun _ _=>rfl)) z0g) (z0w z1Z (pv 1) z0g))) (pv 1)) z1S)))))) z0v)
  apply z0c
  ·exact (z0O (z0s z3O (pv 3) z0g (z0C _)) (z0c (z2K (z0w z1G (z0w z1p (z0G (z0q (K:=K) rfl) (pv 4) (pv 1) (fun _ _=>rfl)) (z9c (v:=1000000000000000000) (by decide+kernel) z0g z0g)) (z0G (z0q (K:=K) rfl) (pv 0) (pv 2) (fun _ _=>rfl))) (z4e (pv 4) (pv 1) z1S))
  (z0i (z2K (z0w z1G (z0w z1p (z0G (z0q (K:=K) rfl) (pv 4) z0g (fun _ _=>rfl)) (z9c (v:=1000000000) (by decide+kernel) z0g z0g)) z0g) (z4e (pv 4) z0g z1S)))) z0v)
  apply z0c
  ·exact (z0O (z0s z3O (pv 3) z0g (z0C _)) (z0i (z2x (jj:=4) rfl sc_l_row.nd rfl (Or.inl rfl) (Or.inl rfl) (Nc:=["_law_number"]) (fr:=[none]) rfl (z0A (K:=K) rfl (pv 4)) rfl (by decide) rfl (by decide) rfl trivial trivial (fun _ _ _ _=>(z0k (i:=0) (show List.Nodup (["_law_number"]:List Str) from by decide) rfl (Or.inl rfl))) (fun _ _ _ _=>z0U) (fun _ _ _ _=>(z0w z1Z (z0w z0N (pv 0) z0g) z0g)))) z0v)
  apply z0c
  ·exact (z0O (z0s (z9g (K:=K) rfl hr.units) (z0J (Nc:=["_law_number"]) (fr:=[none]) rfl (z0A (K:=K) rfl (z2k (z4r (K:=K) rfl) (pv 4) z3s (z3r (pv 1)))) rfl (by decide) rfl (by decide) rfl trivial trivial (fun _ _ _ _=>(z0k (i:=0) (show List.Nodup (["_law_number"]:List Str) from by decide) rfl (Or.inl rfl))) (fun _ _ _ _=>(z1o (z0s z4C (pv 0) z0g (z0C _)))) (fun _ _ _ _=>(pv 0))) (z0H z0e) (z0C _)) (z0i (z2K z0g (z4e (pv 4) (z0w z1Z (pv 1) z0g) z1S))) z0v)
  apply z0i
  ·exact (z0y (z0B c_l_plain hr rfl (z0a (pv 4) z0e)))
 have zs:∀z:Int,-1000≤z→z≤1000→intBits z≤64:=fun z h1 h2=>z7o (by lia) (by lia)
 refine z0o (fun σ H'=>∃R0:Addr,σ=[some (.ref a),some (.int (m:Nat)),some (.int (k:Nat)),some (.int way),some (.ref R0),none,none]∧H R0=none∧H' R0=some (.lst (([]:List Int).map V.int))∧Same H H') (fun N hN=>?_) ?_
 ·exact⟨q0A _,fun R0 hR0=>hN _ _ ⟨R0,rfl,hR0,z0b,z0d hR0 _⟩⟩
 rintro σ H0 ⟨R0,rfl,hR0,e0,g0⟩
 refine z0o (y4e H a m k way 3) (fun N hN=>?_) ?_
 ·refine⟨_,rfl,_,_,rfl,rfl,_,rfl,by lia,by lia,?_⟩
  rw[show ((m:Int)+1).toNat =m+1 by lia]
  refine z0D (z0R 0 (m+1)) (fun i σ H'=>∃(rs:List Int) (s5:Option V),σ=[some (.ref a),some (.int (m:Nat)),some (.int (k:Nat)),some (.int way),some (.ref R0),s5,none]∧H' R0=some (.lst (rs.map V.int))∧rs.length=i∧(∀n∈rs,n.natAbs≤3)∧Same H H') ⟨[],_,rfl,e0,rfl,by simp,g0⟩ (fun _ _ _ _ _=>trivial) ?_ ?_
  ·clear e0
   rintro i x σ H1 H2 hi ⟨rs,s5,rfl,e,el,eb,g⟩ ⟨rfl,rfl⟩
   have hz:(rs.map V.int).length <sizeLine:=z1E (by rw[q0a,el];lia)
   refine⟨_,rfl,.inl ⟨rfl,_,SqL.of e⟩,_,rfl,_,rfl,_,_,rfl,rfl,z3w (zs _ (by lia) (by lia)) (zs _ (by lia) (by lia)),_,_,rfl,rfl,_,rfl,_,_,rfl,rfl,a,_,_,_,rfl,rfl,SqL.of (g _ _ ha),z1s (by lia) (by lia),_,_,rfl,rfl,cm,_,_,rfl,rfl,R0,_,_,rfl,rfl,e,hz,?_⟩
   dsimp only
   generalize ds.getD (16+5*(k:Int)+(0+(i:Int))).toNat 0=d
   refine⟨rs++[d%7 - 3],_,rfl,by rw[z0b,q0m];rfl,by simp[el],fun n hn=>?_,fun b u e=>by rw[z0h (z0f e hR0)];exact g _ _ e⟩
   rcases q0r.mp hn with hn|hn
   ·exact eb n hn
   ·rw[q0g.mp hn];lia
  ·rintro σ H1 ⟨rs,s5,rfl,e,el,eb,g⟩
   exact hN _ _ ⟨R0,rs,_,_,rfl,hR0,e,el,eb,g⟩
 clear e0 g0
 rintro σ H1 ⟨R,rs,s5,s6,rfl,hR,e,el,eb,g⟩
 refine z0o (y4e H a m k way 3) (fun N hN=>?_) ?_
 ·refine⟨_,rfl,rfl,_,rfl,?_⟩
  refine z5z (fun c=>?_) (fun c=>?_)
  ·refine⟨_,rfl,_,rfl,R,_,_,m,rfl,rfl,e,z2C (by rw[q0a];lia),?_⟩
   exact hN _ _ (z6c hR el eb g (by decide))
  ·exact hN _ _ ⟨R,rs,_,_,rfl,hR,e,el,eb,g⟩
 clear e el eb g hR
 rintro σ H1 ⟨R,rs,s5,s6,rfl,hR,e,el,eb,g⟩
 refine z0o (y4e H a m k way 3) (fun N hN=>?_) ?_
 ·refine⟨_,rfl,rfl,_,rfl,?_⟩
  refine z5z (fun c=>?_) (fun c=>?_)
  ·refine⟨z0l (by show 4≤_;decide),fun z1 hz1=>⟨_,rfl,z0l (by show 4≤_;decide),fun z2 hz2=>⟨z0l (by show 4≤_;decide),fun z3 hz3=>⟨z0l (by show 3≤_;decide),fun z4 hz4=>?_⟩⟩⟩⟩
   have g1:=z0d hz1 (.lst [V.int 1,V.int 0,V.int 0,V.int 2])
   have e1:upd H1 z1 (.lst [V.int 1,V.int 0,V.int 0,V.int 2]) z1=some (.lst [V.int 1,V.int 0,V.int 0,V.int 2]):=z0b
   generalize upd H1 z1 (.lst [V.int 1,V.int 0,V.int 0,V.int 2])=H2 at*
   have g2:=z0d hz2 (.lst [V.int 0,V.int 1,V.int 1,V.int (-1)])
   have e2:upd H2 z2 (.lst [V.int 0,V.int 1,V.int 1,V.int (-1)]) z2=some (.lst [V.int 0,V.int 1,V.int 1,V.int (-1)]):=z0b
   generalize upd H2 z2 (.lst [V.int 0,V.int 1,V.int 1,V.int (-1)])=H3 at*
   have g3:=z0d hz3 (.lst [V.int 1,V.int 1,V.int 0,V.int 0])
   have e3:upd H3 z3 (.lst [V.int 1,V.int 1,V.int 0,V.int 0]) z3=some (.lst [V.int 1,V.int 1,V.int 0,V.int 0]):=z0b
   generalize upd H3 z3 (.lst [V.int 1,V.int 1,V.int 0,V.int 0])=H4 at*
   have g4:=z0d hz4 (.lst [V.ref z1,V.ref z2,V.ref z3])
   have e4:upd H4 z4 (.lst [V.ref z1,V.ref z2,V.ref z3]) z4=some (.lst [V.ref z1,V.ref z2,V.ref z3]):=z0b
   generalize upd H4 z4 (.lst [V.ref z1,V.ref z2,V.ref z3])=H5 at*
   have g15:=g1.trans (g2.trans (g3.trans g4))
   have e5:=g15 _ _ e
   refine⟨_,rfl,R,_,_,_,rfl,rfl,SqL.of e5,z1s (by decide) (by lia),_,_,rfl,rfl,cm,?_⟩
   obtain⟨y,cs,hy,ey,cl,cb⟩:=y0I (z:=rs.getD (0:Int).toNat 0%3) (by lia) (by lia) ((g2.trans (g3.trans g4)) _ _ e1) ((g3.trans g4) _ _ e2) (g4 _ _ e3)
   refine⟨z4,_,_,_,rfl,rfl,SqL.of e4,hy,_,rfl,_,rfl,y,_,rfl,SqL.of ey,fun s1 hs1=>?_⟩
   rw[y0c (by lia) (by rw[q0a,cl];lia),q0G,←List.map_take]
   have g6:=z0d hs1 (.lst ((cs.take m).map V.int))
   have e6:upd H5 s1 (.lst ((cs.take m).map V.int)) s1=some (.lst ((cs.take m).map V.int)):=z0b
   generalize upd H5 s1 (.lst ((cs.take m).map V.int))=H6 at*
   refine⟨_,rfl,_,rfl,R,_,_,_,rfl,rfl,SqL.of (g6 _ _ e5),z1s (by lia) (by lia),z0l (by show 1≤_;decide),fun s2 hs2=>?_⟩
   have lw:=z4I eb (m:Int).toNat
   generalize rs.getD (m:Int).toNat 0=lst at*
   have g7:=z0d hs2 (.lst [V.int lst])
   have e7:upd H6 s2 (.lst [V.int lst]) s2=some (.lst [V.int lst]):=z0b
   generalize upd H6 s2 (.lst [V.int lst])=H7 at*
   refine⟨s1,s2,_,_,rfl,rfl,g7 _ _ e6,e7,z0l (by rw[q0a,q0O,cl];show min m 4+1≤_;lia),fun R2 hR2=>?_⟩
   have g17:Same H1 H7:=g15.trans (g6.trans g7)
   refine hN _ _ ⟨R2,cs.take m++[lst],_,_,rfl,(g.trans g17).free hR2,by rw[z0b,q0m];rfl,by rw[q0x,q0O,cl];show min m 4+1=_;lia,fun n hn=>?_,g.trans (g17.trans (z0d hR2 _))⟩
   rcases q0r.mp hn with hn|hn
   ·exact cb n (List.mem_of_mem_take hn)
   ·rw[q0g.mp hn];exact lw
  ·exact hN _ _ ⟨R,rs,_,_,rfl,hR,e,el,eb,g⟩
 clear e el eb g hR
 rintro σ H1 ⟨R,rs,s5,s6,rfl,hR,e,el,eb,g⟩
 refine z0o (y4e H a m k way 3) (fun N hN=>?_) ?_
 ·refine⟨_,rfl,rfl,_,rfl,?_⟩
  refine z5z (fun c=>?_) (fun c=>?_)
  ·refine⟨_,rfl,_,_,rfl,rfl,_,rfl,?_⟩
   refine z5z (fun c2=>?_) (fun c2=>?_)
   ·have m2:1<(m:Int):=of_decide_eq_true c2
    refine z0o (fun σ H'=>∃(at_:Nat),σ=[some (.ref a),some (.int (m:Nat)),some (.int (k:Nat)),some (.int way),some (.ref R),s5,some (.int (at_:Nat))]∧H1=H'∧at_<m) (fun N' hN'=>?_) ?_
    ·refine⟨_,rfl,R,_,_,_,rfl,rfl,SqL.of e,z1s (by decide) (by lia),_,rfl,_,_,rfl,rfl,(show (0:Int)<(m:Int) by lia),?_⟩
     have h0:=Int.emod_nonneg (rs.getD (0:Int).toNat 0) (show (m:Int)≠0 by lia)
     have h1:=Int.emod_lt_of_pos (rs.getD (0:Int).toNat 0) (show (0:Int)<(m:Int) by lia)
     exact hN' _ _ ⟨(rs.getD (0:Int).toNat 0%(m:Int)).toNat,by rw[Int.toNat_of_nonneg h0];rfl,rfl,by lia⟩
    rintro σ H2 ⟨at_,rfl,rfl,atm⟩
    refine z0o (fun σ H'=>∃(R2:Addr) (rs2:List Int),σ=[some (.ref a),some (.int (m:Nat)),some (.int (k:Nat)),some (.int way),some (.ref R2),s5,some (.int (at_:Nat))]∧H R2=none∧H' R2=some (.lst (rs2.map V.int))∧rs2.length=m+1∧(∀n∈rs2,n.natAbs≤3)∧Same H H') (fun N' hN'=>?_) ?_
    ·refine⟨z0l (by show 1≤_;decide),fun z hz=>?_⟩
     have g0:=z0d hz (.lst [V.int 0])
     have e0:upd H1 z (.lst [V.int 0]) z=some (.lst [V.int 0]):=z0b
     generalize upd H1 z (.lst [V.int 0])=H2 at*
     refine⟨_,rfl,z,_,_,rfl,rfl,e0,by lia,by lia,z0l (by rw[q0G];show 1*m≤_;lia),fun z1 hz1=>?_⟩
     rw[q0G,z8c]
     have g1:=z0d hz1 (.lst ((List.replicate m (0:Int)).map V.int))
     have e1:upd H2 z1 (.lst ((List.replicate m (0:Int)).map V.int)) z1=some (.lst ((List.replicate m (0:Int)).map V.int)):=z0b
     generalize upd H2 z1 (.lst ((List.replicate m (0:Int)).map V.int))=H3 at*
     refine⟨_,rfl,_,rfl,R,_,_,_,rfl,rfl,SqL.of ((g0.trans g1) _ _ e),z1s (by lia) (by lia),_,_,rfl,rfl,cm,_,_,rfl,rfl,z0l (by show 1≤_;decide),fun z2 hz2=>?_⟩
     dsimp only
     have lw:(rs.getD (m:Int).toNat 0%3 - 1).natAbs ≤3:=by lia
     generalize rs.getD (m:Int).toNat 0%3 - 1=lst at*
     have g2:=z0d hz2 (.lst [V.int lst])
     have e2:upd H3 z2 (.lst [V.int lst]) z2=some (.lst [V.int lst]):=z0b
     generalize upd H3 z2 (.lst [V.int lst])=H4 at*
     refine⟨z1,z2,_,_,rfl,rfl,g2 _ _ e1,e2,z0l (by rw[q0a,List.length_replicate];show m+1≤_;lia),fun R2 hR2=>?_⟩
     have g14:Same H H4:=g.trans (g0.trans (g1.trans g2))
     refine hN' _ _ ⟨R2,List.replicate m 0++[lst],rfl,g14.free hR2,by rw[z0b,q0m];rfl,by simp,fun n hn=>?_,g14.trans (z0d hR2 _)⟩
     rcases q0r.mp hn with hn|hn
     ·rw[(List.mem_replicate.mp hn).2];decide
     ·rw[q0g.mp hn];exact lw
    rintro σ H2 ⟨R2,rs2,rfl,hR2,e2,el2,eb2,g2⟩
    refine z0o (fun σ H'=>∃(rs2:List Int),σ=[some (.ref a),some (.int (m:Nat)),some (.int (k:Nat)),some (.int way),some (.ref R2),s5,some (.int (at_:Nat))]∧H' R2=some (.lst (rs2.map V.int))∧rs2.length=m+1∧(∀n∈rs2,n.natAbs≤3)∧Same H H') (fun N' hN'=>?_) ?_
    ·refine⟨_,rfl,_,rfl,R2,_,_,at_,rfl,rfl,e2,z2C (by rw[q0a];lia),?_⟩
     obtain⟨_,rs3,_,_,e,_,h1,h2,h3,h4⟩:=z6c (a:=a) (k:=k) (way:=way) (j:=at_) (z:=1) (s5:=none) (s6:=none) hR2 el2 eb2 g2 (by decide)
     injection e with _ e;injection e with _ e;injection e with _ e;injection e with _ e;injection e with e _;injection e with e;injection e with e;subst e
     exact hN' _ _ ⟨rs3,rfl,h1,h2,h3,h4⟩
    rintro σ H3 ⟨rs3,rfl,e3,el3,eb3,g3⟩
    have dn:=z9O db (16+5*(k:Int)).toNat
    refine⟨_,rfl,_,rfl,_,rfl,_,_,rfl,rfl,_,rfl,_,rfl,_,_,rfl,rfl,z3w (zs _ (by lia) (by lia)) (zs _ (by lia) (by lia)),_,_,rfl,rfl,a,_,_,_,rfl,rfl,SqL.of (g3 _ _ ha),z1s (by lia) (by lia),_,_,rfl,rfl,cf,_,rfl,_,_,rfl,rfl,_,_,rfl,rfl,(show (0:Int)<(m:Int) - 1 by lia),_,_,rfl,rfl,_,rfl,_,_,rfl,rfl,(show (0:Int)<(m:Int) by lia),?_⟩
    dsimp only
    obtain⟨j,ej,hj⟩:∃j:Nat,((at_:Int)+1+ds.getD (16+5*(k:Int)).toNat 0/7%((m:Int) - 1))%(m:Int)=(j:Nat)∧j<m:=by
     have h0:=Int.emod_nonneg ((at_:Int)+1+ds.getD (16+5*(k:Int)).toNat 0/7%((m:Int) - 1)) (show (m:Int)≠0 by lia)
     have h1:=Int.emod_lt_of_pos ((at_:Int)+1+ds.getD (16+5*(k:Int)).toNat 0/7%((m:Int) - 1)) (show (0:Int)<(m:Int) by lia)
     exact⟨_,(Int.toNat_of_nonneg h0).symm,by lia⟩
    rw[ej]
    refine⟨R2,_,_,j,rfl,rfl,e3,z2C (by rw[q0a];lia),?_⟩
    exact hN _ _ (z6c hR2 el3 eb3 g3 (by decide))
   ·exact hN _ _ ⟨R,rs,_,_,rfl,hR,e,el,eb,g⟩
  ·exact z1X (hN _ _ ⟨R,rs,_,_,rfl,hR,e,el,eb,g⟩)
 clear e el eb g hR
 rintro σ H1 ⟨R,rs,s5,s6,rfl,hR,e,el,eb,g⟩
 refine z0o (RowJ H a m k way) (fun N hN=>?_) ?_
 ·refine⟨_,rfl,rfl,_,rfl,?_⟩
  refine z5z (fun c=>?_) (fun c=>?_)
  ·have lw:=z4I eb (m:Int).toNat
   have dk:=z9O db (k:Int).toNat
   refine z0o (fun σ H'=>∃(rs2:List Int),σ=[some (.ref a),some (.int (m:Nat)),some (.int (k:Nat)),some (.int way),some (.ref R),s5,s6]∧H' R=some (.lst (rs2.map V.int))∧rs2.length=m+1∧(rs2.getD 0 0).natAbs ≤3∧RB m rs2∧Same H H') (fun N' hN'=>?_) ?_
   ·refine⟨_,rfl,_,rfl,R,_,_,_,rfl,rfl,SqL.of e,z1s (by lia) (by lia),_,_,rfl,rfl,z3w (m:=64) (n:=64) (zs _ (by lia) (by lia)) (by decide),_,rfl,_,rfl,a,_,_,_,rfl,rfl,SqL.of (g _ _ ha),z1s (by lia) (by lia),_,_,rfl,rfl,?_⟩
    refine⟨_,rfl,_,rfl,R,_,_,m,rfl,rfl,e,z2C (by rw[q0a];lia),?_⟩
    dsimp only
    generalize rs.getD (m:Int).toNat 0=x at*
    generalize ds.getD (k:Int).toNat 0=y at*
    refine hN' _ _ ⟨rs.set m (x*1000000000000000000+y),rfl,by rw[z0b,List.map_set],by rw[List.length_set];exact el,?_,(RB.of eb).last (by lia),fun c o e'=>by rw[z0h (z0f e' hR)];exact g _ _ e'⟩
    ·have h0:=z4I eb 0
     rw[q0c] at h0 ⊢
     rw[List.getElem?_set_ne (by lia)]
     exact h0
   rintro σ H2 ⟨rs2,rfl,e2,el2,eb0,eb2,g2⟩
   have h0:(rs2.getD (0:Int).toNat 0).natAbs ≤3:=eb0
   refine⟨_,rfl,R,_,_,_,rfl,rfl,SqL.of e2,z1s (by decide) (by lia),_,_,rfl,rfl,z3w (m:=64) (n:=64) (zs _ (by lia) (by lia)) (by decide),_,_,rfl,rfl,_,rfl,R,_,_,0,rfl,rfl,e2,z2C (k:=0) (by rw[q0a];lia),?_⟩
   exact hN _ _ ⟨R,_,_,_,rfl,hR,by rw[z0b,←List.map_set],by rw[List.length_set];exact el2,eb2.set (by show (rs2.getD (0:Int).toNat 0*1000000000+1).natAbs ≤_;lia),fun c o e'=>by rw[z0h (z0f e' hR)];exact g2 _ _ e'⟩
  ·exact hN _ _ ⟨R,rs,_,_,rfl,hR,e,el,RB.of eb,g⟩
 clear e el eb g hR
 rintro σ H1 ⟨R,rs,s5,s6,rfl,hR,e,el,eb,g⟩
 refine z0o (RowJ H a m k way) (fun N hN=>?_) ?_
 ·refine⟨_,rfl,rfl,_,rfl,?_⟩
  refine z5z (fun c=>?_) (fun c=>?_)
  ·refine⟨_,rfl,R,rfl,⟨_,SqL.of e⟩,fun D hD=>?_⟩
   refine z1e rfl (z0r K R (rs.map V.int)) hD (fun _=>true) (fun v=>match v with| .int n=> .int (n%3 - 1)|u=>u) (fun H' g'=>SqL.of (g' _ _ e)) (z0l (by rw[q0a];lia)) ?_ ?_ ?_
   ·intro x _ Hc _ S h
    exact h
   ·intro x hx _ Hc _ S h
    obtain⟨n,_,rfl⟩:=q0e.mp hx
    exact⟨_,rfl,_,_,rfl,rfl,cm,_,_,rfl,rfl,h⟩
   ·rw[z0F,q0w]
    have em:rs.map ((fun v=>match v with| .int n=>V.int (n%3 - 1)|u=>u)∘V.int)=(rs.map fun n=>n%3 - 1).map V.int:=by rw[q0w];rfl
    rw[em]
    refine hN _ _ ⟨D,rs.map fun n=>n%3 - 1,_,_,rfl,g.free hD,z0b,by rw[q0a];exact el,RB.of fun n hn=>?_,g.trans (z0d hD _)⟩
    obtain⟨y,_,rfl⟩:=q0e.mp hn
    lia
  ·exact hN _ _ ⟨R,rs,_,_,rfl,hR,e,el,eb,g⟩
 clear e el eb g hR
 rintro σ H1 ⟨R,rs,s5,s6,rfl,hR,e,el,eb,g⟩
 refine z0o (fun σ H'=>∃(R:Addr) (rs:List Int) (s5 s6:Option V),σ=[some (.ref a),some (.int (m:Nat)),some (.int (k:Nat)),some (.int way),some (.ref R),s5,s6]∧H' R=some (.lst (rs.map V.int))∧rs.length=m+1∧RB m rs∧(∃j,j<m∧v rs j≠0)∧Same H H') (fun N hN=>?_) ?_
 ·refine⟨_,rfl,_,rfl,_,rfl,R,_,rfl,SqL.of e,fun p1 hp1=>?_⟩
  rw[y0c (by lia) (by rw[q0a];lia),q0G,←List.map_take]
  have g1:=z0d hp1 (.lst ((rs.take m).map V.int))
  have e1:upd H1 p1 (.lst ((rs.take m).map V.int)) p1=some (.lst ((rs.take m).map V.int)):=z0b
  generalize upd H1 p1 (.lst ((rs.take m).map V.int))=H2 at*
  refine⟨p1,rfl,⟨_,SqL.of e1⟩,fun D hD=>?_⟩
  refine z1e rfl (z0r K p1 ((rs.take m).map V.int)) hD (fun v=>match v with| .int n=> !decide (V.int n=V.int 0)|_=>false) (fun v=>v) (fun H' g'=>SqL.of (g' _ _ e1)) (z0l (by rw[q0a,q0O];lia)) ?_ ?_ ?_
  ·intro x hx Hc gc S h
   obtain⟨n,_,rfl⟩:=q0e.mp hx
   exact⟨_,rfl,rfl,_,rfl,h⟩
  ·intro x hx _ Hc gc S h
   exact⟨_,rfl,h⟩
  have em:(((rs.take m).map V.int).filter fun v=>match v with| .int n=> !decide (V.int n=V.int 0)|_=>false).map (fun v=>v)=((rs.take m).filter (· != 0)).map V.int:=by
   rw[List.map_id',List.filter_map]
   congr 1
   refine List.filter_congr fun n _=>?_
   show (!decide (V.int n=V.int 0))=(n != 0)
   by_cases h:n=0
   ·subst h;rfl
   ·rw[decide_eq_false (fun z=>h (by injection z))]
    simpa using h
  rw[em]
  have g2:=z0d hD (.lst (((rs.take m).filter (· != 0)).map V.int))
  have e2:upd H2 D (.lst (((rs.take m).filter (· != 0)).map V.int)) D=some (.lst (((rs.take m).filter (· != 0)).map V.int)):=z0b
  generalize upd H2 D (.lst (((rs.take m).filter (· != 0)).map V.int))=H3 at*
  refine⟨q0A _,fun z hz=>?_⟩
  have g3:=z0d hz (.lst [])
  have e3:upd H3 z (.lst []) z=some (.lst (([]:List Int).map V.int)):=z0b
  generalize upd H3 z (.lst [])=H4 at*
  refine⟨D,z,_,_,rfl,rfl,y3P (g3 _ _ e2),y3P e3,z1j 8 _ _,_,rfl,?_⟩
  have g14:=g1.trans (g2.trans g3)
  have eR:=g14 _ _ e
  refine z5z (fun c=>?_) (fun c=>?_)
  ·refine⟨_,rfl,_,rfl,_,_,rfl,rfl,R,_,_,m - 1,rfl,rfl,eR,?_,?_⟩
   ·rw[show (m:Int) - 1=((m - 1:Nat):Int) by lia]
    exact z2C (by rw[q0a];lia)
   refine hN _ _ ⟨R,rs.set (m - 1) 1,_,_,rfl,by rw[z0b,List.map_set],by rw[List.length_set];exact el,eb.set (by decide),⟨m - 1,by lia,?_⟩,fun c o e'=>by rw[z0h (z0f e' hR)];exact (g.trans g14) _ _ e'⟩
   ·show (rs.set (m - 1) 1).getD (m - 1) 0≠0
    rw[q0c,List.getElem?_set_self (by lia)]
    decide
  ·refine hN _ _ ⟨R,rs,_,_,rfl,eR,el,eb,?_,g.trans g14⟩
   have hne:(rs.take m).filter (· != 0)≠[]:=fun z=>c (by rw[z];rfl)
   obtain⟨n,hn⟩:=List.exists_mem_of_ne_nil _ hne
   obtain⟨h1,h2⟩:=q1d.mp hn
   obtain⟨j,hj⟩:=List.mem_iff_getElem?.mp h1
   have hjm:j<m:=by
        have:=(q0E.mp hj).1
        rw[q0O] at this;lia
   rw[List.getElem?_take_of_lt hjm] at hj
   refine⟨j,hjm,?_⟩
   show rs.getD j 0≠0
   rw[q0c,hj]
   simpa using h2
 clear e el eb g hR
 rintro σ H1 ⟨R,rs,s5,s6,rfl,e,el,eb,⟨j,hj,hn⟩,g⟩
 have nz:∃n∈rs,n≠0:=by
  have h':rs.getD j 0≠0:=hn
  rw[q0c,q0b (by lia)] at h'
  exact⟨rs[j]'(by lia),q0F _,h'⟩
 have bb:∀n∈rs,intBits n≤64:=fun n hn=>z7z (q0q (eb.1 n hn) (by decide))
 exact⟨_,rfl,R,rs,rfl,.inl (SqL.of e),by lia,fun n hn=>q0q (bb n hn) (by decide),nz,fun t H2 g2 et=>q t rs _ (g.trans g2) et el ⟨j,hj,hn⟩ ⟨bb,fun j hj=>intBits_le_of_natAbs (y:=4000000000) (eb.2 j hj) (by decide)⟩⟩
end
end L2
namespace L2
open PySem PySem.Spec PyProof.Rows
section
open Fr Wl Rk
open Builtin.Int (intBits)
variable {P:Program}{w:World}{K:PySem.W.Frag}{mg:Str→Option Value}{base:Heap}{f:Addr}{fd:FuncData}
theorem y1e {z:Int} (h0:0≤z) (h1:z<8):∃m:Nat,atI [V.int 2,V.int 3,V.int 2,V.int 1,V.int 3,V.int 2,V.int 0,V.int 4] z=some (.int (m:Nat))∧m≤4:=by
 rcases (by lia:z=0∨z=1∨z=2∨z=3∨z=4∨z=5∨z=6∨z=7) with rfl|rfl|rfl|rfl|rfl|rfl|rfl|rfl
 ·exact⟨2,rfl,by decide⟩
 ·exact⟨3,rfl,by decide⟩
 ·exact⟨2,rfl,by decide⟩
 ·exact⟨1,rfl,by decide⟩
 ·exact⟨3,rfl,by decide⟩
 ·exact⟨2,rfl,by decide⟩
 ·exact⟨0,rfl,by decide⟩
 ·exact⟨4,rfl,by decide⟩
def wlD (m:Nat) (t:List Int):Prop:=∃rs:List Int,t=z0j rs∧rs.length=m+1∧(∃j,j<m∧v rs j≠0)∧(∀n∈rs,intBits n≤64)∧∀j,j<m→intBits (v rs j)≤32
abbrev z2w:Stmt:=top 26
theorem sc_l_fences:z0x ["_law_draws_here","_law_most","_law_ways","_law_many","_law_way","_law_found","_law_k","_law_one"] ["_law_draws_here","_law_most"] (z0n z2w):=⟨rfl,rfl,rfl,by decide+kernel,rfl,by decide+kernel,by decide+kernel⟩
def z6A (K:PySem.W.Frag):Sp:=fun vs H Q _=>∃(a:Addr) (ds:List Int) (most:Nat),vs=[.ref a,.int (most:Nat)]∧H a=some (.lst (ds.map V.int))∧ds.length=60∧(∀d∈ds,0≤d∧d<2147483587)∧most≤6∧
 ∀(tp l:Addr) (as:List Addr) (ts:List (List Int)) (m:Nat) (H':Hp),H l=none→Same H H'→H' tp=some (.tup [V.int (m:Nat),V.ref l])→H' l=some (.lst (as.map V.ref))→TsA H' as ts→m≤4→ts.length≤most→(m=4→ts.length≤5)→(m=0→ts=[])→ts.Nodup→(∀t∈ts,wlD m t)→Q (.ref tp) H'
theorem z6h (T:Txt mg) (F:Fun K "_law_fences" "_law_fences" z2w f fd) (c_l_row:Cal P w K mg base 3 "_law_row" ["_law_draws_here","_law_ways","_law_k","_law_way"] (y2Z K)):FnOk P w K mg base CX0 4 f fd ["_law_draws_here","_law_most"] (z6A K):=by
 refine F.ok sc_l_fences (fun vs H Q E h=>?_) (fun cdv A outer s H vs Q E hr h=>?_)
 ·obtain⟨_,_,_,rfl,_⟩:=h;rfl
 obtain⟨a,ds,most,rfl,ha,dl,db,m6,q⟩:=h
 refine⟨_,(z0c (z0p (i:=2) sc_l_fences.nd rfl (Or.inl rfl) (z0G (z0q (K:=K) rfl) (z0H (z0a z0g (z0a z0g (z0a z0g (z0a z0g (z0a z0g (z0a z0g (z0a z0g (z0a z0g z0e))))))))) (z0w z0N (z0G (z0q (K:=K) rfl) (pv 0) z0g (fun _ _=>rfl)) z0g) (fun _ _=>rfl)))
  (z0c (z0p (i:=3) sc_l_fences.nd rfl (Or.inl rfl) (z0w z0N (z0G (z0q (K:=K) rfl) (pv 0) z0g (fun _ _=>rfl)) (z0w z1G (pv 1) z0g)))
  (z0c (z0O (z0s z3O (pv 2) z0g (z0C _)) (z0i (z0p (i:=3) sc_l_fences.nd rfl (Or.inl rfl) z0g)) z0v)
  (z0c (z0O (z0s z3O (pv 2) z0g (z0C _)) (z0i (z0p (i:=3) sc_l_fences.nd rfl (Or.inl rfl) (z0w z0N (pv 3) z0g))) z0v)
  (z0c (z0p (i:=4) sc_l_fences.nd rfl (Or.inl rfl) (z0w z0N (z0G (z0q (K:=K) rfl) (pv 0) z0g (fun _ _=>rfl)) z0g))
  (z0c (z0p (i:=5) sc_l_fences.nd rfl (Or.inl rfl) (z0H z0e))
  (z0c (z0W PassesOwn.never rfl (z1a rfl T.range (z0a (pv 3) z0e)) (z0k (i:=6) sc_l_fences.nd rfl (Or.inl rfl)) (z0c (z0p (i:=7) sc_l_fences.nd rfl (Or.inl rfl) (z0B c_l_row hr rfl (z0a (pv 0) (z0a (pv 2) (z0a (pv 6) (z0a (pv 4) z0e))))))
  (z0i (z0O (z0s (z7J (K:=K) rfl hr.units) (pv 7) (pv 5) (by with_unfolding_all rfl)) (z0i (z1C (z6e PySem.F.plainAttrs_list PySem.F.slot_list_append PySem.F.type_list_append z1b (pv 5) (z0a (pv 7) z0e)))) z0v))))
  (z0i (z0y (z2M (z0a (pv 2) (z0a (pv 5) z0e)))))))))))),?_⟩
 refine z0o (fun σ H'=>∃m:Nat,σ=[some (.ref a),some (.int (most:Nat)),some (.int (m:Nat)),none,none,none,none,none]∧m≤4∧Same H H') (fun N hN=>?_) ?_
 ·refine⟨z0l (by show 8≤_;decide),fun z hz=>?_⟩
  have g1:=z0d hz (.lst [V.int 2,V.int 3,V.int 2,V.int 1,V.int 3,V.int 2,V.int 0,V.int 4])
  obtain⟨m,hm,m4⟩:=y1e (z:=ds.getD (0:Int).toNat 0%8) (by lia) (by lia)
  exact⟨_,rfl,a,_,_,_,rfl,rfl,SqL.of (g1 _ _ ha),z1s (by decide) (by lia),_,_,rfl,rfl,cm,z,_,_,_,rfl,rfl,SqL.of z0b,hm,hN _ _ ⟨m,rfl,m4,g1⟩⟩
 rintro σ H1 ⟨m,rfl,m4,g⟩
 refine z0o (fun σ H'=>∃n:Nat,σ=[some (.ref a),some (.int (most:Nat)),some (.int (m:Nat)),some (.int (n:Nat)),none,none,none,none]∧n≤most∧H1=H') (fun N hN=>?_) ?_
 ·refine⟨_,rfl,a,_,_,_,rfl,rfl,SqL.of (g _ _ ha),z1s (by decide) (by lia),_,rfl,_,_,rfl,rfl,_,_,rfl,rfl,(show (0:Int)<(most:Int)+1 by lia),?_⟩
  have h0:=Int.emod_nonneg (ds.getD (1:Int).toNat 0) (show (most:Int)+1≠0 by lia)
  have h1:=Int.emod_lt_of_pos (ds.getD (1:Int).toNat 0) (show (0:Int)<(most:Int)+1 by lia)
  exact hN _ _ ⟨(ds.getD (1:Int).toNat 0%((most:Int)+1)).toNat,by rw[Int.toNat_of_nonneg h0];rfl,by lia,rfl⟩
 rintro σ H2 ⟨n,rfl,nm,rfl⟩
 refine z0o (fun σ H'=>∃n:Nat,σ=[some (.ref a),some (.int (most:Nat)),some (.int (m:Nat)),some (.int (n:Nat)),none,none,none,none]∧n≤most∧(m=0→n=0)∧H1=H') (fun N hN=>?_) ?_
 ·refine⟨_,rfl,rfl,_,rfl,?_⟩
  refine z5z (fun c=>?_) (fun c=>?_)
  ·exact hN _ _ ⟨0,rfl,by lia,fun _=>rfl,rfl⟩
  ·exact hN _ _ ⟨n,rfl,nm,fun z=>absurd (decide_eq_true (by rw[z];rfl)) c,rfl⟩
 clear nm n
 rintro σ H2 ⟨n,rfl,nm,n0,rfl⟩
 refine z0o (fun σ H'=>∃n:Nat,σ=[some (.ref a),some (.int (most:Nat)),some (.int (m:Nat)),some (.int (n:Nat)),none,none,none,none]∧n≤most∧(m=0→n=0)∧(m=4→n≤5)∧H1=H') (fun N hN=>?_) ?_
 ·refine⟨_,rfl,rfl,_,rfl,?_⟩
  refine z5z (fun c=>?_) (fun c=>?_)
  ·refine⟨_,rfl,_,_,rfl,rfl,cm,?_⟩
   refine hN _ _ ⟨n%6,?_,q0q (Nat.mod_le _ _) nm,fun z=>by rw[n0 z],fun _=>by lia,rfl⟩
   show [_,_,_,some (V.int ((n:Int)%6)),_,_,_,_]=_
   rw[show (n:Int)%6=((n%6:Nat):Int) by lia]
  ·exact hN _ _ ⟨n,rfl,nm,n0,fun z=>absurd (decide_eq_true (by rw[z];rfl)) c,rfl⟩
 clear nm n0 n
 rintro σ H2 ⟨n,rfl,nm,n0,n5,rfl⟩
 refine z0o (fun σ H'=>∃wy:Int,σ=[some (.ref a),some (.int (most:Nat)),some (.int (m:Nat)),some (.int (n:Nat)),some (.int wy),none,none,none]∧H1=H') (fun N hN=>?_) ?_
 ·exact⟨_,rfl,a,_,_,_,rfl,rfl,SqL.of (g _ _ ha),z1s (by decide) (by lia),_,_,rfl,rfl,cm,hN _ _ ⟨_,rfl,rfl⟩⟩
 rintro σ H2 ⟨wy,rfl,rfl⟩
 refine z0o (fun σ H'=>∃l:Addr,σ=[some (.ref a),some (.int (most:Nat)),some (.int (m:Nat)),some (.int (n:Nat)),some (.int wy),some (.ref l),none,none]∧H l=none∧H' l=some (.lst (([]:List Addr).map V.ref))∧Same H H') (fun N hN=>?_) ?_
 ·exact⟨q0A _,fun l hl=>hN _ _ ⟨l,rfl,g.free hl,z0b,g.trans (z0d hl _)⟩⟩
 clear g
 rintro σ H2 ⟨l,rfl,hl,e0,g0⟩
 refine z0o (fun σ H'=>∃(as:List Addr) (ts:List (List Int)) (s6 s7:Option V),σ=[some (.ref a),some (.int (most:Nat)),some (.int (m:Nat)),some (.int (n:Nat)),some (.int wy),some (.ref l),s6,s7]∧H' l=some (.lst (as.map V.ref))∧TsA H' as ts∧ts.length≤n∧ts.Nodup∧(∀t∈ts,wlD m t)∧Same H H') (fun N hN=>?_) ?_
 ·refine⟨_,rfl,_,rfl,by lia,by lia,?_⟩
  rw[q0G]
  refine z0D (z0R 0 n) (fun i σ H'=>∃(as:List Addr) (ts:List (List Int)) (s6 s7:Option V),σ=[some (.ref a),some (.int (most:Nat)),some (.int (m:Nat)),some (.int (n:Nat)),some (.int wy),some (.ref l),s6,s7]∧H' l=some (.lst (as.map V.ref))∧TsA H' as ts∧ts.length≤i∧ts.Nodup∧(∀t∈ts,wlD m t)∧Same H H') ⟨[],[],_,_,rfl,e0,TsA.nil,q0k _,List.nodup_nil,by simp,g0⟩ (fun _ _ _ _ _=>trivial) ?_ ?_
  ·clear e0
   rintro i x σ H3 H4 hi ⟨as,ts,s6,s7,rfl,hl1,hts,hlen,hnd,hp,g⟩ ⟨rfl,rfl⟩
   have m1:1≤m:=Nat.pos_of_ne_zero fun z=>by have:=n0 z;lia
   refine⟨_,rfl,_,rfl,_,rfl,_,rfl,a,ds,m,i,wy,?_,g _ _ ha,dl,db,m1,m4,by lia,fun t rs H5 g5 ht rl rj rb=>?_⟩
   ·show [V.ref a,V.int (m:Nat),V.int (0+(i:Int)),V.int wy]=_
    rw[Int.zero_add]
   have hl5:=g5 _ _ hl1
   have hts5:=hts.same g5
   refine⟨_,rfl,_,rfl,l,_,_,_,rfl,.inl (SqL.of hl5),hts5.isDs,isD_t ht,ok_ts,_,rfl,?_⟩
   rw[any_t]
   refine z5z (fun c2=>?_) (fun c2=>?_)
   ·have c2':z0j rs∉ts:=by simpa using c2
    refine⟨_,rfl,.inl ⟨rfl,_,SqL.of hl5⟩,_,rfl,l,_,_,rfl,rfl,hl5,z1E (by rw[q0a,hts.1];lia),?_⟩
    have gl:∀b o,b≠l→H5 b=some o→upd H5 l (.lst (as.map V.ref++[.ref t])) b=some o:=fun b o hb e=>by rw[z0h hb];exact e
    refine⟨as++[t],ts++[z0j rs],_,_,rfl,by rw[z0b];simp,?_,by simp;lia,?_,?_,fun b o e=>gl b o (z0f e hl) (g5 _ _ (g _ _ e))⟩
    ·have z:=hts5.snoc ht
     refine⟨z.1,fun i a t' e1 e2=>?_⟩
     have:=z.2 i a t' e1 e2
     exact gl _ _ (fun z=>by rw[z,hl5] at this;cases this) this
    ·exact List.nodup_append.mpr ⟨hnd,by simp,fun x hx y hy e=>by rw[q0g.mp hy] at e;exact c2' (e▸hx)⟩
    ·intro u hu
     rcases q0r.mp hu with hu|hu
     ·exact hp u hu
     ·rw[q0g.mp hu];exact⟨rs,rfl,rl,rj,rb⟩
   ·exact⟨as,ts,_,_,rfl,hl5,hts5,by lia,hnd,hp,g.trans g5⟩
  ·rintro σ H3 ⟨as,ts,s6,s7,rfl,hl1,hts,hlen,hnd,hp,g⟩
   exact hN _ _ ⟨as,ts,_,_,rfl,hl1,hts,hlen,hnd,hp,g⟩
 rintro σ H3 ⟨as,ts,s6,s7,rfl,hl1,hts,hlen,hnd,hp,g⟩
 refine⟨_,rfl,_,rfl,by show 2≤sizeLine;decide,fun tp htp=>?_⟩
 have g2:=z0d htp (.tup [V.int (m:Nat),V.ref l])
 exact q tp l as ts m _ hl (g.trans g2) z0b (g2 _ _ hl1) (hts.same g2) m4 (by lia) (fun z=>by have:=n5 z;lia) (fun z=>q0J.mp (by have:=n0 z;lia)) hnd hp
end
end L2
namespace L2
open PySem PySem.Spec PyProof.Rows
section
open Fr Wl Rk
open Builtin.Int (intBits)
variable {P:Program}{w:World}{K:PySem.W.Frag}{mg:Str→Option Value}{base:Heap}{f:Addr}{fd:FuncData}
abbrev z1A:Stmt:=top 9
theorem z3N:z0x ["row"] ["row"] (z0n z1A):=⟨rfl,rfl,rfl,by decide+kernel,rfl,by decide+kernel,by decide+kernel⟩
def z5S (K:PySem.W.Frag):Sp:=fun vs H Q _=>∃(p:Addr) (r:List Int),vs=[.ref p]∧SqA K H p (r.map V.int)∧r.length≤1000∧(∃n∈r,n≠0)∧∀H',Same H H'→Q (.int (fp r:Nat)) H'
theorem z3P (T:Txt mg) (F:Fun K "first_place" "first_place" z1A f fd):FnOk P w K mg base CX0 1 f fd ["row"] (z5S K):=by
 refine F.ok z3N (fun vs H Q E h=>?_) (fun cdv A outer s H vs Q E hr h=>?_)
 ·obtain⟨_,_,rfl,_⟩:=h;rfl
 obtain⟨p,r,rfl,hS,hlen,hnz,q⟩:=h
 obtain⟨b,hB⟩:=hS.toB
 refine⟨_,(z0i (z0y (z0G (z0q (K:=K) rfl) (z0J (Nc:=["place","number"]) (fr:=[none,none]) rfl (z6I (K:=K) rfl rfl T.enumerate (z0a (pv 0) z0e)) rfl (by decide) rfl (by decide) rfl trivial trivial (fun _ _ _ _=>(z1h (K:=K) rfl 2 rfl (z0t (z0k (i:=0) (show List.Nodup (["place","number"]:List Str) from by decide) rfl (Or.inl rfl)) (z0t (z0k (i:=1) (show List.Nodup (["place","number"]:List Str) from by decide) rfl (Or.inl rfl)) z1g)))) (fun _ _ _ _=>(z1o (z0s z4C (pv 1) z0g (z0C _)))) (fun _ _ _ _=>(pv 0))) z0g (fun _ _=>rfl)))),?_⟩
 refine⟨_,rfl,p,b,_,rfl,hB,fun D hD=>?_⟩
 refine z3K rfl (z4a K b p (r.map V.int)) hD (fun c=>match c.2 with| .int n=> !decide (V.int n=V.int 0)|_=>false) Prod.fst ?_ (fun H' g'=>hB.same g') (z0l (by unfold z2S;rw[List.length_mapIdx,List.length_map];lia)) ?_ ?_ ?_
 ·intro p u v σ H hp S h
  exact⟨p,_,rfl,SqT.of hp,rfl,_,_,rfl,_,_,rfl,rfl,h⟩
 ·intro c hc Hc gc S h
  obtain⟨i,n,rfl⟩:∃(i n:Int),c=(.int i,.int n):=by
   unfold z2S at hc
   obtain⟨i,hi,rfl⟩:=List.mem_mapIdx.mp hc
   exact⟨(i:Int),r[i]'(by simpa using hi),by rw[List.getElem_map]⟩
  exact⟨_,rfl,rfl,_,rfl,h⟩
 ·intro c hc _ Hc gc S h
  exact⟨_,rfl,h⟩
 ·intro H' g' hD'
  have e:=z4j r 0 hnz
  refine⟨D,_,_,_,rfl,rfl,SqL.of hD',z1i (j:=0) e,?_⟩
  exact q _ g'
theorem z2f {α β γ:Type} (f:α→β→γ):∀(xs:List α) (ys:List β),List.zipWith f xs ys=(xs.zip ys).map fun c=>f c.1 c.2
 |[],_=>by simp
 |_::_,[]=>by simp
 |x::xs,y::ys=>by rw[List.zipWith_cons_cons,z2f f xs ys];rfl
theorem z6T {H:Hp}{a:Addr}{xs:List V}{j:Int}{u:V}{Q:VK} (h:SqA K H a xs) (e:atI xs j=some u) (q:Q u H):rIxA K (.ref a) (.int j) H Q:=by
 rcases h with h|h
 ·exact .inl ⟨a,xs,_,u,rfl,rfl,h,e,q⟩
 ·exact .inr ⟨a,xs,_,u,rfl,rfl,h,e,q⟩
theorem y1T {xs:List Int}{j:Nat} (h:j<xs.length):atI (xs.map V.int) (j:Int)=some (.int (v xs j)):=by
 refine z1i ?_
 rw[q0j,q0b h]
 show _=some (V.int (xs.getD j 0))
 rw[q0c,q0b h];rfl
theorem z2H {xs:List Int}{k:Nat} (h:∀n∈xs,intBits n≤k) (j:Nat):intBits (v xs j)≤k:=by
 show intBits (xs.getD j 0)≤k
 rw[q0c]
 cases e:xs[j]? with
 |none=>exact Nat.le_trans (show intBits 0≤0 by decide) (Nat.zero_le _)
 |some n=>exact h n (List.mem_of_getElem? e)
theorem z8j {xs rs:List Int}{bx br:Nat} (hl:xs.length=rs.length) (hnz:∃n∈rs,n≠0) (zx:∀n∈xs,intBits n≤bx) (zr:∀n∈rs,intBits n≤br):∀n∈z0m xs rs,intBits n≤bx+br+1:=fun n hn=>by
 have g0:=z9P (b:=v xs (fp rs)) (z1I hnz)
 have ob:intBits (z6J xs rs)≤br:=intBits_le_of_natAbs (z3G (Int.gcd_dvd_left ..) g0) (z2H zr _)
 have lb:intBits (z2B xs rs)≤bx:=intBits_le_of_natAbs (z3G (Int.gcd_dvd_right ..) g0) (z2H zx _)
 unfold z0m at hn
 rw[z2f] at hn
 obtain⟨c,hc,rfl⟩:=q0e.mp hn
 obtain⟨h1,h2⟩:=q1v (show (c.1,c.2)∈xs.zip rs from hc)
 exact q0q (intBits_sub_le (intBits_mul_le ob (zx _ h1)) (intBits_mul_le lb (zr _ h2))) (by lia)
abbrev z3p:Stmt:=top 10
theorem sc_cleared:z0x ["numbers","row","place","shared","own","less"] ["numbers","row"] (z0n z3p):=⟨rfl,rfl,rfl,by decide+kernel,rfl,by decide+kernel,by decide+kernel⟩
def z3g (K:PySem.W.Frag):Sp:=fun vs H Q _=>∃(p o:Addr) (xs rs:List Int) (bx br:Nat),vs=[.ref p,.ref o]∧SqA K H p (xs.map V.int)∧SqA K H o (rs.map V.int)∧xs.length=rs.length∧rs.length≤1000∧(∀n∈xs,intBits n≤bx)∧(∀n∈rs,intBits n≤br)∧bx≤20000∧br≤9000∧(∃n∈rs,n≠0)∧
 ∀(l:Addr) (H':Hp),(∀n∈z0m xs rs,intBits n≤bx+br+1)→Same H H'→H' l=some (.lst ((z0m xs rs).map V.int))→Q (.ref l) H'
theorem z7S (T:Txt mg) (F:Fun K "cleared" "cleared" z3p f fd) (c_first_place:Cal P w K mg base 1 "first_place" ["row"] (z5S K)) (c_divisor:Cal P w K mg base 1 "divisor" ["one","other"] z1K):FnOk P w K mg base CX0 2 f fd ["numbers","row"] (z3g K):=by
 refine F.ok sc_cleared (fun vs H Q E h=>?_) (fun cdv A outer s H vs Q E hr h=>?_)
 ·obtain⟨_,_,_,_,_,_,rfl,_⟩:=h;rfl
 obtain⟨p,o,xs,rs,bx,br,rfl,hX,hR,hl,hlen,zx,zr,hbx,hbr,hnz,q⟩:=h
 refine⟨_,(z0c (z0p (i:=2) sc_cleared.nd rfl (Or.inl rfl) (z0B c_first_place hr rfl (z0a (pv 1) z0e)))
  (z0c (z0p (i:=3) sc_cleared.nd rfl (Or.inl rfl) (z0B c_divisor hr rfl (z0a (z0G (z4H (K:=K) rfl) (pv 1) (pv 2) (fun _ _=>rfl)) (z0a (z0G (z4H (K:=K) rfl) (pv 0) (pv 2) (fun _ _=>rfl)) z0e))))
  (z0c (z0p (i:=4) sc_cleared.nd rfl (Or.inr rfl) (z0w z2l (z0G (z4H (K:=K) rfl) (pv 1) (pv 2) (fun _ _=>rfl)) (pv 3)))
  (z0c (z0p (i:=5) sc_cleared.nd rfl (Or.inr rfl) (z0w z2l (z0G (z4H (K:=K) rfl) (pv 0) (pv 2) (fun _ _=>rfl)) (pv 3)))
  (z0i (z0y (z0J (Nc:=["one","other","own","less"]) (fr:=[none,none,some 4,some 5]) rfl (z9b (K:=K) rfl rfl T.zip (z0a (pv 0) (z0a (pv 1) z0e))) rfl (by decide) rfl (by decide) rfl ⟨rfl,⟨rfl,trivial⟩⟩ ⟨⟨rfl,rfl,rfl,rfl⟩,⟨⟨rfl,rfl,rfl,rfl⟩,trivial⟩⟩ (fun _ _ _ _=>(z1h (K:=K) rfl 2 rfl (z0t (z0k (i:=0) (show List.Nodup (["one","other","own","less"]:List Str) from by decide) rfl (Or.inl rfl)) (z0t (z0k (i:=1) (show List.Nodup (["one","other","own","less"]:List Str) from by decide) rfl (Or.inl rfl)) z1g)))) (fun _ _ _ _=>z0U) (fun _ _ _ _=>(z0w z1Z (z0w z1p (pv 2) (pv 0)) (z0w z1p (pv 3) (pv 1))))))))))),?_⟩
 refine⟨_,rfl,o,rs,rfl,hR,hlen,hnz,fun H1 g1=>?_⟩
 have hX1:=hX.same g1
 have hR1:=hR.same g1
 have lt:fp rs<rs.length:=y3V hnz
 have ltx:fp rs<xs.length:=by lia
 have n0:=z1I hnz
 have g0:=z9P (b:=v xs (fp rs)) n0
 have ob:intBits (z6J xs rs)≤br:=intBits_le_of_natAbs (z3G (Int.gcd_dvd_left ..) g0) (z2H zr _)
 have lb:intBits (z2B xs rs)≤bx:=intBits_le_of_natAbs (z3G (Int.gcd_dvd_right ..) g0) (z2H zx _)
 have gb:intBits ((Int.gcd (v rs (fp rs)) (v xs (fp rs)):Nat):Int)≤9000:=by
  refine intBits_le_of_natAbs (y:=v rs (fp rs)) ?_ (q0q (z2H zr _) (by lia))
  rw[Int.natAbs_natCast]
  exact Nat.le_of_dvd (Int.natAbs_pos.mpr n0) (Int.natAbs_dvd_natAbs.mpr (Int.gcd_dvd_left (a:=v rs (fp rs)) (b:=v xs (fp rs))))
 refine⟨_,rfl,_,rfl,z6T hR1 (y1T lt) ⟨_,rfl,_,rfl,z6T hX1 (y1T ltx) ⟨_,_,rfl,?_⟩⟩⟩
 refine⟨_,rfl,_,rfl,z6T hR1 (y1T lt) ⟨_,rfl,_,_,rfl,rfl,⟨g0,gb⟩,?_⟩⟩
 refine⟨_,rfl,_,rfl,z6T hX1 (y1T ltx) ⟨_,rfl,_,_,rfl,rfl,⟨g0,gb⟩,?_⟩⟩
 obtain⟨b1,hB1⟩:=hX1.toB
 obtain⟨b2,hB2⟩:=hR1.toB
 refine⟨_,rfl,_,rfl,p,o,b1,b2,_,_,rfl,hB1,hB2,fun D hD=>?_⟩
 refine z3K rfl (z5e K b1 b2 p o (xs.map V.int) (rs.map V.int)) hD (fun _=>true) (fun c=>match c with|(.int m,.int n)=> .int (z6J xs rs*m - z2B xs rs*n)|_=> .non) ?_ (fun H' g'=>⟨hB1.same g',hB2.same g'⟩) (z0l (by rw[List.length_zip,q0a,q0a];lia)) ?_ ?_ ?_
 ·intro p u v σ H hp S h
  exact⟨p,_,rfl,SqT.of hp,rfl,_,_,rfl,_,_,rfl,rfl,h⟩
 ·intro c hc Hc gc S h
  exact h
 ·intro c hc _ Hc gc S h
  obtain⟨m,n,rfl,hm,hn⟩:∃(m n:Int),c=(.int m,.int n)∧m∈xs∧n∈rs:=by
   obtain⟨c1,c2⟩:=c
   obtain⟨h1,h2⟩:=q1v hc
   obtain⟨m,hm,rfl⟩:=q0e.mp h1
   obtain⟨n,hn,rfl⟩:=q0e.mp h2
   exact⟨m,n,rfl,hm,hn⟩
  exact⟨_,rfl,_,rfl,_,_,rfl,rfl,z3w (q0q ob (by omega)) (q0q (zx m hm) (by omega)),_,rfl,_,rfl,_,_,rfl,rfl,z3w (q0q lb (by omega)) (q0q (zr n hn) (by omega)),_,_,rfl,rfl,h⟩
 ·intro H' g' hD'
  rw[z0F] at hD'
  have em:((xs.map V.int).zip (rs.map V.int)).map (fun c=>match c with|(.int m,.int n)=>V.int (z6J xs rs*m - z2B xs rs*n)|_=> .non)=(z0m xs rs).map V.int:=by
   unfold z0m
   rw[z2f,q0w,List.zip_map,q0w]
   rfl
  rw[em] at hD'
  refine q D _ (fun n hn=>?_) (g1.trans g') hD'
  unfold z0m at hn
  rw[z2f] at hn
  obtain⟨c,hc,rfl⟩:=q0e.mp hn
  obtain⟨h1,h2⟩:=q1v (show (c.1,c.2)∈xs.zip rs from hc)
  exact q0q (intBits_sub_le (intBits_mul_le ob (zx _ h1)) (intBits_mul_le lb (zr _ h2))) (by lia)
end
end L2
namespace L2
open PySem PySem.Spec PyProof.Rows
section
open Fr Wl Rk
open Builtin.Int (intBits)
variable {P:Program}{w:World}{K:PySem.W.Frag}{mg:Str→Option Value}{base:Heap}{f:Addr}{fd:FuncData}
abbrev z3h:Stmt:=top 11
theorem sc_rest_by:z0x ["rows","numbers","rest","row"] ["rows","numbers"] (z0n z3h):=⟨rfl,rfl,rfl,by decide+kernel,rfl,by decide+kernel,by decide+kernel⟩
def z8u (K:PySem.W.Frag):Sp:=fun vs H Q _=>∃(l p:Addr) (b:Bool) (as:List Addr) (ts:List (List Int)) (xs:List Int) (bx br:Nat),vs=[.ref l,.ref p]∧SqB b K H l (as.map V.ref)∧TsA H as ts∧SqA K H p (xs.map V.int)∧xs.length≤1000∧ts.length≤8∧(∀t∈ts,t.length=xs.length∧(∃n∈t,n≠0)∧∀n∈t,intBits n≤br)∧(∀n∈xs,intBits n≤bx)∧br≤9000∧(∀i,i<ts.length→bx+i*(br+1)≤20000)∧
 ∀(r:Addr) (H':Hp),(∀n∈ts.foldl z0m xs,intBits n≤bx+ts.length*(br+1))→(ts.foldl z0m xs).length =xs.length→Same H H'→H' r=some (.lst ((ts.foldl z0m xs).map V.int))→Q (.ref r) H'
theorem z7K (T:Txt mg) (F:Fun K "rest_by" "rest_by" z3h f fd) (c_cleared:Cal P w K mg base 2 "cleared" ["numbers","row"] (z3g K)):FnOk P w K mg base CX0 3 f fd ["rows","numbers"] (z8u K):=by
 refine F.ok sc_rest_by (fun vs H Q E h=>?_) (fun cdv A outer s H vs Q E hr h=>?_)
 ·obtain⟨_,_,_,_,_,_,_,_,rfl,_⟩:=h;rfl
 obtain⟨l,p,b,as,ts,xs,bx,br,rfl,hl,hts,hX,hlen,h8,zt,zx,hbr,hb,q⟩:=h
 refine⟨_,(z0c (z0p (i:=2) sc_rest_by.nd rfl (Or.inl rfl) (z0E (z0Y (K:=K) rfl) rfl T.list boot_list (z0a (pv 1) z0e)))
  (z0c (z0W PassesOwn.never rfl (z2L (K:=K) rfl (pv 0)) (z0k (i:=3) sc_rest_by.nd rfl (Or.inl rfl)) (z0i (z0p (i:=2) sc_rest_by.nd rfl (Or.inl rfl) (z0B c_cleared hr rfl (z0a (pv 2) (z0a (pv 3) z0e))))))
  (z0i (z0y (pv 2))))),?_⟩
 refine⟨_,rfl,p,_,rfl,hX,fun r0 hr0=>?_⟩
 have g0:=z0d hr0 (.lst (xs.map V.int))
 have e0:upd H r0 (.lst (xs.map V.int)) r0=some (.lst (xs.map V.int)):=z0b
 generalize upd H r0 (.lst (xs.map V.int))=H0 at*
 have hl0:=hl.same g0
 refine⟨_,rfl,l,b,_,rfl,hl0,?_⟩
 refine z0D (z1L K b l (as.map V.ref)) (fun i σ H'=>∃(r:Addr) (s3:Option V),σ=[some (.ref l),some (.ref p),some (.ref r),s3]∧H' r=some (.lst (((ts.take i).foldl z0m xs).map V.int))∧(∀n∈(ts.take i).foldl z0m xs,intBits n≤bx+i*(br+1))∧((ts.take i).foldl z0m xs).length =xs.length∧Same H H')
  ⟨r0,_,rfl,e0,fun n hn=>q0q (zx n hn) (by lia),rfl,g0⟩ (fun i σ H' _ h=>by obtain⟨_,_,_,_,_,_,g⟩:=h;exact hl.same g) ?_ ?_
 ·rintro i x σ H1 H2 hi ⟨r,s3,rfl,er,zb,el,g⟩ ⟨rfl,hx⟩
  rw[q0a,hts.1] at hi
  rw[q0j] at hx
  obtain⟨a,ha,rfl⟩:=q0v.mp hx
  have et:ts[i]? =some ts[i]:=q0b hi
  have htm:ts[i]∈ts:=q0F hi
  generalize ts[i]=t at et htm
  obtain⟨t1,t2,t3⟩:=zt t htm
  have tk:(ts.take (i+1)).foldl z0m xs=z0m ((ts.take i).foldl z0m xs) t:=by
   rw[q0L,et,List.foldl_append];rfl
  have hm:=hb i hi
  have hm2:(i+1)*(br+1)=i*(br+1)+(br+1):=Nat.succ_mul _ _
  refine⟨_,rfl,_,rfl,r,a,(ts.take i).foldl z0m xs,t,bx+i*(br+1),br,rfl,.inl (SqL.of er),.inr (SqT.of (g _ _ (hts.2 i a t ha et))),by rw[el,t1],by lia,zb,t3,hm,hbr,t2,fun r2 H3 zb3 g3 e3=>?_⟩
  refine⟨r2,_,rfl,?_,?_,?_,g.trans g3⟩
  ·rw[tk];exact e3
  ·intro n hn
   rw[tk] at hn
   exact q0q (zb3 n hn) (by lia)
  ·rw[tk,z1Q (by rw[el,t1]),el]
 ·rintro σ H1 ⟨r,s3,rfl,er,zb,el,g⟩
  rw[q0a,hts.1,q0S] at er zb el
  exact⟨_,rfl,q r _ zb el g er⟩
end
end L2
namespace L2
open PySem PySem.Spec PyProof.Rows
section
open Fr Wl Rk
open Builtin.Int (intBits)
variable {P:Program}{w:World}{K:PySem.W.Frag}{mg:Str→Option Value}{base:Heap}{f:Addr}{fd:FuncData}
theorem z4X {rs:List Int} (h:0<rs.length):∃ns last,rs=ns++[last]:=⟨rs.dropLast,rs.getLast (fun z=>by rw[z] at h;simp at h),(List.dropLast_concat_getLast _).symm⟩
theorem z6n {m:Nat}:∀(l:List Nat) (k:Nat),l.Pairwise (· < ·)→(∀x∈l,k≤x∧x<m)→l.length≤m - k
 |[],_,_,_=>Nat.zero_le _
 |x::l,k,hp,h=>by
  have hx:=h x q0i
  have:=z6n l (x+1) (q0X.mp hp).2 fun y hy=>⟨(q0X.mp hp).1 y hy,(h y (q0f _ hy)).2⟩
  rw[q0D]
  lia
theorem Rk.Rws.len {m:Nat}{us:List (List Int)} (h:Rws m us):us.length≤m:=by
 have:=z6n (m:=m) (us.map fp) 0 (by rw[q0M];exact h.up) fun x hx=>by
  obtain⟨t,ht,rfl⟩:=q0e.mp hx
  exact⟨q0A _,(h.row t ht).2.1⟩
 rw[q0a] at this
 exact this
def bnJ (B:Nat):Nat→Nat
 |0=>0
 |k+1=>bnJ B k+(B+k*(bnJ B k+1))+1
theorem bnJ3 {B k:Nat} (hB:B≤130) (hk:k≤3):bnJ B k≤1315:=by
 rcases (by lia:k=0∨k=1∨k=2∨k=3) with e|e|e|e<;>subst e<;>simp only[bnJ]<;>lia
theorem bnJ4 {B k:Nat} (hB:B≤130) (hk:k≤4):bnJ B k≤5394:=by
 rcases (by lia:k=0∨k=1∨k=2∨k=3∨k=4) with e|e|e|e|e<;>subst e<;>simp only[bnJ]<;>lia
def z4p (K:PySem.W.Frag):Sp:=fun vs H Q _=>∃(l p:Addr) (b:Bool) (bs:List Addr) (us:List (List Int)) (xs:List Int) (m B:Nat),vs=[.ref l,.ref p]∧SqB b K H l (bs.map V.ref)∧TsA H bs us∧H p=some (.tup (xs.map V.int))∧xs.length=m+1∧m≤4∧B≤130∧(∀n∈xs,intBits n≤B)∧Rws m us∧(∀t∈us,∀n∈t,intBits n≤bnJ B us.length)∧
 (∀(r:Addr) (bs':List Addr) (us':List (List Int)) (H':Hp),H r=none→Same H H'→H' r=some (.lst (bs'.map V.ref))→TsA H' bs' us'→Rws m us'→(∀t∈us',∀n∈t,intBits n≤bnJ B us'.length)→In (us'.map v)=In (v xs::us.map v)→Q (.ref r) H')∧
 (∀H',Same H H'→(∃z,In (v xs::us.map v) z∧(∀j,j<m→z j=0)∧z m≠0)→Q .non H')
theorem z6Z {m j:Nat}:∀(l:List Nat) (k:Nat),l.Pairwise (· < ·)→(∀x∈l,k≤x∧x<m)→j∉l→k≤j→j<m→l.length+1≤m - k
 |[],k,_,_,_,h1,h2=>by rw[List.length_nil];lia
 |x::l,k,hp,h,hj,h1,h2=>by
  have hx:=h x q0i
  have hne:x≠j:=fun e=>hj (by rw[e];exact q0i)
  have low:=(q0X.mp hp).1
  rw[q0D]
  by_cases hlt:x<j
  ·have:=z6Z (m:=m) (j:=j) l (x+1) (q0X.mp hp).2 (fun y hy=>⟨low y hy,(h y (q0f _ hy)).2⟩) (fun z=>hj (q0f _ z)) (by lia) h2
   lia
  ·have:=z6n (m:=m) l (x+1) (q0X.mp hp).2 fun y hy=>⟨low y hy,(h y (q0f _ hy)).2⟩
   lia
theorem Rk.Rws.lt {m:Nat}{us:List (List Int)} (h:Rws m us) {y:List Int} (h0:∀t∈us,v y (fp t)=0) {j:Nat} (hj:j<m) (hn:v y j≠0):us.length+1≤m:=by
 have:=z6Z (m:=m) (j:=j) (us.map fp) 0 (by rw[q0M];exact h.up) (fun x hx=>by
  obtain⟨t,ht,rfl⟩:=q0e.mp hx
  exact⟨q0A _,(h.row t ht).2.1⟩) (fun hx=>by
  obtain⟨t,ht,e⟩:=q0e.mp hx
  exact hn (by rw[←e];exact h0 t ht)) (q0A _) hj
 rw[q0a] at this
 lia
theorem z4c {rs:List Int}{k:Nat} (h:∃n∈rs,n≠0) (hb:∀n∈rs,intBits n≤k):∀n∈z0j rs,intBits n≤k:=fun n hn=>by
 unfold z0j at hn
 obtain⟨x,hx,rfl⟩:=q0e.mp hn
 exact intBits_le_of_natAbs (z3G (z3M hx) (z2r h)) (hb x hx)
theorem y0L {α β:Type}{g:α→β}{l2:List α}{l:List β} (h:l.Perm (l2.map g)):∃l':List α,l'.Perm l2∧l=l'.map g:=by
 have base:∀l2:List α,Paired (fun a b=>b=g a) l2 (l2.map g):=fun l2=>by
  induction l2 with
  |nil=>exact .nil
  |cons a l ih=>exact .cons rfl ih
 obtain⟨l',h1,h2⟩:=z3t h (base l2)
 refine⟨l',h1,?_⟩
 clear h h1 base
 induction h2 with
 |nil=>rfl
 |cons e _ ih=>rw[List.map_cons,e,ih]
theorem y2Q {H:Hp}{as:List Addr}{ts:List (List Int)} (h:TsA H as ts) {c:List Int×Addr} (hc:c∈ts.zip as):H c.2=some (.tup (c.1.map V.int)):=by
 obtain⟨i,hi,e⟩:=q0Q.mp hc
 rw[List.length_zip] at hi
 rw[List.getElem_zip] at e
 have e1:ts[i]=c.1:=congrArg Prod.fst e
 have e2:as[i]'(by lia)=c.2:=congrArg Prod.snd e
 exact h.2 i c.2 c.1 (by rw[q0b (by lia),e2]) (by rw[q0b (by lia),e1])
theorem ts_of {H:Hp}{zs:List (List Int×Addr)} (h:∀c∈zs,H c.2=some (.tup (c.1.map V.int))):TsA H (zs.map Prod.snd) (zs.map Prod.fst):=by
 refine⟨by rw[q0a,q0a],fun i a t e1 e2=>?_⟩
 rw[q0j] at e1 e2
 obtain⟨c,hc,rfl⟩:=q0v.mp e1
 rw[hc] at e2
 cases e2
 exact h c (q0s hc)
theorem z9T {H1 H':Hp}{r:List Int}{as:List Addr}{ts:List (List Int)}{us:List V} (h:TsA H1 as ts) (e:Each (fun x u=>∃(a:Addr) (t:List Int) (p:Addr),x=V.ref a∧u=V.ref p∧H1 a=some (.tup (t.map V.int))∧H' p=some (.tup ((z1z r t).map V.int))) (as.map V.ref) us):∃as',us=as'.map V.ref∧TsA H' as' (ts.map (z1z r)):=by
 induction us generalizing as ts with
 |nil=>
  have:=e.length
  rw[q0a] at this
  have h0:as=[]:=q0J.mp this
  subst h0
  have h1:ts=[]:=q0J.mp (by rw[←h.1];rfl)
  subst h1
  exact⟨[],rfl,TsA.nil⟩
 |cons u us ih=>
  cases as with
  |nil=>cases e
  |cons a as=>
   cases ts with
   |nil=>have:=h.1;simp at this
   |cons t ts=>
    cases e with
    |cons e1 e2=>
     obtain⟨b,t',p,hb,rfl,h1,h2⟩:=e1
     cases hb
     have ht:=h.2 0 a t rfl rfl
     rw[ht] at h1
     have et:t=t':=by
      have z:t.map V.int=t'.map V.int:=by injection h1 with z;injection z
      exact q1h (fun x y h=>by injection h) |>.mp z
     subst et
     obtain⟨as',rfl,hh⟩:=ih ⟨by simpa using h.1,fun i b u e1 e2=>h.2 (i+1) b u (by simpa using e1) (by simpa using e2)⟩ e2
     refine⟨p::as',rfl,by simp[hh.1],fun i b u e1 e2=>?_⟩
     cases i with
     |zero=>cases e1;cases e2;exact h2
     |succ i=>exact hh.2 i b u (by simpa using e1) (by simpa using e2)
theorem y2Y {b:Bool}{K:PySem.W.Frag}{H:Hp}{a:Addr}{xs:List V} (h:SqB b K H a xs):SqL K H a xs∨SqT K H a xs:=by
 cases b with
 |true=>exact .inl h
 |false=>exact .inr h
abbrev z4w:Stmt:=top 12
theorem sc_joined:z0x ["rows","numbers","rest","added","kept"] ["rows","numbers"] (z0n z4w):=⟨rfl,rfl,rfl,by decide+kernel,rfl,by decide+kernel,by decide+kernel⟩
theorem z9j (T:Txt mg) (F:Fun K "joined" "joined" z4w f fd) (c_rest_by:Cal P w K mg base 4 "rest_by" ["rows","numbers"] (z8u K)) (c_wall:Cal P w K mg base 4 "wall" ["numbers"] (y1w K)) (c_cleared:Cal P w K mg base 4 "cleared" ["numbers","row"] (z3g K)) (c_first_place:Cal P w K mg base 2 "first_place" ["row"] (z5S K)):FnOk P w K mg base CX0 5 f fd ["rows","numbers"] (z4p K):=by
 refine F.ok sc_joined (fun vs H Q E h=>?_) (fun cdv A outer s H vs Q E hr h=>?_)
 ·obtain⟨_,_,_,_,_,_,_,_,rfl,_⟩:=h;rfl
 obtain⟨l,p,b,bs,us,xs,m,B,rfl,hl,htu,hp,hlx,m4,hB,zx,hR,zb,q1,q2⟩:=h
 refine⟨_,(z0c (z0p (i:=2) sc_joined.nd rfl (Or.inl rfl) (z0B c_rest_by hr rfl (z0a (pv 0) (z0a (pv 1) z0e))))
  (z0c (z0O (z1y (z0u (z3L (K:=K) rfl rfl) rfl T.any boot_any (z0a (z2k (z8E (K:=K) rfl) (pv 2) z3s (z3r (z7I z3T z0g))) z0e))) (z0c (z0p (i:=3) sc_joined.nd rfl (Or.inr rfl) (z0B c_wall hr rfl (z0a (pv 2) z0e)))
  (z0c (z2x (jj:=4) rfl sc_joined.nd rfl (Or.inl rfl) (Or.inl rfl) (Nc:=["row","added"]) (fr:=[none,some 3]) rfl (z2L (K:=K) rfl (pv 0)) rfl (by decide) rfl (by decide) rfl ⟨rfl,trivial⟩ ⟨⟨rfl,rfl,rfl,rfl⟩,trivial⟩ (fun _ _ _ _=>(z0k (i:=0) (show List.Nodup (["row","added"]:List Str) from by decide) rfl (Or.inl rfl))) (fun _ _ _ _=>z0U) (fun _ _ _ _=>(z0B c_wall hr rfl (z0a (z0B c_cleared hr rfl (z0a (pv 0) (z0a (pv 1) z0e))) z0e))))
  (z0i (z0y (y0M c_first_place hr rfl T.sorted rfl (z0w z3u (pv 4) (z0H (z0a (pv 3) z0e)))))))) z0v)
  (z0c (z0O (z0s z3O (z0G (z0q (K:=K) rfl) (pv 2) (z7I z3T z0g) (fun _ _=>rfl)) z0g (z0C _)) (z0i (z0y (z0E (z0Y (K:=K) rfl) rfl T.list boot_list (z0a (pv 0) z0e)))) z0v)
  (z0i (z0y z9d))))),?_⟩
 have ul:=hR.len
 have b4:bnJ B us.length≤5394:=bnJ4 hB (by lia)
 obtain⟨rl,rz,_⟩:=hR.rest hlx
 refine⟨_,rfl,_,rfl,l,p,b,bs,us,xs,B,bnJ B us.length,rfl,hl,htu,.inr (SqT.of hp),by lia,by lia,fun t ht=>⟨by rw[(hR.row t ht).1,hlx],hR.nz ht,zb t ht⟩,zx,by lia,fun i hi=>?_,fun r H1 zr lr g1 er=>?_⟩
 ·have:i*(bnJ B us.length+1)≤3*(bnJ B us.length+1):=Nat.mul_le_mul_right _ (by lia)
  lia
 have hoff:=hR.off_all hlx
 have hsame:=hR.same hlx
 have hmore:=fun us'=>hR.more (us':=us') hlx
 generalize us.foldl z0m xs=rs at*
 obtain⟨ns,last,ers⟩:=z4X (rs:=rs) (by lia)
 have nl:ns.length=m:=by rw[ers,q0x] at rl;simpa using rl
 have vns:∀j,j<m→v rs j=v ns j:=fun j hj=>by
  show rs.getD j 0=ns.getD j 0
  rw[ers,q0c,q0c,q0W (by lia)]
 have vl:v rs m=last:=by
  show rs.getD m 0=last
  rw[ers,q0c,q0V (by lia),nl,Nat.sub_self];rfl
 have er':H1 r=some (.lst ((ns++[last]).map V.int)):=by rw[←ers];exact er
 refine⟨_,rfl,_,rfl,_,rfl,z8D (b:=true) (xs:=ns.map V.int) (v:= .int last) (by have z:=er';rw[q0m] at z;exact SqL.of z) fun q0 H2 g2 hq0=>?_⟩
 refine⟨q0,_,rfl,hq0,z2y ns,_,rfl,?_⟩
 have g12:=g1.trans g2
 by_cases hnz:∃n∈ns,n≠0
 ·rw[(z3c ns).mpr hnz]
  refine z5y ?_
  have hnz2:∃n∈rs,n≠0:=let ⟨n,h1,h2⟩:=hnz;⟨n,by rw[ers];exact q0N _ h1,h2⟩
  obtain⟨j,hj,hjn⟩:∃j,j<m∧v rs j≠0:=by
   obtain⟨n,h1,h2⟩:=hnz
   obtain⟨j,hj,e⟩:=q0Q.mp h1
   refine⟨j,by lia,?_⟩
   rw[vns j (by lia)]
   show ns.getD j 0≠0
   rw[q0c,q0b hj,e];exact h2
  have u3:=hR.lt rz hj hjn
  have u3':us.length≤3:=by lia
  have bb:bnJ B us.length≤1315:=bnJ3 hB u3'
  have bm:us.length*(bnJ B us.length+1)≤3*(bnJ B us.length+1):=Nat.mul_le_mul_right _ u3'
  have zr3:∀n∈rs,intBits n≤B+us.length*(bnJ B us.length+1):=zr
  refine⟨_,rfl,r,ns,last,rfl,.inl (SqL.of (g2 _ _ er')),by rw[←ers];lia,fun n hn=>q0q (zr3 n (by rw[ers];exact hn)) (by lia),hnz,fun t H3 g3 et=>?_⟩
  rw[←ers] at et
  have za:=z4c hnz2 zr3
  have na:=z4z hnz2
  have la:(z0j rs).length =m+1:=by rw[Rk.plain_len,rl]
  have hmr:=fun us' hp hs=>hmore us' ⟨j,hj,hjn⟩ hp hs
  have zra:∀u∈us,v (z0j rs) (fp u)=0:=fun u hu=>(z1m hnz2 _).mpr (rz u hu)
  have afp:fp (z0j rs)<m:=by
   rw[z1k hnz2]
   exact q0C fun hc=>hjn (z1c (by lia))
  have g123:=g12.trans g3
  have hl3:=hl.same g123
  refine⟨_,rfl,l,b,_,rfl,hl3,fun D hD=>?_⟩
  refine z5F rfl (z1L K b l (bs.map V.ref)) hD (fun _=>true) (fun H' x u=>∃(a:Addr) (t':List Int) (q':Addr),x=V.ref a∧u=V.ref q'∧H3 a=some (.tup (t'.map V.int))∧H' q'=some (.tup ((z1z (z0j rs) t').map V.int))) ?_ (fun H' g'=>hl3.same g') (z0l (by rw[q0a,htu.1];lia)) ?_ ?_ ?_
  ·rintro H4 H5 x u k ⟨acc,hd⟩ ⟨a,t',q',e1,e2,e3,e4⟩
   exact⟨a,t',q',e1,e2,e3,k _ _ (fun z=>by rw[z,hd] at e4;cases e4) e4⟩
  ·intro x hx Hc gc S h
   exact h _ (Same.refl _)
  ·intro x hx _ Hc gc S h
   obtain⟨a,ha,rfl⟩:=q0e.mp hx
   obtain⟨i,hi,rfl⟩:=q0Q.mp ha
   have hi2:i<us.length:=by rw[←htu.1];exact hi
   have hc:=g123 _ _ (htu.2 i _ _ (q0b hi) (q0b hi2))
   have htm:us[i]∈us:=q0F hi2
   generalize us[i]=t' at hc htm
   obtain⟨y1,y2,y3⟩:=hR.row t' htm
   have kn:v (z0m t' (z0j rs)) (fp t')≠0:=by
     rw[z4L (by rw[y1,la]),zra t' htm,q1C,Int.sub_zero]
     exact q1o (z5k na) (z1I (hR.nz htm))
   have cl:(z0m t' (z0j rs)).length =m+1:=by rw[z1Q (by rw[y1,la]),y1]
   refine⟨_,rfl,_,rfl,_,t,t',z0j rs,bnJ B us.length,B+us.length*(bnJ B us.length+1),rfl,.inr (SqT.of (gc _ _ hc)),.inr (SqT.of (gc _ _ et)),by rw[y1,la],by lia,zb t' htm,za,by lia,by lia,na,fun l2 H4 z4 g4 e4=>?_⟩
   obtain⟨ns2,last2,ec⟩:=z4X (rs:=z0m t' (z0j rs)) (by lia)
   have n2l:ns2.length=m:=by rw[ec,q0x] at cl;simpa using cl
   have nz2:∃n∈ns2,n≠0:=by
     refine z5t (j:=fp t') fun z=>kn ?_
     show (z0m t' (z0j rs)).getD (fp t') 0=0
     rw[ec,q0c,q0W (by lia),←q0c]
     exact z
   refine⟨l2,ns2,last2,rfl,.inl (SqL.of (by rw[←ec];exact e4)),by rw[←ec];lia,fun n hn=>q0q (z4 n (by rw[ec];exact hn)) (by lia),nz2,fun t2 H5 g5 e5=>?_⟩
   rw[←ec] at e5
   exact h _ _ (g4.trans g5) ⟨_,t',t2,rfl,rfl,hc,e5⟩
  ·intro ks H4 g4 hD4 he
   rw[z0F] at he
   obtain⟨as',rfl,hts'⟩:=z9T (htu.same g123) he
   have gg4:=g123.trans g4
   refine⟨_,rfl,_,rfl,z0l (by show 1≤_;decide),fun r5 hr5=>?_⟩
   have g5:=z0d hr5 (.lst [V.ref t])
   have e5:upd H4 r5 (.lst [V.ref t]) r5=some (.lst [V.ref t]):=z0b
   generalize upd H4 r5 (.lst [V.ref t])=H5 at*
   refine⟨D,r5,_,_,rfl,rfl,g5 _ _ hD4,e5,z0l (by rw[q0a,hts'.1,q0a];show us.length+1≤16777216;lia),fun r6 hr6=>?_⟩
   have g6:=z0d hr6 (.lst (as'.map V.ref++[V.ref t]))
   have e6:upd H5 r6 (.lst (as'.map V.ref++[V.ref t])) r6=some (.lst ((as'++[t]).map V.ref)):=by rw[z0b,q0m];rfl
   generalize upd H5 r6 (.lst (as'.map V.ref++[V.ref t]))=H6 at*
   have tsA:TsA H6 (as'++[t]) (us.map (z1z (z0j rs))++[z0j rs]):=(hts'.same (g5.trans g6)).snoc ((g4.trans (g5.trans g6)) _ _ et)
   have g46:=g5.trans g6
   generalize hw:us.map (z1z (z0j rs))++[z0j rs]=ws at*
   have wl:ws.length=us.length+1:=by rw[←hw,q0x,q0a];rfl
   have wz:∀u∈ws,(∃n∈u,n≠0)∧u.length=m+1∧∀n∈u,intBits n≤bnJ B (us.length+1):=fun u hu=>by
     rw[←hw] at hu
     rcases q0r.mp hu with hu|hu
     ·obtain⟨t',ht',rfl⟩:=q0e.mp hu
      obtain⟨y1,y2,y3⟩:=hR.row t' ht'
      have kn:v (z0m t' (z0j rs)) (fp t')≠0:=by
         rw[z4L (by rw[y1,la]),zra t' ht',q1C,Int.sub_zero]
         exact q1o (z5k na) (z1I (hR.nz ht'))
      refine⟨z4z (z5t kn),?_,?_⟩
      ·unfold z1z;rw[Rk.plain_len,z1Q (by rw[y1,la]),y1]
      ·exact z4c (z5t kn) fun n hn=>q0q (z8j (by rw[y1,la]) na (zb t' ht') za n hn) (by show _≤bnJ B us.length+(B+us.length*(bnJ B us.length+1))+1;lia)
     ·rw[q0g.mp hu]
      exact⟨na,la,fun n hn=>q0q (za n hn) (by show _≤bnJ B us.length+(B+us.length*(bnJ B us.length+1))+1;lia)⟩
   refine⟨r6,_,ws.map (fun u=>((fp u:Nat):Int)),rfl,e6,by rw[q0a,q0a,tsA.1],by rw[q0a,tsA.1,wl];lia,fun i x n hx hn Hk gk=>?_,fun D7 qs H7 hn7 g7 hp7 hw7 e7=>?_⟩
   ·rw[q0j] at hx hn
    obtain⟨a,ha,rfl⟩:=q0v.mp hx
    obtain⟨u,hu,rfl⟩:=q0v.mp hn
    obtain⟨w1,w2,_⟩:=wz u (q0s hu)
    exact⟨a,u,rfl,.inr (SqT.of (gk _ _ (tsA.2 i a u ha hu))),by lia,w1,fun H' g'=>⟨rfl,g'⟩⟩
   ·have ez:(ws.map fun u=>((fp u:Nat):Int)).zip ((as'++[t]).map V.ref)=(ws.zip (as'++[t])).map fun c=>(((fp c.1:Nat):Int),V.ref c.2):=by rw[List.zip_map];rfl
    rw[ez] at hp7
    obtain⟨zs,z1,rfl⟩:=y0L hp7
    have g67:=g46.trans g7
    have p1:(zs.map Prod.fst).Perm ws:=by
     have:=z1.map Prod.fst
     rw[List.map_fst_zip (by rw[tsA.1];exact q0k _)] at this
     exact this
    have o1:(zs.map Prod.fst).Pairwise fun a b=>fp a≤fp b:=by
     rw[q0M] at hw7 ⊢
     exact hw7.imp fun h=>by dsimp only at h;lia
    obtain⟨m1,m2,m3⟩:=hmr _ p1 o1
    refine q1 D7 (zs.map Prod.snd) (zs.map Prod.fst) H7 (((gg4.trans g46)).free hn7) (gg4.trans g67) ?_ (ts_of fun c hc=>g7 _ _ (y2Q tsA (z1.mem_iff.mp hc))) m1 ?_ m2
    ·rw[e7,q0w,q0w];rfl
    ·intro u hu n hn
     rw[q0a] at m3
     rw[q0a,m3]
     exact (wz u (p1.mem_iff.mp hu)).2.2 n hn
 ·have h0:(ns.map V.int).any trV=false:=by
   cases z:(ns.map V.int).any trV with
   |false=>rfl
   |true=>exact absurd ((z3c ns).mp z) hnz
  rw[h0]
  refine z1X ?_
  have z0:∀j,j<m→v rs j=0:=fun j hj=>by
   rw[vns j hj]
   refine q0C fun hc=>hnz (z5t hc)
  refine⟨_,rfl,_,rfl,_,_,_,_,rfl,rfl,SqL.of (g2 _ _ er'),by rw[q0m];exact y1o _ _,rfl,_,rfl,?_⟩
  refine z5z (fun c=>?_) (fun c=>?_)
  ·have hz:last=0:=by simpa using c
   refine⟨_,rfl,l,_,rfl,y2Y (hl.same g12),fun r3 hr3=>?_⟩
   refine q1 r3 bs us _ (g12.free hr3) (g12.trans (z0d hr3 _)) z0b (htu.same (g12.trans (z0d hr3 _))) hR zb ?_
   refine hsame fun j=>?_
   by_cases hj:j<m
   ·exact z0 j hj
   ·by_cases hj2:j=m
    ·rw[hj2,vl,hz]
    ·show rs.getD j 0=0
     rw[q0c,q1m (by lia)];rfl
  ·have hz:last≠0:=fun z=>c (by simp[z])
   exact q2 _ g12 ⟨v rs,hoff,z0,by rw[vl];exact hz⟩
end
end L2
namespace L2
open PySem PySem.Spec PyProof.Rows
section
open Fr Wl Rk Pt Pa
open Builtin.Int (intBits)
variable {P:Program}{w:World}{K:PySem.W.Frag}{mg:Str→Option Value}{base:Heap}{f:Addr}{fd:FuncData}
theorem y1O {A:Around}{k:Nat} (hr:Room k A):A.units+2<cLine:=q1q (Nat.add_le_add_left (by decide:2≤64) _) hr.units
def kk (us:List (List Int)):K2:=us.map fun t=>t.map Sum.inl
theorem y3J {us ws:List (List Int)} (h:kk us=kk ws):us=ws:=(q1h fun a b e=>(q1h fun x y h=>by injection h).mp e).mp h
structure PtD where
 us:List (List Int)
 bs:List Addr
 a:Addr
def ky (p:PtD):K2×Addr:=(kk p.us,p.a)
def PtAt (H:Hp) (p:PtD):Prop:=H p.a=some (.tup (p.bs.map V.ref))∧TsA H p.bs p.us
def PtLi (H:Hp) (p:PtD):Prop:=H p.a=some (.lst (p.bs.map V.ref))∧TsA H p.bs p.us
theorem PtAt.key {H:Hp}{p:PtD} (h:PtAt H p):z3S H (kk p.us) p.a:=by
 refine⟨p.bs,h.1,by rw[h.2.1];unfold kk;rw[List.length_map],fun i r x e1 e2=>?_⟩
 unfold kk at e2
 rw[q0j] at e2
 obtain⟨t,ht,rfl⟩:=q0v.mp e2
 rw[q0w]
 exact h.2.2 i r t e1 ht
theorem PtAt.mono {H H':Hp}{p:PtD} (h:PtAt H p) (g:∀b ys,H b=some (.tup ys)→H' b=some (.tup ys)):PtAt H' p:=⟨g _ _ h.1,h.2.1,fun i a t e1 e2=>g _ _ (h.2.2 i a t e1 e2)⟩
def z8V (ps:List PtD) (q:PtD):List PtD:=if (ps.any fun p=>decide (p.us=q.us))=true then ps else ps++[q]
theorem y3k (ps:List PtD) (q:PtD):z7G (ps.map ky) (kk q.us) q.a=(z8V ps q).map ky:=by
 have e:((ps.map ky).any fun p=>decide (p.1=kk q.us))=ps.any fun p=>decide (p.us=q.us):=by
  rw[List.any_map]
  congr 1
  funext p
  show decide (kk p.us=kk q.us)=decide (p.us=q.us)
  by_cases c:p.us=q.us
  ·rw[c,decide_eq_true rfl,decide_eq_true rfl]
  ·rw[decide_eq_false c,decide_eq_false fun z=>c (y3J z)]
 unfold z7G z8V
 rw[e]
 split
 ·rfl
 ·rw[q0m];rfl
theorem y0C (ps:List PtD) (q:PtD):(z8V ps q).length ≤ps.length+1:=by
 unfold z8V
 split
 ·lia
 ·rw[q0x,q0I];lia
theorem y0B {ps:List PtD}{q p:PtD} (h:p∈z8V ps q):p∈ps∨p=q:=by
 unfold z8V at h
 split at h
 ·exact .inl h
 ·rcases q0r.mp h with h|h
  ·exact .inl h
  ·exact .inr (q0g.mp h)
theorem y2j (ps:List PtD) (q:PtD) (h:(ps.map PtD.us).Nodup):((z8V ps q).map PtD.us).Nodup ∧∀x,x∈(z8V ps q).map PtD.us↔x∈ps.map PtD.us∨x=q.us:=by
 unfold z8V
 split
 ·rename_i c
  obtain⟨p,hp,e⟩:=q1i.mp c
  refine⟨h,fun x=>⟨.inl,fun z=>z.elim id fun z=>?_⟩⟩
  rw[z,←of_decide_eq_true e]
  exact q0e.mpr ⟨p,hp,rfl⟩
 ·rename_i c
  have hn:q.us∉ps.map PtD.us:=fun z=>c (by
   obtain⟨p,hp,e⟩:=q0e.mp z
   exact q1i.mpr ⟨p,hp,decide_eq_true e⟩)
  rw[q0m]
  refine⟨List.nodup_append.mpr ⟨h,by simp,fun a ha b hb=>?_⟩,fun x=>?_⟩
  ·rw[q0g.mp hb]
   exact fun z=>hn (by have z2:a=q.us:=z;rw[←z2];exact ha)
  ·rw[q0r]
   show _∨x∈[q.us]↔_
   rw[q0g]
theorem z5Q {H:Hp}{d:Addr}{φ:Heap→Prop} (e:H d=some (.ext φ)) (X:HO):∀b ys,H b=some (.tup ys)→upd H d X b=some (.tup ys):=fun b ys h=>by
 rw[z0h (fun z=>by rw[z,e] at h;cases h)];exact h
abbrev z2d:Stmt:=top 14
theorem sc_all_parts:z0x ["walls","parts","numbers","rows","more"] ["walls"] (z0n z2d):=⟨rfl,rfl,rfl,by decide+kernel,rfl,by decide+kernel,by decide+kernel⟩
def z3X (K:PySem.W.Frag):Sp:=fun vs H Q _=>∃(b:Addr) (as:List Addr) (ws:List (List Int)) (m B:Nat),vs=[.ref b]∧H b=some (.lst (as.map V.ref))∧TsA H as ws∧ws.length≤8∧m≤4∧B≤130∧(∀t∈ws,t.length=m+1∧∀n∈t,intBits n≤B)∧
 ∀(r:Addr) (ps:List PtD) (H':Hp),H r=none→Same H H'→H' r=some (.lst (ps.map fun p=>V.ref p.a))→(∀p∈ps,H p.a=none∧PtLi H' p)→ps.length≤256→PartsI m (bnJ B) ws (ps.map PtD.us)→Q (.ref r) H'
theorem z5r (T:Txt mg) (F:Fun K "all_parts" "all_parts" z2d f fd) (c_joined:Cal P w K mg base 5 "joined" ["rows","numbers"] (z4p K)):FnOk P w K mg base CX0 6 f fd ["walls"] (z3X K):=by
 refine F.ok sc_all_parts (fun vs H Q E h=>?_) (fun cdv A outer s H vs Q E hr h=>?_)
 ·obtain⟨_,_,_,_,_,rfl,_⟩:=h;rfl
 obtain⟨b,as,ws,m,B,rfl,hb,hts,t8,m4,hB,zt,q⟩:=h
 refine⟨_,(z0c (z0p (i:=1) sc_all_parts.nd rfl (Or.inl rfl) (y0O (y1O hr) (z2M z0e) z1W))
  (z0c (z0W PassesOwn.never rfl (z0A (K:=K) rfl (pv 0)) (z0k (i:=2) sc_all_parts.nd rfl (Or.inl rfl)) (z0i (z0W PassesOwn.never rfl (z0A (K:=K) rfl (z0E (z8l rfl) rfl T.list boot_list (z0a (pv 1) z0e))) (z0k (i:=3) sc_all_parts.nd rfl (Or.inl rfl)) (z0c (z0p (i:=4) sc_all_parts.nd rfl (Or.inl rfl) (z0B c_joined hr rfl (z0a (pv 3) (z0a (pv 2) z0e))))
  (z0i (z0O (z8W (z9f (pv 4))) (z0i (y2k (y1O hr) (pv 1) (z0E (z1q (K:=K) rfl) rfl T.tuple boot_tuple (z0a (pv 4) z0e)) z1W rfl)) z0v))))))
  (z0i (z0y (z0J (Nc:=["rows"]) (fr:=[none]) rfl (pi_d2 (pv 1)) rfl (by decide) rfl (by decide) rfl trivial trivial (fun _ _ _ _=>(z0k (i:=0) (show List.Nodup (["rows"]:List Str) from by decide) rfl (Or.inl rfl))) (fun _ _ _ _=>z0U) (fun _ _ _ _=>(z0E (z0Y (K:=K) rfl) rfl T.list boot_list (z0a (pv 0) z0e)))))))),?_⟩
 refine z0o (fun σ H'=>∃(d:Addr) (ps:List PtD),σ=[some (.ref b),some (.ref d),none,none,none]∧H d=none∧Same H H'∧H' d=some (D2 P w d (ps.map ky))∧(∀p∈ps,PtAt H' p)∧ps.length=1∧PartsI m (bnJ B) [] (ps.map PtD.us)) (fun N hN=>?_) ?_
 ·intro d hd
  refine⟨q0A _,fun e he=>?_⟩
  have g1:=z0d hd (D2 P w d [])
  have g2:=z0d he (.tup [])
  have ed:=g2 _ _ (show upd H d (D2 P w d []) d=_ from z0b)
  refine⟨e,[],rfl,rfl,ed,PtAt.key (p:=⟨[],[],e⟩) ⟨z0b,TsA.nil⟩,?_⟩
  refine hN _ _ ⟨d,[⟨[],[],e⟩],rfl,hd,fun c o h=>by rw[z0h (z0f h hd)];exact (g1.trans g2) _ _ h,z0b,fun p hp=>?_,rfl,PartsI.start⟩
  rw[q0g.mp hp]
  exact⟨z5Q ed _ _ _ z0b,TsA.nil⟩
 rintro σ0 H0 ⟨d,ps0,rfl,hd,g0,e0,hP0,l0,hI0⟩
 refine z0o (fun σ H'=>∃(ps:List PtD) (s2 s3 s4:Option V),σ=[some (.ref b),some (.ref d),s2,s3,s4]∧Same H H'∧H' d=some (D2 P w d (ps.map ky))∧(∀p∈ps,PtAt H' p)∧ps.length≤256∧PartsI m (bnJ B) ws (ps.map PtD.us)) (fun N hN=>?_) ?_
 ·refine⟨_,rfl,b,rfl,⟨_,SqL.of (g0 _ _ hb)⟩,?_⟩
  refine z0D (z0r K b (as.map V.ref)) (fun i σ H'=>∃(ps:List PtD) (s2 s3 s4:Option V),σ=[some (.ref b),some (.ref d),s2,s3,s4]∧Same H H'∧H' d=some (D2 P w d (ps.map ky))∧(∀p∈ps,PtAt H' p)∧ps.length≤2^i∧PartsI m (bnJ B) (ws.take i) (ps.map PtD.us)) ⟨ps0,_,_,_,rfl,g0,e0,hP0,by rw[l0];decide,hI0⟩ (fun i σ H' _ h=>by obtain⟨_,_,_,_,_,g,_⟩:=h;exact SqL.of (g _ _ hb)) ?_ ?_
  ·clear e0 hP0 l0 hI0
   rintro i x σ H1 H2 hi ⟨ps,s2,s3,s4,rfl,g,ed,hP,pl,hI⟩ ⟨rfl,hx⟩
   rw[q0a,hts.1] at hi
   rw[q0j] at hx
   obtain⟨a,ha,rfl⟩:=q0v.mp hx
   have hti:ws[i]? =some ws[i]:=q0b hi
   have htm:ws[i]∈ws:=q0F hi
   generalize ws[i]=u at hti htm
   have tk:ws.take (i+1)=ws.take i++[u]:=by rw[q0L,hti];rfl
   obtain⟨ul,ub⟩:=zt u htm
   have hau:=g _ _ (hts.2 i a u ha hti)
   have d8:ps.length≤128:=q0q pl (q0q (Nat.pow_le_pow_right (by decide) (show i≤7 by lia)) (by decide))
   refine⟨_,rfl,d,ps.map ky,rfl,ed,by rw[q0a];lia,fun l hl=>?_⟩
   have exs:((ps.map ky).map fun p=>V.ref p.2)=ps.map fun p=>V.ref p.a:=by rw[q0w];rfl
   rw[exs]
   have gl:=z0d hl (.lst (ps.map fun p=>V.ref p.a))
   have el0:upd H2 l (.lst (ps.map fun p=>V.ref p.a)) l=some (.lst (ps.map fun p=>V.ref p.a)):=z0b
   generalize upd H2 l (.lst (ps.map fun p=>V.ref p.a))=H3 at*
   refine⟨l,rfl,⟨_,SqL.of el0⟩,?_⟩
   refine z0D (z0r K l (ps.map fun p=>V.ref p.a)) (fun j σ H'=>∃(ps':List PtD) (s3 s4:Option V),σ=[some (.ref b),some (.ref d),some (.ref a),s3,s4]∧Same H H'∧H' l=some (.lst (ps.map fun p=>V.ref p.a))∧H' d=some (D2 P w d (ps'.map ky))∧(∀p∈ps',PtAt H' p)∧(∀p∈ps,PtAt H' p)∧H' a=some (.tup (u.map V.int))∧ps'.length≤ps.length+j∧MidI m (bnJ B) (ws.take i) u (ps.map PtD.us) (ps'.map PtD.us) j)
        ⟨ps,_,_,rfl,g.trans gl,el0,gl _ _ ed,fun p hp=>(hP p hp).mono fun _ _=>gl _ _,fun p hp=>(hP p hp).mono fun _ _=>gl _ _,gl _ _ hau,q0k _,hI.mid u⟩ (fun j σ H' _ h=>let ⟨_,_,_,_,_,hl,_⟩:=h;SqL.of hl) ?_ ?_
   ·rintro j y σ H4 H5 hj ⟨ps',s3',s4',rfl,g',el,ed',hP',hPo,hau',pl',hM⟩ ⟨rfl,hy⟩
    rw[q0a] at hj
    rw[q0j] at hy
    obtain⟨p,hp,rfl⟩:=q0v.mp hy
    have hpm:=q0s hp
    have hpu:(ps.map PtD.us)[j]? =some p.us:=by rw[q0j,hp];rfl
    obtain⟨gd1,gd2⟩:=hI.good p.us (q0e.mpr ⟨p,hpm,rfl⟩)
    obtain⟨hp1,hp2⟩:=hPo p hpm
    refine⟨_,rfl,_,rfl,p.a,a,false,p.bs,p.us,u,m,B,rfl,SqT.of hp1,hp2,hau',ul,m4,hB,ub,gd1,gd2,fun r2 bs2 us2 H6 hr2 g6 er2 hts2 hR2 hb2 hI2=>?_,fun H6 g6 ho=>?_⟩
    ·refine⟨_,rfl,_,rfl,?_⟩
     refine z5y ?_
     refine⟨_,rfl,_,rfl,r2,_,rfl,.inl ⟨SqL.of er2,fun t ht=>?_⟩⟩
     have g7:=z0d ht (.tup (bs2.map V.ref))
     have et:upd H6 t (.tup (bs2.map V.ref)) t=some (.tup (bs2.map V.ref)):=z0b
     generalize upd H6 t (.tup (bs2.map V.ref))=H7 at*
     have g67:=g6.trans g7
     have ed7:=g67 _ _ ed'
     have kt:PtAt H7 ⟨us2,bs2,t⟩:=⟨et,hts2.same g7⟩
     refine⟨d,t,ps'.map ky,kk us2,rfl,rfl,rfl,ed7,fun k hk=>?_,kt.key,z1E (by rw[q0a];lia),?_⟩
     ·obtain⟨p',hp',rfl⟩:=q0e.mp hk
      exact ((hP' p' hp').mono fun _ _=>g67 _ _).key
     ·have pe:=y3k ps' ⟨us2,bs2,t⟩
      dsimp only at pe
      rw[pe]
      have tu:=z5Q ed7 (D2 P w d ((z8V ps' ⟨us2,bs2,t⟩).map ky))
      obtain⟨n1,n2⟩:=y2j ps' ⟨us2,bs2,t⟩ hM.nd
      have pl2:=y0C ps' ⟨us2,bs2,t⟩
      have hld:l≠d:=fun z=>by rw[z,ed'] at el;cases el
      refine⟨z8V ps' ⟨us2,bs2,t⟩,_,_,rfl,fun c o h=>?_,by rw[z0h hld];exact g67 _ _ el,z0b,fun p' hp'=>?_,fun p' hp'=>((hPo p' hp').mono fun _ _=>g67 _ _).mono tu,tu _ _ (g67 _ _ hau'),by lia,hM.put hI hpu hR2 hb2 hI2 n1 n2⟩
      ·rw[z0h (z0f h hd)];exact (g'.trans g67) _ _ h
      ·rcases y0B hp' with h|rfl
       ·exact ((hP' p' h).mono fun _ _=>g67 _ _).mono tu
       ·exact kt.mono tu
    ·refine⟨_,rfl,_,rfl,?_⟩
     refine z1X ?_
     exact⟨ps',_,_,rfl,g'.trans g6,g6 _ _ el,g6 _ _ ed',fun p' hp'=>(hP' p' hp').mono fun _ _=>g6 _ _,fun p' hp'=>(hPo p' hp').mono fun _ _=>g6 _ _,g6 _ _ hau',by lia,hM.off hpu ho⟩
   ·rintro σ H4 ⟨ps',s3',s4',rfl,g',el,ed',hP',hPo,hau',pl',hM⟩
    rw[q0a] at pl' hM
    refine⟨ps',_,_,_,rfl,g',ed',hP',by rw[Nat.pow_succ];lia,?_⟩
    rw[tk]
    exact MidI.done (by rw[q0a];exact hM) hI
  ·rintro σ H1 ⟨ps,s2,s3,s4,rfl,g,ed,hP,pl,hI⟩
   rw[q0a,hts.1] at pl hI
   rw[q0S] at hI
   exact hN _ _ ⟨ps,_,_,_,rfl,g,ed,hP,q0q pl (q0q (Nat.pow_le_pow_right (by decide) t8) (by decide)),hI⟩
 rintro σ1 H1 ⟨ps,s2,s3,s4,rfl,g,ed,hP,pl,hI⟩
 refine⟨_,rfl,d,ps.map ky,rfl,ed,fun o D hD=>?_⟩
 have tu:=z5Q ed (.frz o (D2 P w d (ps.map ky)))
 have gF:Same H (upd H1 d (.frz o (D2 P w d (ps.map ky)))):=fun c x h=>by rw[z0h (z0f h hd)];exact g _ _ h
 have eF:upd H1 d (.frz o (D2 P w d (ps.map ky))) d=some (.frz o (D2 P w d (ps.map ky))):=z0b
 have hPF:∀p∈ps,PtAt (upd H1 d (.frz o (D2 P w d (ps.map ky)))) p:=fun p hp=>(hP p hp).mono tu
 have ln:((ps.map ky).map fun p=>V.ref p.2).length =ps.length:=by rw[q0a,q0a]
 refine z0S ps ln (y2e P w d o (ps.map ky)) hD (fun p σ=>σ.set 0 (some (.ref p.a))) (fun p e σ=>q1x ..) (fun _=>true) (fun H' p u=>∃q:Addr,u= .ref q∧q≠D∧H q=none∧H' q=some (.lst (p.bs.map V.ref))∧TsA H' p.bs p.us) ?_ (fun H' g'=>g' _ _ eF) (z0l (by rw[ln];lia)) ?_ ?_ ?_ ?_
 ·rintro H4 H5 p u k ⟨acc,hacc⟩ ⟨z,e1,e2,e3,e4,e5⟩
  exact⟨z,e1,e2,e3,k _ _ e2 e4,e5.1,fun i a t ea et=>k _ _ (fun y=>by have:=e5.2 i a t ea et;rw[y,hacc] at this;cases this) (e5.2 i a t ea et)⟩
 ·intro i x p hx hp σ H3 g3 S h
  rw[q0w,q0j,hp] at hx
  cases hx
  exact h
 ·intro p hp Hc gc S h
  exact h _ (Same.refl _)
 ·rintro p hp _ Hc gc ⟨acc,hacc⟩ S h
  obtain⟨h1,h2⟩:=(hPF p hp).mono fun _ _=>gc _ _
  refine⟨_,rfl,p.a,_,rfl,.inr (SqT.of h1),fun z hz=>?_⟩
  have g4:=z0d hz (.lst (p.bs.map V.ref))
  have zD:z≠D:=fun y=>by rw[y,hacc] at hz;cases hz
  exact h _ _ g4 ⟨z,rfl,zD,(gF.trans gc).free hz,z0b,h2.same g4⟩
 ·intro us H3 g3 hD3 he
  rw[z0F] at he
  have out:∀(ps:List PtD) (us:List V),Each (fun p u=>∃q:Addr,u=V.ref q∧q≠D∧H q=none∧H3 q=some (.lst (p.bs.map V.ref))∧TsA H3 p.bs p.us) ps us→∃qs:List PtD,us=(qs.map fun p=>V.ref p.a)∧qs.map PtD.us=ps.map PtD.us∧∀p∈qs,H p.a=none∧PtLi H3 p:=by
   intro ps us h
   induction h with
   |nil=>exact⟨[],rfl,rfl,fun p hp=>nomatch hp⟩
   | @cons p u ps us h1 _ ih=>
     obtain⟨z,rfl,_,e3,e4,e5⟩:=h1
     obtain⟨qs,rfl,k2,k3⟩:=ih
     refine⟨⟨p.us,p.bs,z⟩::qs,rfl,by rw[q0t,q0t,k2],fun x hx=>?_⟩
     rcases q0o.mp hx with rfl|hx
     ·exact⟨e3,e4,e5⟩
     ·exact k3 x hx
  obtain⟨qs,rfl,k2,k3⟩:=out ps us he
  have kl:qs.length=ps.length:=by have:=congrArg List.length k2;rw[q0a,q0a] at this;exact this
  exact q D qs H3 (gF.free hD) (gF.trans g3) hD3 k3 (by lia) (by rw[k2];exact hI)
end
end L2
namespace L2
open PySem PySem.Spec PyProof.Rows
section
open Fr Wl Rk Pt Pa
open Builtin.Int (intBits)
variable {P:Program}{w:World}{K:PySem.W.Frag}{mg:Str→Option Value}{base:Heap}{f:Addr}{fd:FuncData}
def hz (us:List (List Int)) (t:List Int):Bool:= !((us.foldl z0m t).map V.int).any trV
def z0L (us ws:List (List Int)):List Nat:=(List.range ws.length).filter fun i=>hz us (ws.getD i [])
theorem y1b {m:Nat}{us:List (List Int)}{t:List Int} (h:Rws m us) (hl:t.length=m+1):hz us t=true↔In (us.map v) (v t):=by
 have e1:hz us t=true↔∀n∈us.foldl z0m t,n=0:=by
  unfold hz
  rw[Bool.not_eq_true',←Bool.not_eq_true,z3c]
  exact⟨fun h n hn=>q0C fun z=>h ⟨n,hn,z⟩,fun h ⟨n,hn,z⟩=>z (h n hn)⟩
 rw[e1]
 obtain⟨rl,rz,c,c0,hc⟩:=h.rest hl
 constructor
 ·intro h0
  have z:∀j,v (us.foldl z0m t) j=0:=fun j=>by
   show (us.foldl z0m t).getD j 0=0
   rw[q0c]
   cases e:(us.foldl z0m t)[j]? with
   |none=>rfl
   |some n=>exact h0 n (List.mem_of_getElem? e)
  rw[h.same hl z]
  exact In.one q0i
 ·intro hi n hn
  have hr':In (us.map v) (v (us.foldl z0m t)):=((In.of hc).add (hi.mul c)).cast fun j=>by lia
  have all:∀p,v (us.foldl z0m t) p=0:=fun p=>by
   induction p using Nat.strongRecOn with
   |_ p ih=>
    refine q0C fun z=>?_
    obtain⟨t',ht',e⟩:=h.first hr' z ih
    exact z (by rw[←e];exact rz t' ht')
  obtain⟨i,hi,rfl⟩:=q0Q.mp hn
  have:=all i
  rw[show v (us.foldl z0m t) i=(us.foldl z0m t).getD i 0 from rfl,q0c,q0b hi] at this
  exact this
abbrev z3n:Stmt:=top 15
theorem z7B:z0x ["walls","rows"] ["walls","rows"] (z0n z3n):=⟨rfl,rfl,rfl,by decide+kernel,rfl,by decide+kernel,by decide+kernel⟩
def z5a (K:PySem.W.Frag):Sp:=fun vs H Q _=>∃(b l:Addr) (c:Bool) (as bs:List Addr) (ws us:List (List Int)) (m B:Nat),vs=[.ref b,.ref l]∧H b=some (.lst (as.map V.ref))∧TsA H as ws∧SqB c K H l (bs.map V.ref)∧TsA H bs us∧ws.length≤8∧m≤4∧B≤130∧(∀t∈ws,t.length=m+1∧∀n∈t,intBits n≤B)∧Rws m us∧(∀t∈us,∀n∈t,intBits n≤bnJ B us.length)∧
 ∀(r:Addr) (H':Hp),H r=none→Same H H'→H' r=some (.lst ((z0L us ws).map fun i=>V.int (i:Nat)))→Q (.ref r) H'
theorem z7Q (T:Txt mg) (F:Fun K "holders" "holders" z3n f fd) (c_rest_by:Cal P w K mg base 5 "rest_by" ["rows","numbers"] (z8u K)):FnOk P w K mg base CX0 6 f fd ["walls","rows"] (z5a K):=by
 refine F.ok z7B (fun vs H Q E h=>?_) (fun cdv A outer s H vs Q E hr h=>?_)
 ·obtain⟨_,_,_,_,_,_,_,_,_,rfl,_⟩:=h;rfl
 obtain⟨b,l,c,as,bs,ws,us,m,B,rfl,hb,hws,hl,hus,w8,m4,hB,zw,hR,zu,q⟩:=h
 refine⟨_,(z0i (z0y (z0J (Nc:=["place","numbers","rows"]) (fr:=[none,none,some 1]) rfl (z6I (K:=K) rfl rfl T.enumerate (z0a (pv 0) z0e)) rfl (by decide) rfl (by decide) rfl ⟨rfl,trivial⟩ ⟨⟨rfl,rfl,rfl,rfl⟩,trivial⟩ (fun _ _ _ _=>(z1h (K:=K) rfl 2 rfl (z0t (z0k (i:=0) (show List.Nodup (["place","numbers","rows"]:List Str) from by decide) rfl (Or.inl rfl)) (z0t (z0k (i:=1) (show List.Nodup (["place","numbers","rows"]:List Str) from by decide) rfl (Or.inl rfl)) z1g)))) (fun _ _ _ _=>(z1o (z1M (z1y (z0u (z3L (K:=K) rfl rfl) rfl T.any boot_any (z0a (z0B c_rest_by hr rfl (z0a (pv 2) (z0a (pv 1) z0e))) z0e)))))) (fun _ _ _ _=>(pv 0))))),?_⟩
 have ul:=hR.len
 have b4:bnJ B us.length≤5394:=bnJ4 hB (by lia)
 refine⟨_,rfl,b,true,_,rfl,SqL.of hb,fun D hD=>?_⟩
 have el:(z2S (as.map V.ref)).length =ws.length:=by unfold z2S;rw[List.length_mapIdx,List.length_map,hws.1]
 have ec:∀(i:Nat) (c:V×V),(z2S (as.map V.ref))[i]? =some c→∃a,as[i]? =some a∧c=(.int (i:Nat),.ref a):=fun i c h=>by
  unfold z2S at h
  rw[List.getElem?_mapIdx,q0j] at h
  cases e:as[i]? with
  |none=>rw[e] at h;cases h
  |some a=>rw[e] at h;cases h;exact⟨a,rfl,rfl⟩
 refine z8h rfl (z4a K true b (as.map V.ref)) hD (fun i=>hz us (ws.getD i [])) Prod.fst ?_ (fun H' g'=>SqL.of (g' _ _ hb)) (z0l (by rw[el];lia)) ?_ ?_ ?_
 ·intro p u v σ H hp S h
  exact⟨p,_,rfl,SqT.of hp,rfl,_,_,rfl,_,_,rfl,rfl,h⟩
 ·intro i c' hc Hc gc S h
  obtain⟨a,ha,rfl⟩:=ec i c' hc
  have hi:i<ws.length:=by rw[←hws.1];exact (q0E.mp ha).1
  have et:ws[i]? =some ws[i]:=q0b hi
  have eg:ws.getD i []=ws[i]:=by rw[q0c,et];rfl
  have htm:ws[i]∈ws:=q0F hi
  rw[eg] at h
  generalize ws[i]=t at et htm h
  obtain⟨t1,t2⟩:=zw t htm
  refine⟨_,rfl,_,rfl,l,a,c,bs,us,t,B,bnJ B us.length,rfl,hl.same gc,hus.same gc,.inr (SqT.of (gc _ _ (hws.2 i a t ha et))),by lia,by lia,fun u hu=>⟨by rw[(hR.row u hu).1,t1],hR.nz hu,zu u hu⟩,t2,by lia,fun j hj=>?_,fun r H1 zr lr g1 er=>?_⟩
  ·have:j*(bnJ B us.length+1)≤3*(bnJ B us.length+1):=Nat.mul_le_mul_right _ (by lia)
   lia
  ·refine⟨r,_,rfl,.inl (SqL.of er),z2y _,?_⟩
   exact⟨_,rfl,h _ g1⟩
 ·intro i c' hc Hc gc S h
  exact⟨_,rfl,h⟩
 ·intro H' g' hD'
  refine q D H' hD g' ?_
  rw[hD',el]
  unfold z0L
  congr 1
  refine congrArg HO.lst (q0T fun i hi=>?_)
  have hi2:i<ws.length:=q1a.mp (q1d.mp hi).1
  have ha:as[i]? =some (as[i]'(by rw[hws.1];exact hi2)):=q0b (by rw[hws.1];exact hi2)
  have:(z2S (as.map V.ref))[i]? =some (.int (i:Nat),.ref (as[i]'(by rw[hws.1];exact hi2))):=by
   unfold z2S
   rw[List.getElem?_mapIdx,q0j,ha];rfl
  rw[q0c,this];rfl
end
end L2
namespace L2
open PySem PySem.Spec PyProof.Rows
section
open Fr Wl Rk Pt Pa
open Builtin.Int (intBits)
variable {P:Program}{w:World}{K:PySem.W.Frag}{mg:Str→Option Value}{base:Heap}{f:Addr}{fd:FuncData}
def amL (xs ys:List Int):Bool:=xs.all fun x=>ys.contains x
theorem z9I (x:Int) (ys:List Int):inV (V.int x) (ys.map V.int)=ys.contains x:=by
 induction ys with
 |nil=>rfl
 |cons y ys ih=>
  rw[q0t,List.contains_cons,←ih]
  show ((y==x) || inV (V.int x) (ys.map V.int))=_
  rw[show (y==x)=(x==y) from by rw[q1p,beq_iff_eq,beq_iff_eq];exact eq_comm]
abbrev z5Y:Stmt:=top 16
theorem sc_among:z0x ["places","others","place"] ["places","others"] (z0n z5Y):=⟨rfl,rfl,rfl,by decide+kernel,rfl,by decide+kernel,by decide+kernel⟩
def z8y (K:PySem.W.Frag):Sp:=fun vs H Q _=>∃(a b:Addr) (xs ys:List Int),vs=[.ref a,.ref b]∧H a=some (.lst (xs.map V.int))∧H b=some (.lst (ys.map V.int))∧Q (.bl (amL xs ys)) H
theorem y0U (T:Txt mg) (F:Fun K "among" "among" z5Y f fd):FnOk P w K mg base CX0 1 f fd ["places","others"] (z8y K):=by
 refine F.ok sc_among (fun vs H Q E h=>?_) (fun cdv A outer s H vs Q E hr h=>?_)
 ·obtain⟨_,_,_,_,rfl,_⟩:=h;rfl
 obtain⟨a,b,xs,ys,rfl,ha,hb,q⟩:=h
 refine⟨_,(z0c (z0W PassesOwn.never rfl (z0A (K:=K) rfl (pv 0)) (z0k (i:=2) sc_among.nd rfl (Or.inl rfl)) (z0i (z0O (z0s (z5m (K:=K) rfl) (pv 2) (pv 1) (by with_unfolding_all rfl)) (z0i (z0y z1W)) z0v)))
  (z0i (z0y z1W))),?_⟩
 refine⟨_,rfl,a,rfl,⟨_,SqL.of ha⟩,?_⟩
 refine z0D (z0r K a (xs.map V.int)) (fun i σ H'=>∃s2,σ=[some (.ref a),some (.ref b),s2]∧H=H'∧(xs.take i).all (fun x=>ys.contains x)=true) ⟨_,rfl,rfl,rfl⟩ (fun i σ H' _ h=>by obtain⟨_,_,rfl,_⟩:=h;exact SqL.of ha) ?_ ?_
 ·rintro i x σ H1 H2 hi ⟨s2,rfl,rfl,hal⟩ ⟨rfl,hx⟩
  rw[q0j] at hx
  obtain⟨n,hn,rfl⟩:=q0v.mp hx
  refine⟨_,rfl,_,rfl,b,_,rfl,.inl (SqL.of hb),rfl,List.all_eq_true.mpr fun x hx=>(by obtain⟨n,_,rfl⟩:=q0e.mp hx;rfl),_,rfl,?_⟩
  rw[z9I]
  cases c:ys.contains n with
  |true=>
   refine z1X ?_
   refine⟨_,rfl,rfl,?_⟩
   rw[q0L,hn,List.all_append,hal]
   show (ys.contains n&&true)=true
   rw[c];rfl
  |false=>
   refine z5y ?_
   have:amL xs ys=false:=by
        unfold amL
        rw[Bool.eq_false_iff]
        intro z
        have:=List.all_eq_true.mp z n (q0s hn)
        rw[c] at this
        cases this
   rw[this] at q
   exact q
 ·rintro σ H1 ⟨s2,rfl,rfl,hal⟩
  rw[q0a,q0S] at hal
  have:amL xs ys=true:=hal
  rw[this] at q
  exact q
end
end L2
namespace L2
open PySem PySem.Spec PyProof.Rows
section
open Fr Wl Rk Pt Pa
open Builtin.Int (intBits)
variable {P:Program}{w:World}{K:PySem.W.Frag}{mg:Str→Option Value}{base:Heap}{f:Addr}{fd:FuncData}
structure Rung where
 pl:List Int
 us:List (List Int)
 s:Int
 ap:Addr
 ar:Addr
 bs:List Addr
 a:Addr
def RungAt (H:Hp) (g:Rung):Prop:=H g.a=some (.tup [V.ref g.ap,V.ref g.ar,V.int g.s])∧H g.ap=some (.lst (g.pl.map V.int))∧H g.ar=some (.lst (g.bs.map V.ref))∧TsA H g.bs g.us
def rsL (rs:List (List Int×Int)) (pl:List Int):Int:=if rs=[] then 1 else 0 - ((rs.filter fun r=>amL r.1 pl).map Prod.snd).sum
abbrev z2a:Stmt:=top 17
theorem z5d:z0x ["rungs","places"] ["rungs","places"] (z0n z2a):=⟨rfl,rfl,rfl,by decide+kernel,rfl,by decide+kernel,by decide+kernel⟩
def y1x (K:PySem.W.Frag):Sp:=fun vs H Q _=>∃(l b:Addr) (rs:List Rung) (pl:List Int),vs=[.ref l,.ref b]∧H l=some (.lst (rs.map fun g=>V.ref g.a))∧(∀g∈rs,RungAt H g)∧H b=some (.lst (pl.map V.int))∧rs.length≤1000∧
 ∀H',Same H H'→Q (.int (rsL (rs.map fun g=>(g.pl,g.s)) pl)) H'
theorem z5o (T:Txt mg) (F:Fun K "next_sign" "next_sign" z2a f fd) (c_among:Cal P w K mg base 2 "among" ["places","others"] (z8y K)):FnOk P w K mg base CX0 3 f fd ["rungs","places"] (y1x K):=by
 refine F.ok z5d (fun vs H Q E h=>?_) (fun cdv A outer s H vs Q E hr h=>?_)
 ·obtain⟨_,_,_,_,rfl,_⟩:=h;rfl
 obtain⟨l,b,rs,pl,rfl,hl,hrs,hb,r1,q⟩:=h
 refine⟨_,(z0c (z0O (z1M (y0F (pv 0) (fun _=>rfl))) (z0i (z0y z0g)) z0v)
  (z0i (z0y (z0w z1Z z0g (z0u (z5G (K:=K) rfl rfl) rfl T.sum boot_sum (z0a (z0J (Nc:=["rung","places"]) (fr:=[none,some 1]) rfl (z0A (K:=K) rfl (pv 0)) rfl (by decide) rfl (by decide) rfl ⟨rfl,trivial⟩ ⟨⟨rfl,rfl,rfl,rfl⟩,trivial⟩ (fun _ _ _ _=>(z0k (i:=0) (show List.Nodup (["rung","places"]:List Str) from by decide) rfl (Or.inl rfl))) (fun _ _ _ _=>(z1o (z1y (z0B c_among hr rfl (z0a (z0G (z1F (K:=K) rfl) (pv 0) z0g (fun _ _=>rfl)) (z0a (pv 1) z0e)))))) (fun _ _ _ _=>(z0G (z1F (K:=K) rfl) (pv 0) z0g (fun _ _=>rfl)))) z0e)))))),?_⟩
 refine⟨_,rfl,_,.inl ⟨_,SqL.of hl,rfl⟩,?_⟩
 cases hrr:rs with
 |nil=>
  refine z5y ?_
  rw[hrr] at q
  exact q _ (Same.refl _)
 |cons g0 rs0=>
  refine z1X ?_
  have ne:rs≠[]:=by rw[hrr];exact fun z=>nomatch z
  clear hrr
  refine⟨_,rfl,l,rfl,⟨_,SqL.of hl⟩,fun D hD=>?_⟩
  have ln:(rs.map fun g=>V.ref g.a).length =rs.length:=q0a ..
  refine z0S rs ln (z0r K l (rs.map fun g=>V.ref g.a)) hD (fun g σ=>σ.set 0 (some (.ref g.a))) (fun p e σ=>q1x ..) (fun g=>amL g.pl pl) (fun H' g u=>u= .int g.s) (fun _ _ _ _ _ _ h=>h) (fun H' g'=>SqL.of (g' _ _ hl)) (z0l (by rw[ln];lia)) ?_ ?_ ?_ ?_
  ·intro i x g hx hg σ H3 g3 S h
   rw[q0j,hg] at hx
   cases hx
   exact h
  ·intro g hg Hc gc S h
   obtain⟨h1,h2,h3,h4⟩:=hrs g hg
   refine⟨_,rfl,_,_,_,_,rfl,rfl,SqT.of (gc _ _ h1),rfl,_,rfl,g.ap,b,g.pl,pl,rfl,gc _ _ h2,gc _ _ hb,?_⟩
   exact⟨_,rfl,h _ (Same.refl _)⟩
  ·rintro g hg _ Hc gc ⟨acc,hacc⟩ S h
   obtain⟨h1,h2,h3,h4⟩:=hrs g hg
   exact⟨_,rfl,_,_,_,_,rfl,rfl,SqT.of (gc _ _ h1),rfl,h _ _ (Same.refl _) rfl⟩
  ·intro us H3 g3 hD3 he
   have eu:us=((rs.filter fun g=>amL g.pl pl).map fun g=>g.s).map V.int:=by
        generalize rs.filter (fun g=>amL g.pl pl)=fs at he
        clear hD3
        induction he with
        |nil=>rfl
        |cons h1 _ ih=>rw[h1,ih];rfl
   rw[eu] at hD3
   refine⟨D,_,rfl,SqL.of hD3,_,_,rfl,rfl,?_⟩
   have es:rsL (rs.map fun g=>(g.pl,g.s)) pl=0 - ((rs.filter fun g=>amL g.pl pl).map fun g=>g.s).sum :=by
        unfold rsL
        rw[if_neg (fun z=>ne (List.map_eq_nil_iff.mp z)),List.filter_map,q0w]
        rfl
   rw[es] at q
   exact q _ g3
end
end L2
namespace L2
open PySem PySem.Spec PyProof.Rows
section
open Fr Wl Rk Pt Pa Srt
open Builtin.Int (intBits)
variable {P:Program}{w:World}{K:PySem.W.Frag}{mg:Str→Option Value}{base:Heap}{f c Pt:Addr}{fd:FuncData}
def ladQ:Str:=("ladder.<locals>.":Str)++"<lambda>"
abbrev TabL (Pt:Addr) (H:Hp):Prop:=Lam.TabOk Pt 82 42 ladQ H
abbrev y0h (Pt:Addr) (H:Hp):Prop:=Lam.Tab1 Pt 82 42 ladQ H
theorem TabL.lst {H:Hp}{a:Addr}{xs:List V} (h:TabL Pt H) (e:H a=some (.lst xs)):a≠Pt:=fun z=>by
 rcases h with h|⟨_,h,_⟩<;> ·rw[z,h] at e;cases e
theorem TabL.tup {H:Hp}{a:Addr}{xs:List V} (h:TabL Pt H) (e:H a=some (.tup xs)):a≠Pt:=fun z=>by
 rcases h with h|⟨_,h,_⟩<;> ·rw[z,h] at e;cases e
def zL (q:List Nat):List Int:=q.map fun i:Nat=>(i:Int)
structure LdD where
 us:List (List Int)
 bs:List Addr
 ap:Addr
 ar:Addr
 a:Addr
def LdAt (H:Hp) (ws:List (List Int)) (d:LdD):Prop:=H d.a=some (.tup [V.ref d.ap,V.ref d.ar])∧H d.ap=some (.lst ((zL (z0L d.us ws)).map V.int))∧H d.ar=some (.lst (d.bs.map V.ref))∧TsA H d.bs d.us
def sgs (pls:List (List Int)):List (List Int×Int):=pls.foldl (fun acc pl=>acc++[(pl,rsL acc pl)]) []
theorem z4t (pls:List (List Int)) (pl:List Int):sgs (pls++[pl])=sgs pls++[(pl,rsL (sgs pls) pl)]:=by
 unfold sgs
 rw[List.foldl_append];rfl
theorem z9S {H:Hp}{ws:List (List Int)}{H0:Hp}:∀{ps:List PtD}{us:List V},Each (fun p u=>∃z hp,u=V.ref z∧H z=some (.tup [V.ref hp,V.ref p.a])∧H hp=some (.lst ((zL (z0L p.us ws)).map V.int))∧H0 hp=none) ps us→(∀p∈ps,PtLi H p∧H0 p.a=none)→∃ds:List LdD,us=ds.map (fun d=>V.ref d.a)∧ds.map LdD.us=ps.map PtD.us∧∀d∈ds,LdAt H ws d∧H0 d.ap=none∧H0 d.ar=none
 |_,_,.nil,_=>⟨[],rfl,rfl,fun d hd=>nomatch hd⟩
 |p::ps,_,.cons h1 h2,hp=>by
  obtain⟨z,q,rfl,e1,e2,e3⟩:=h1
  obtain⟨ds,rfl,h3,h4⟩:=z9S h2 fun x hx=>hp x (q0f _ hx)
  obtain⟨⟨a1,a2⟩,a3⟩:=hp p q0i
  refine⟨⟨p.us,p.bs,q,p.a,z⟩::ds,rfl,by rw[q0t,q0t,h3],fun d hd=>?_⟩
  rcases q0o.mp hd with rfl|hd
  ·exact⟨⟨e1,e2,a1,a2⟩,e3,a3⟩
  ·exact h4 d hd
abbrev z1T:Stmt:=top 18
theorem sc_ladder:z0x ["ways","walls","found","rungs","places","rows"] ["ways","walls"] (z0n z1T):=⟨rfl,rfl,rfl,by decide+kernel,rfl,by decide+kernel,by decide+kernel⟩
def ldK (ws us:List (List Int)):Int×List Int:=((us.length:Nat),zL (z0L us ws))
def z6z (K:PySem.W.Frag) (Pt:Addr):Sp:=fun vs H Q _=>∃(x:V) (b:Addr) (as:List Addr) (ws:List (List Int)) (m B:Nat),vs=[x,.ref b]∧H b=some (.lst (as.map V.ref))∧TsA H as ws∧ws.length≤6∧m≤4∧(m=4→ws.length≤5)∧B≤130∧(∀t∈ws,t.length=m+1∧∀n∈t,intBits n≤B)∧TabL Pt H∧
 ∀(r:Addr) (rs:List Rung) (L:List (List (List Int))) (H':Hp),H r=none→Lam.SameT Pt H H'→y0h Pt H'→H' r=some (.lst (rs.map fun g=>V.ref g.a))→(∀g∈rs,RungAt H' g∧H g.ap=none∧H g.ar=none∧g.pl=zL (z0L g.us ws))→PartsI m (bnJ B) ws L→(rs.map Rung.us).Perm L→(rs.map fun g=>ldK ws g.us).Pairwise (fun a b=>ltK b a=false)→(rs.map fun g=>(g.pl,g.s))=sgs (rs.map Rung.pl)→rs.length<64→Q (.ref r) H'
theorem z9h (T:Txt mg) (F:Fun K "ladder" "ladder" z1T f fd) (hcd:fd.code=Value.ref c) (C:PySem.W.CodeHd base c Pt) (B:Lam.BmAt mg base) (c_all_parts:Cal P w K mg base 8 "all_parts" ["walls"] (z3X K)) (c_holders:Cal P w K mg base 8 "holders" ["walls","rows"] (z5a K)) (c_next_sign:Cal P w K mg base 8 "next_sign" ["rungs","places"] (y1x K)):FnOk P w K mg base CX0 9 f fd ["ways","walls"] (z6z K Pt):=by
 refine Lam.okC F hcd sc_ladder (fun vs H Q E h=>?_) (fun A outer s H vs Q E hr h=>?_)
 ·obtain⟨_,_,_,_,_,_,rfl,_⟩:=h;rfl
 obtain⟨x,b,as,ws,m,B0,rfl,hb,hts,w6,m4,m5,hB,zw,tab,q⟩:=h
 refine⟨_,(z0c (z2x (jj:=2) rfl sc_ladder.nd rfl (Or.inl rfl) (Or.inl rfl) (Nc:=["rows","walls"]) (fr:=[none,some 1]) rfl (z0A (K:=K) rfl (z0B c_all_parts hr rfl (z0a (pv 1) z0e))) rfl (by decide) rfl (by decide) rfl ⟨rfl,trivial⟩ ⟨⟨rfl,rfl,rfl,rfl⟩,trivial⟩ (fun _ _ _ _=>(z0k (i:=0) (show List.Nodup (["rows","walls"]:List Str) from by decide) rfl (Or.inl rfl))) (fun _ _ _ _=>z0U) (fun _ _ _ _=>(z2M (z0a (z0B c_holders hr rfl (z0a (pv 1) (z0a (pv 0) z0e))) (z0a (pv 0) z0e)))))
  (z0c (z0p (i:=3) sc_ladder.nd rfl (Or.inl rfl) (z0H z0e))
  (z0c (z0W PassesOwn.never rfl (z0A (K:=K) rfl (Lam.pe_sortLam (k:=5) rfl C B rfl hr rfl T.sorted (pv 2) (by exact⟨rfl,rfl,rfl,by decide+kernel,rfl,by decide+kernel,by decide+kernel⟩) (fun _ _ _ _=>rfl) (fun _ _ _ _ _ _=>(z2M (z0a (z0u (z0Q (K:=K) rfl) rfl T.len PySem.boot_len (z0a (z0G (z1F (K:=K) rfl) (pv 0) z0g (fun _ _=>rfl)) z0e)) (z0a (z0G (z1F (K:=K) rfl) (pv 0) z0g (fun _ _=>rfl)) z0e)))))) (z1h (K:=K) rfl 2 rfl (z0t (z0k (i:=4) sc_ladder.nd rfl (Or.inl rfl)) (z0t (z0k (i:=5) sc_ladder.nd rfl (Or.inl rfl)) z1g))) (z0i (z1C (z6e PySem.F.plainAttrs_list PySem.F.slot_list_append PySem.F.type_list_append z1b (pv 3) (z0a (z2M (z0a (pv 4) (z0a (pv 5) (z0a (z0B c_next_sign hr rfl (z0a (pv 3) (z0a (pv 4) z0e))) z0e)))) z0e)))))
  (z0i (z0y (pv 3)))))),?_⟩
 have hwl:∀t∈ws,t.length=m+1:=fun t ht=>(zw t ht).1
 refine z0o (fun σ H'=>∃(fl:Addr) (ds:List LdD),σ=[some x,some (.ref b),some (.ref fl),none,none,none]∧Same H H'∧H' fl=some (.lst (ds.map fun d=>V.ref d.a))∧(∀d∈ds,LdAt H' ws d∧H d.ap=none∧H d.ar=none)∧PartsI m (bnJ B0) ws (ds.map LdD.us)) (fun N hN=>?_) ?_
 ·refine⟨_,rfl,b,as,ws,m,B0,rfl,hb,hts,by lia,m4,hB,zw,fun ra ps H1 hra g1 era hps psl hPI=>?_⟩
  refine⟨ra,rfl,⟨_,SqL.of era⟩,fun D hD=>?_⟩
  refine z0S ps (by rw[q0a]) (z0r K ra (ps.map fun p=>V.ref p.a)) hD (fun p σ=>σ.set 0 (some (.ref p.a))) (fun d e σ=>q1x ..) (fun _=>true) (fun H' p u=>∃z hp,u=V.ref z∧H' z=some (.tup [V.ref hp,V.ref p.a])∧H' hp=some (.lst ((zL (z0L p.us ws)).map V.int))∧H hp=none∧hp≠D) ?_ (fun H' g'=>SqL.of (g' _ _ era)) (z0l (by rw[q0a];lia)) ?_ ?_ ?_ ?_
  ·rintro Ha Hb d u kk ⟨acc,ha⟩ ⟨z,hp,e1,e2,e3,e4,e5⟩
   exact⟨z,hp,e1,kk _ _ (fun y=>by rw[y,ha] at e2;cases e2) e2,kk _ _ e5 e3,e4,e5⟩
  ·intro i y d hy hd σ H2 g2 S h
   rw[q0j,hd] at hy
   obtain rfl:=Option.some.inj hy
   exact h
  ·intro d hd Hc gc S h
   exact h _ (Same.refl _)
  ·rintro d hd _ Hc gc ⟨acc,hacc⟩ S h
   obtain⟨_,h1,h2⟩:=hps d hd
   obtain⟨hR,zu⟩:=hPI.good d.us (q0n hd)
   refine⟨_,rfl,_,rfl,b,d.a,true,as,d.bs,ws,d.us,m,B0,rfl,(g1.trans gc) _ _ hb,hts.same (g1.trans gc),SqL.of (gc _ _ h1),h2.same gc,by lia,m4,hB,zw,hR,zu,fun hp H2 hhp g2 ehp=>?_⟩
   refine⟨_,rfl,z0l (by show 2≤_;decide),fun z hz=>?_⟩
   have g3:=z0d hz (.tup [V.ref hp,V.ref d.a])
   refine h _ _ (g2.trans g3) ⟨z,hp,rfl,z0b,?_,(g1.trans gc).free hhp,fun y=>by rw[y,hacc] at hhp;cases hhp⟩
   rw[g3 _ _ ehp]
   unfold zL
   rw[q0w];rfl
  ·intro us H2 g2 hD2 he
   rw[z0F] at he
   obtain⟨ds,rfl,k1,k2⟩:=z9S (H0:=H) (ws:=ws) (he.imp fun p u ⟨z,hp,e1,e2,e3,e4,_⟩=>⟨z,hp,e1,e2,e3,e4⟩) fun p hp=>⟨⟨g2 _ _ (hps p hp).2.1,(hps p hp).2.2.same g2⟩,(hps p hp).1⟩
   exact hN _ _ ⟨D,ds,rfl,g1.trans g2,hD2,k2,by rw[k1];exact hPI⟩
 rintro σ1 H1 ⟨fl,ds,rfl,g1,efl,hds,hPI⟩
 refine z0o (fun σ H'=>∃(r:Addr),σ=[some x,some (.ref b),some (.ref fl),some (.ref r),none,none]∧H1 r=none∧Same H1 H'∧H' r=some (.lst [])) (fun N hN=>?_) ?_
 ·exact⟨q0A _,fun r hr0=>hN _ _ ⟨r,rfl,hr0,z0d hr0 _,z0b⟩⟩
 rintro σ2 H2 ⟨r,rfl,hr0,g2,er⟩
 have tab2:TabL Pt H2:=(tab.same g1).same g2
 have dl:ds.length<64:=by
  have:=Ri.parts_few hwl hPI w6 m4 m5
  rwa[q0a] at this
 have hds2:∀d∈ds,LdAt H2 ws d:=fun d hd=>let ⟨h1,h2,h3,h4⟩:=(hds d hd).1;⟨g2 _ _ h1,g2 _ _ h2,g2 _ _ h3,h4.same g2⟩
 refine z0o (fun σ H'=>∃(s4 s5:Option V) (rs:List Rung),σ=[some x,some (.ref b),some (.ref fl),some (.ref r),s4,s5]∧Lam.SameT Pt H H'∧y0h Pt H'∧H' r=some (.lst (rs.map fun g=>V.ref g.a))∧(∀g∈rs,RungAt H' g∧H g.ap=none∧H g.ar=none∧g.pl=zL (z0L g.us ws))∧(rs.map Rung.us).Perm (ds.map LdD.us)∧(rs.map fun g=>ldK ws g.us).Pairwise (fun a b=>ltK b a=false)∧(rs.map fun g=>(g.pl,g.s))=sgs (rs.map Rung.pl)∧rs.length<64) (fun N hN=>?_) ?_
 ·refine⟨_,rfl,fl,_,ds.map (fun d=>⟨(d.us.length:Nat),d.ap,zL (z0L d.us ws)⟩),rfl,g2 _ _ efl,by rw[q0a,q0a],by rw[q0a];exact dl,fun k hk=>?_,tab2,fun i x k hx hk H3 g3=>?_,fun D H3 hD g3 t3 eD nD=>?_⟩
  ·obtain⟨d,hd,rfl⟩:=q0e.mp hk
   exact (hds2 d hd).2.1
  ·rw[q0j] at hx hk
   obtain⟨d,hd,rfl⟩:=q0v.mp hx
   rw[hd] at hk
   obtain rfl:=Option.some.inj hk
   obtain⟨h1,h2,h3,h4⟩:=hds2 d (q0s hd)
   have e1:=g3 _ _ (tab2.tup h1) h1
   have e3:=g3 _ _ (tab2.lst h3) h3
   refine⟨_,rfl,_,_,_,_,rfl,rfl,SqT.of e1,rfl,d.ar,_,rfl,.inl (SqL.of e3),_,rfl,_,_,_,_,rfl,rfl,SqT.of e1,rfl,z0l (by show 2≤_;decide),fun z hz=>?_⟩
   refine⟨z,rfl,z0d hz _,?_⟩
   rw[z0b,q0a,h4.1]
  ·have ek:(ds.map fun d=>(⟨(d.us.length:Nat),d.ap,zL (z0L d.us ws)⟩:Lam.KD)).map Lam.kdD=(ds.map fun d=>ldK ws d.us).map kq:=by
        rw[q0w,q0w];rfl
   rw[ek] at eD
   have hlt:∀i∈z1N ((ds.map fun d=>ldK ws d.us).map kq),i<ds.length:=fun i hi=>by
        have:=q1a.mp ((z1d _).mem_iff.mp hi)
        rwa[q0a,q0a] at this
   have dsd:∀i,i<ds.length→ds[i]? =some (ds.getD i ⟨[],[],0,0,0⟩):=fun i hi=>by
        rw[q0c,q0b hi];rfl
   obtain⟨es,ees,eus,hes⟩:∃es:List LdD,es=(z1N ((ds.map fun d=>ldK ws d.us).map kq)).map (fun i=>ds.getD i ⟨[],[],0,0,0⟩)∧(es.map fun d=>ldK ws d.us)=z5T (ds.map fun d=>ldK ws d.us)∧∀e∈es,e∈ds:=by
        refine⟨_,rfl,?_,fun e he=>?_⟩
        ·unfold z5T
         rw[q0w]
         refine q0T fun i hi=>?_
         have:=dsd i (hlt i hi)
         rw[Function.comp_apply,q0c (l:=ds.map fun d=>ldK ws d.us),q0j,this];rfl
        ·obtain⟨i,hi,rfl⟩:=q0e.mp he
         exact q0s (dsd i (hlt i hi))
   have eD':H3 D=some (.lst (es.map fun d=>V.ref d.a)):=by
        rw[eD,ees]
        congr 2
        refine Eq.trans (q0T fun i hi=>?_) (q0w ..).symm
        have:=dsd i (hlt i hi)
        rw[Function.comp_apply,q0c (l:=ds.map fun d=>V.ref d.a),q0j,this];rfl
   have pes:es.Perm ds:=by
        rw[ees]
        have h:=(z1d ((ds.map fun d=>ldK ws d.us).map kq)).map fun i=>ds.getD i ⟨[],[],0,0,0⟩
        rw[q0a,q0a] at h
        refine h.trans ?_
        rw[show (List.range ds.length).map (fun i=>ds.getD i ⟨[],[],0,0,0⟩)=ds from List.ext_getElem (by simp) fun i h1 h2=>by
         rw[List.getElem_map,List.getElem_range,q0c,q0b h2];rfl]
   clear eD ees
   have esl:es.length<64:=by rw[pes.length_eq];exact dl
   have esup:(es.map fun d=>ldK ws d.us).Pairwise (fun a b=>ltK b a=false):=by rw[eus];exact z6D _
   have hes3:∀d∈es,LdAt H3 ws d∧H d.ap=none∧H d.ar=none∧d.ap≠r∧d.ar≠r:=fun d hd=>by
        have hd':=hes d hd
        obtain⟨h1,h2,h3,h4⟩:=hds2 d hd'
        obtain⟨⟨_,k2,k3,_⟩,k5,k6⟩:=hds d hd'
        refine⟨⟨g3 _ _ (tab2.tup h1) h1,g3 _ _ (tab2.lst h2) h2,g3 _ _ (tab2.lst h3) h3,h4.1,fun i a t e1 e2=>g3 _ _ (tab2.tup (h4.2 i a t e1 e2)) (h4.2 i a t e1 e2)⟩,k5,k6,fun z=>?_,fun z=>?_⟩
        ·rw[z,hr0] at k2;cases k2
        ·rw[z,hr0] at k3;cases k3
   have er3:=g3 _ _ (tab2.lst er) er
   have gH3:Lam.SameT Pt H H3:=fun c o hc e=>g3 _ _ hc ((g1.trans g2) _ _ e)
   have nDr:D≠r:=fun z=>by rw[z,er] at hD;cases hD
   have hrH:H r=none:=g1.free hr0
   refine⟨D,rfl,⟨_,SqL.of eD'⟩,?_⟩
   refine z0D (z0r K D (es.map fun d=>V.ref d.a)) (fun i σ H'=>∃(s4 s5:Option V) (rs:List Rung),σ=[some x,some (.ref b),some (.ref fl),some (.ref r),s4,s5]∧(∀c o,c≠r→H3 c=some o→H' c=some o)∧H' r=some (.lst (rs.map fun g=>V.ref g.a))∧(∀g∈rs,RungAt H' g∧H g.ap=none∧H g.ar=none∧g.pl=zL (z0L g.us ws)∧g.ap≠r∧g.ar≠r)∧rs.map Rung.us=(es.take i).map LdD.us∧(rs.map fun g=>(g.pl,g.s))=sgs (rs.map Rung.pl)) ⟨_,_,[],rfl,fun _ _ _ e=>e,er3,fun g hg=>(nomatch hg),rfl,rfl⟩ (fun _ _ _ _ h=>by obtain⟨_,_,_,_,k,_⟩:=h;exact SqL.of (k _ _ nDr eD')) ?_ ?_
   ·rintro i y σ Ha Hb hi ⟨s4,s5,rs,rfl,ka,era,hrs,ru,rsg⟩ ⟨rfl,hy⟩
    rw[q0a] at hi
    rw[q0j] at hy
    obtain⟨d,hd,rfl⟩:=q0v.mp hy
    obtain⟨⟨d1,d2,d3,d4⟩,d5,d6,d7,d8⟩:=hes3 d (q0s hd)
    have nt:∀c ys,H3 c=some (.tup ys)→Hb c=some (.tup ys):=fun c ys e=>ka _ _ (fun z=>by rw[z,er3] at e;cases e) e
    have d1':=nt _ _ d1
    have d2':=ka _ _ d7 d2
    have d3':=ka _ _ d8 d3
    have d4':TsA Hb d.bs d.us:=⟨d4.1,fun i a t e1 e2=>nt _ _ (d4.2 i a t e1 e2)⟩
    have rl:rs.length≤i:=by have:=congrArg List.length ru;rw[q0a,q0a,q0O] at this;lia
    refine⟨d.a,_,rfl,SqT.of d1',rfl,_,_,rfl,_,_,rfl,rfl,?_⟩
    refine⟨_,rfl,.inl ⟨rfl,_,SqL.of era⟩,_,rfl,_,rfl,_,rfl,_,rfl,r,d.ap,rs,zL (z0L d.us ws),rfl,era,fun g hg=>(hrs g hg).1,d2',by lia,fun Hc gc=>?_⟩
    refine⟨z0l (by show 3≤_;decide),fun z hz=>?_⟩
    have gz:=z0d hz (.tup [V.ref d.ap,V.ref d.ar,V.int (rsL (rs.map fun g=>(g.pl,g.s)) (zL (z0L d.us ws)))])
    have ez:upd Hc z (.tup [V.ref d.ap,V.ref d.ar,V.int (rsL (rs.map fun g=>(g.pl,g.s)) (zL (z0L d.us ws)))]) z=some (.tup [V.ref d.ap,V.ref d.ar,V.int (rsL (rs.map fun g=>(g.pl,g.s)) (zL (z0L d.us ws)))]):=z0b
    generalize upd Hc z (.tup [V.ref d.ap,V.ref d.ar,V.int (rsL (rs.map fun g=>(g.pl,g.s)) (zL (z0L d.us ws)))])=Hd at*
    have gbd:=gc.trans gz
    have erd:=gbd _ _ era
    refine⟨r,_,_,rfl,rfl,erd,z1E (by rw[q0a];lia),?_⟩
    have up:∀c o,c≠r→Hd c=some o→upd Hd r (.lst ((rs.map fun g=>V.ref g.a)++[V.ref z])) c=some o:=fun c o hc h=>by rw[z0h hc];exact h
    have upt:∀c ys,Hd c=some (.tup ys)→upd Hd r (.lst ((rs.map fun g=>V.ref g.a)++[V.ref z])) c=some (.tup ys):=fun c ys h=>up c _ (fun y=>by rw[y,erd] at h;cases h) h
    refine⟨_,_,rs++[⟨zL (z0L d.us ws),d.us,rsL (rs.map fun g=>(g.pl,g.s)) (zL (z0L d.us ws)),d.ap,d.ar,d.bs,z⟩],rfl,fun c o hc e=>up _ _ hc (gbd _ _ (ka _ _ hc e)),by rw[z0b,q0m];rfl,fun g hg=>?_,?_,?_⟩
    ·rcases q0r.mp hg with hg|hg
     ·obtain⟨⟨k1,k2,k3,k4⟩,k5,k6,k7,k8,k9⟩:=hrs g hg
      exact⟨⟨upt _ _ (gbd _ _ k1),up _ _ k8 (gbd _ _ k2),up _ _ k9 (gbd _ _ k3),k4.1,fun i a t e1 e2=>upt _ _ (gbd _ _ (k4.2 i a t e1 e2))⟩,k5,k6,k7,k8,k9⟩
     ·rw[q0g.mp hg]
      exact⟨⟨upt _ _ ez,up _ _ d7 (gbd _ _ d2'),up _ _ d8 (gbd _ _ d3'),d4'.1,fun i a t e1 e2=>upt _ _ (gbd _ _ (d4'.2 i a t e1 e2))⟩,d5,d6,rfl,d7,d8⟩
    ·rw[q0m,ru,q0L,hd,q0m];rfl
    ·rw[q0m,q0m,q1y,q1y,z4t,rsg]
   ·rintro σ Ha ⟨s4,s5,rs,rfl,ka,era,hrs,ru,rsg⟩
    rw[q0a,q0S] at ru
    have tka:y0h Pt Ha:=by
     obtain⟨c',h1,h2⟩:=t3
     exact⟨c',ka _ _ (fun z=>by rw[z,er3] at h1;cases h1) h1,ka _ _ (fun z=>by rw[z,er3] at h2;cases h2) h2⟩
    have ek2:(rs.map fun g=>ldK ws g.us)=es.map fun d=>ldK ws d.us:=by
     have:=congrArg (List.map (ldK ws)) ru
     rw[q0w,q0w] at this
     exact this
    refine hN _ _ ⟨_,_,rs,rfl,fun c o hc e=>ka _ _ (z0f e hrH) (gH3 _ _ hc e),tka,era,fun g hg=>⟨(hrs g hg).1,(hrs g hg).2.1,(hrs g hg).2.2.1,(hrs g hg).2.2.2.1⟩,?_,?_,rsg,?_⟩
    ·rw[ru];exact pes.map _
    ·rw[ek2];exact esup
    ·have:=congrArg List.length ru
     rw[q0a,q0a] at this
     lia
 rintro σ3 H3 ⟨s4,s5,rs,rfl,g3,t3,er3,hrs,p1,p2,p3,p4⟩
 exact⟨_,rfl,q r rs _ H3 (g1.free hr0) g3 t3 er3 hrs hPI p1 p2 p3 p4⟩
end
end L2
namespace L2
open PySem PySem.Spec PyProof.Rows
section
open Fr Wl Rk
open Builtin.Int (intBits)
variable {P:Program}{w:World}{K:PySem.W.Frag}{mg:Str→Option Value}{base:Heap}{f:Addr}{fd:FuncData}
theorem LsA.append {H:Hp}{as bs:List Addr}{ts us:List (List Int)} (h:LsA H as ts) (h2:LsA H bs us):LsA H (as++bs) (ts++us):=by
 refine⟨by rw[q0x,q0x,h.1,h2.1],fun i a t e1 e2=>?_⟩
 by_cases hi:i<as.length
 ·rw[q0W hi] at e1
  rw[q0W (by rw[←h.1];exact hi)] at e2
  exact h.2 i a t e1 e2
 ·rw[q0V (by lia)] at e1
  rw[q0V (by rw[←h.1];lia),←h.1] at e2
  exact h2.2 _ a t e1 e2
theorem LsA.one {H:Hp}{a:Addr}{t:List Int} (h:H a=some (.lst (t.map V.int))):LsA H [a] [t]:=⟨rfl,fun i b u e1 e2=>by
 cases i with
 |zero=>cases e1;cases e2;exact h
 |succ i=>simp at e1⟩
theorem y1a {H:Hp}{as:List Addr}{L:List (List Int)} (h:LsA H as L) {x:V} (hx:x∈as.map V.ref):∃(i:Nat) (a:Addr) (t:List Int),x= .ref a∧as[i]? =some a∧L[i]? =some t∧t∈L∧H a=some (.lst (t.map V.int)):=by
 obtain⟨a,ha,rfl⟩:=q0e.mp hx
 obtain⟨i,hi,rfl⟩:=q0Q.mp ha
 have hi2:i<L.length:=by rw[←h.1];exact hi
 exact⟨i,_,_,rfl,q0b hi,q0b hi2,q0F hi2,h.2 i _ _ (q0b hi) (q0b hi2)⟩
def z0P:Nat→List (List Int)
 |0=>[[]]
 |n+1=>z0P n++(z0P n).map fun t=>t++[((n:Nat):Int)]
theorem z3y:∀n,(z0P n).length =2^n
 |0=>rfl
 |n+1=>by
  show (z0P n++(z0P n).map fun t=>t++[((n:Nat):Int)]).length =_
  rw[q0x,q0a,z3y n,Nat.pow_succ];lia
theorem z2n:∀(n:Nat),∀t∈z0P n,t.length≤n
 |0,t,h=>by rw[List.mem_singleton.mp h];simp
 |n+1,t,h=>by
  rcases q0r.mp h with h|h
  ·exact Nat.le_succ_of_le (z2n n t h)
  ·obtain⟨u,hu,rfl⟩:=q0e.mp h
   have:=z2n n u hu
   rw[q0x,q0I];lia
abbrev z4v:Stmt:=top 29
theorem sc_l_lots:z0x ["_law_many","_law_found","_law_place"] ["_law_many"] (z0n z4v):=⟨rfl,rfl,rfl,by decide+kernel,rfl,by decide+kernel,by decide+kernel⟩
def y1y (K:PySem.W.Frag):Sp:=fun vs H Q _=>∃n:Nat,vs=[.int (n:Nat)]∧n≤8∧∀(r:Addr) (bs:List Addr) (H':Hp),H r=none→Same H H'→H' r=some (.lst (bs.map V.ref))→LsA H' bs (z0P n)→(∀c∈bs,H c=none)→Q (.ref r) H'
theorem z9i (T:Txt mg) (F:Fun K "_law_lots" "_law_lots" z4v f fd):FnOk P w K mg base CX0 1 f fd ["_law_many"] (y1y K):=by
 refine F.ok sc_l_lots (fun vs H Q E h=>?_) (fun cdv A outer s H vs Q E hr h=>?_)
 ·obtain⟨_,rfl,_⟩:=h;rfl
 obtain⟨n,rfl,n8,q⟩:=h
 refine⟨_,(z0c (z0p (i:=1) sc_l_lots.nd rfl (Or.inl rfl) (z0H (z0a (z0H z0e) z0e)))
  (z0c (z0W PassesOwn.never rfl (z1a rfl T.range (z0a (pv 0) z0e)) (z0k (i:=2) sc_l_lots.nd rfl (Or.inr rfl)) (z0i (z0p (i:=1) sc_l_lots.nd rfl (Or.inl rfl) (z0w z3u (pv 1) (z0J (Nc:=["_law_lot","_law_place"]) (fr:=[none,some 2]) rfl (z0A (K:=K) rfl (pv 1)) rfl (by decide) rfl (by decide) rfl ⟨rfl,trivial⟩ ⟨⟨rfl,rfl,rfl,rfl⟩,trivial⟩ (fun _ _ _ _=>(z0k (i:=0) (show List.Nodup (["_law_lot","_law_place"]:List Str) from by decide) rfl (Or.inl rfl))) (fun _ _ _ _=>z0U) (fun _ _ _ _=>(z0w z3u (pv 0) (z0H (z0a (pv 1) z0e)))))))))
  (z0i (z0y (pv 1))))),?_⟩
 refine z0o (fun σ H'=>∃(r:Addr) (bs:List Addr),σ=[some (.int (n:Nat)),some (.ref r),none]∧H r=none∧H' r=some (.lst (bs.map V.ref))∧LsA H' bs (z0P 0)∧Same H H'∧∀c∈bs,H c=none) (fun N hN=>?_) ?_
 ·refine⟨q0A _,fun e0 he0=>⟨z0l (by show 1≤_;decide),fun r hr0=>?_⟩⟩
  have g1:=z0d he0 (.lst [])
  have g2:=z0d hr0 (.lst [V.ref e0])
  exact hN _ _ ⟨r,[e0],rfl,g1.free hr0,z0b,LsA.one (t:=[]) (g2 _ _ z0b),g1.trans g2,fun c hc=>by rw[q0g.mp hc];exact he0⟩
 rintro σ H0 ⟨r0,bs0,rfl,hr0,e0,l0,g0,f0⟩
 refine z0o (fun σ H'=>∃(r:Addr) (bs:List Addr) (s2:Option V),σ=[some (.int (n:Nat)),some (.ref r),s2]∧H r=none∧H' r=some (.lst (bs.map V.ref))∧LsA H' bs (z0P n)∧Same H H'∧∀c∈bs,H c=none) (fun N hN=>?_) ?_
 ·refine⟨_,rfl,_,rfl,by lia,by lia,?_⟩
  rw[q0G]
  refine z0D (z0R 0 n) (fun i σ H'=>∃(r:Addr) (bs:List Addr) (s2:Option V),σ=[some (.int (n:Nat)),some (.ref r),s2]∧H r=none∧H' r=some (.lst (bs.map V.ref))∧LsA H' bs (z0P i)∧Same H H'∧∀c∈bs,H c=none) ⟨r0,bs0,_,rfl,hr0,e0,l0,g0,f0⟩ (fun _ _ _ _ _=>trivial) ?_ ?_
  ·rintro i x σ H1 H1' hi ⟨r,bs,s2,rfl,hr1,er,hb1,g,fb⟩ ⟨rfl,rfl⟩
   have ll:=z3y i
   have l3:2^i≤2^8:=Nat.pow_le_pow_right (by decide) (by lia)
   refine⟨_,rfl,_,rfl,r,rfl,⟨_,SqL.of er⟩,fun D hD=>?_⟩
   refine z1V rfl (z0r K r (bs.map V.ref)) hD (fun _=>true) (fun H' x u=>∃(a:Addr) (t:List Int) (p:Addr),x=V.ref a∧u=V.ref p∧H1' a=some (.lst (t.map V.int))∧H' p=some (.lst (((fun t=>t++[(i:Int)]) t).map V.int))∧p≠D∧H1' p=none) ?_ (fun H' g'=>SqL.of (g' _ _ er)) (z0l (by rw[q0a,hb1.1,ll];lia)) ?_ ?_ ?_
   ·rintro Ha Hb x u kk ⟨acc,hd⟩ ⟨a,t,p,e1,e2,e3,e4,e5,e6⟩
    exact⟨a,t,p,e1,e2,e3,kk _ _ e5 e4,e5,e6⟩
   ·intro x hx Hc gc S h
    exact h _ (Same.refl _)
   ·rintro x hx _ Hc gc ⟨acc,hacc⟩ S h
    obtain⟨j,a,t,rfl,ha,ht,htm,hc⟩:=y1a hb1 hx
    have tl:=z2n i t htm
    refine⟨_,rfl,_,rfl,z0l (by show 1≤_;decide),fun e1 he1=>?_⟩
    rw[Int.zero_add]
    have g2:=z0d he1 (.lst [V.int (i:Int)])
    refine⟨a,e1,_,_,rfl,rfl,g2 _ _ (gc _ _ hc),z0b,z0l (by rw[q0a];show t.length+1≤_;lia),fun p hp=>?_⟩
    have g3:=z0d hp (.lst (t.map V.int++[V.int (i:Int)]))
    refine h _ _ (g2.trans g3) ⟨a,t,p,rfl,rfl,hc,by rw[z0b,q0m];rfl,fun y=>?_,(gc.trans g2).free hp⟩
    rw[y,g2 _ _ hacc] at hp
    cases hp
   ·intro us H2 g2 hD2 he
    rw[z0F] at he
    have fu:∀u∈us,∃p,u=V.ref p∧H1' p=none:=fun u hu=>by
     clear hD2
     generalize bs.map V.ref=bv at he
     induction he with
     |nil=>cases hu
     |cons h1 _ ih=>
      rcases q0o.mp hu with rfl|hu
      ·obtain⟨a,t,p,_,e2,_,_,_,e6⟩:=h1;exact⟨p,e2,e6⟩
      ·exact ih hu
    obtain⟨as2,rfl,hM1,hM2⟩:=z3H (G:= .lst) (F:= .lst) (g:=fun t=>t++[(i:Int)]) (fun xs ys h=>by injection h) hb1.1 hb1.2 (he.imp fun x u ⟨a,t,p,e1,e2,e3,e4,_⟩=>⟨a,t,p,e1,e2,e3,e4⟩)
    have hM:LsA H2 as2 ((z0P i).map fun t=>t++[(i:Int)]):=⟨hM1,hM2⟩
    refine⟨r,D,_,_,rfl,rfl,g2 _ _ er,hD2,z0l (by rw[q0a,q0a,hb1.1,hM.1,q0a,ll];lia),fun r2 hr2=>?_⟩
    have g3:=z0d hr2 (.lst (bs.map V.ref++as2.map V.ref))
    refine⟨r2,bs++as2,_,rfl,(g.trans g2).free hr2,by rw[z0b,q0m],?_,g.trans (g2.trans g3),fun c hc=>?_⟩
    rotate_left
    ·rcases q0r.mp hc with hc|hc
     ·exact fb c hc
     ·obtain⟨p,e,h⟩:=fu _ (q0n (f:=V.ref) hc)
      cases e
      exact g.free h
    exact ((hb1.same g2).append hM).same g3
  ·rintro σ H1 ⟨r,bs,s2,rfl,hr1,er,hb1,g,fb⟩
   exact hN _ _ ⟨r,bs,_,rfl,hr1,er,hb1,g,fb⟩
 rintro σ H1 ⟨r,bs,s2,rfl,hr1,er,hb1,g,fb⟩
 exact⟨_,rfl,q r bs _ hr1 g er hb1 fb⟩
end
end L2
namespace L2
open PySem PySem.Spec PyProof.Rows
section
open Fr Wl Rk
open Builtin.Int (intBits)
variable {P:Program}{w:World}{K:PySem.W.Frag}{mg:Str→Option Value}{base:Heap}{f:Addr}{fd:FuncData}
abbrev z2v:Stmt:=top 27
theorem sc_l_struck:z0x ["_law_rows","_law_k","_law_head","_law_found","_law_row_here"] ["_law_rows","_law_k","_law_head"] (z0n z2v):=⟨rfl,rfl,rfl,by decide+kernel,rfl,by decide+kernel,by decide+kernel⟩
def z6y (K:PySem.W.Frag):Sp:=fun vs H Q _=>∃(l h:Addr) (as:List Addr) (ts:List (List Int)) (hd:List Int) (k B:Nat),vs=[.ref l,.int (k:Nat),.ref h]∧H l=some (.lst (as.map V.ref))∧LsA H as ts∧H h=some (.lst (hd.map V.int))∧(∀t∈ts,t.length=hd.length∧∀n∈t,intBits n≤B)∧(∀n∈hd,intBits n≤B)∧B≤100000∧k<hd.length∧hd.length≤10∧ts.length≤20∧
 ∀(r:Addr) (bs:List Addr) (H':Hp),H r=none→Same H H'→H' r=some (.lst (bs.map V.ref))→LsA H' bs (ts.map (strk k hd))→Q (.ref r) H'
theorem LsA.put_lst {H:Hp}{as:List Addr}{ts:List (List Int)}{ll:Addr}{o:HO} (h:LsA H as ts) (hn:ll∉as):LsA (upd H ll o) as ts:=
 ⟨h.1,fun i a t e1 e2=>by
  have hne:a≠ll:=fun z=>hn (by rw[←z];exact q0s e1)
  rw[z0h hne]
  exact h.2 i a t e1 e2⟩
theorem z6g (T:Txt mg) (F:Fun K "_law_struck" "_law_struck" z2v f fd):FnOk P w K mg base CX0 1 f fd ["_law_rows","_law_k","_law_head"] (z6y K):=by
 refine F.ok sc_l_struck (fun vs H Q E h=>?_) (fun cdv A outer s H vs Q E hr h=>?_)
 ·obtain⟨_,_,_,_,_,_,_,rfl,_⟩:=h;rfl
 obtain⟨l,h,as,ts,hd,k,B,rfl,hl,hts,hh,zt,zh,bB,kl,hl10,t20,q⟩:=h
 refine⟨_,(z0c (z0p (i:=3) sc_l_struck.nd rfl (Or.inl rfl) (z0H z0e))
  (z0c (z0W PassesOwn.never rfl (z0A (K:=K) rfl (pv 0)) (z0k (i:=4) sc_l_struck.nd rfl (Or.inr rfl)) (z0i (z1C (z6e PySem.F.plainAttrs_list PySem.F.slot_list_append PySem.F.type_list_append z1b (pv 3) (z0a (z0J (Nc:=["_law_number","_law_more","_law_head","_law_k","_law_row_here"]) (fr:=[none,none,some 2,some 1,some 4]) rfl (z9b (K:=K) rfl rfl T.zip (z0a (pv 4) (z0a (pv 2) z0e))) rfl (by decide) rfl (by decide) rfl ⟨rfl,⟨rfl,⟨rfl,trivial⟩⟩⟩ ⟨⟨rfl,rfl,rfl,rfl⟩,⟨⟨rfl,rfl,rfl,rfl⟩,⟨⟨rfl,rfl,rfl,rfl⟩,trivial⟩⟩⟩ (fun _ _ _ _=>(z1h (K:=K) rfl 2 rfl (z0t (z0k (i:=0) (show List.Nodup (["_law_number","_law_more","_law_head","_law_k","_law_row_here"]:List Str) from by decide) rfl (Or.inl rfl)) (z0t (z0k (i:=1) (show List.Nodup (["_law_number","_law_more","_law_head","_law_k","_law_row_here"]:List Str) from by decide) rfl (Or.inl rfl)) z1g)))) (fun _ _ _ _=>z0U) (fun _ _ _ _=>(z0w z1Z (z0w z1p (pv 0) (z0G (z0q (K:=K) rfl) (pv 2) (pv 3) (fun _ _=>rfl))) (z0w z1p (pv 1) (z0G (z0q (K:=K) rfl) (pv 4) (pv 3) (fun _ _=>rfl)))))) z0e)))))
  (z0i (z0y (pv 3))))),?_⟩
 refine z0o (fun σ H'=>∃r:Addr,σ=[some (.ref l),some (.int (k:Nat)),some (.ref h),some (.ref r),none]∧H r=none∧H' r=some (.lst (([]:List Addr).map V.ref))∧Same H H') (fun N hN=>?_) ?_
 ·exact⟨q0A _,fun r hr0=>hN _ _ ⟨r,rfl,hr0,z0b,z0d hr0 _⟩⟩
 rintro σ H0 ⟨r,rfl,hr0,e0,g0⟩
 refine z0o (fun σ H'=>∃(bs:List Addr) (s4:Option V),σ=[some (.ref l),some (.int (k:Nat)),some (.ref h),some (.ref r),s4]∧H' r=some (.lst (bs.map V.ref))∧r∉bs∧LsA H' bs (ts.map (strk k hd))∧Same H H') (fun N hN=>?_) ?_
 ·refine⟨_,rfl,l,rfl,⟨_,SqL.of (g0 _ _ hl)⟩,?_⟩
  refine z0D (z0r K l (as.map V.ref)) (fun i σ H'=>∃(bs:List Addr) (s4:Option V),σ=[some (.ref l),some (.int (k:Nat)),some (.ref h),some (.ref r),s4]∧H' r=some (.lst (bs.map V.ref))∧r∉bs∧LsA H' bs ((ts.take i).map (strk k hd))∧Same H H') ⟨[],_,rfl,e0,by simp,LsA.nil,g0⟩ (fun i σ H' _ h=>by obtain⟨_,_,_,_,_,_,g⟩:=h;exact SqL.of (g _ _ hl)) ?_ ?_
  ·clear e0
   rintro i x σ H1 H1' hi ⟨bs,s4,rfl,er,hrb,hb,g⟩ ⟨rfl,hx⟩
   rw[q0a,hts.1] at hi
   rw[q0j] at hx
   obtain⟨a,ha,rfl⟩:=q0v.mp hx
   have et:ts[i]? =some ts[i]:=q0b hi
   have htm:ts[i]∈ts:=q0F hi
   have tk:(ts.take (i+1)).map (strk k hd)=(ts.take i).map (strk k hd)++[strk k hd ts[i]]:=by rw[q0L,et,q0m];rfl
   generalize ts[i]=t at et htm tk
   obtain⟨tl,tb⟩:=zt t htm
   have hta:=g _ _ (hts.2 i a t ha et)
   have hha:=g _ _ hh
   refine⟨_,rfl,.inl ⟨rfl,_,SqL.of er⟩,_,rfl,_,rfl,a,h,true,true,_,_,rfl,SqL.of hta,SqL.of hha,fun D hD=>?_⟩
   refine z3K rfl (z5e K true true a h (t.map V.int) (hd.map V.int)) hD (fun _=>true) (fun c=>match c with|(.int m,.int n)=> .int (m*v hd k - n*v t k)|_=> .non) ?_ (fun H' g'=>⟨SqL.of (g' _ _ hta),SqL.of (g' _ _ hha)⟩) (z0l (by rw[List.length_zip,q0a,q0a];lia)) ?_ ?_ ?_
   ·intro p u v σ H hp S h
    exact⟨p,_,rfl,SqT.of hp,rfl,_,_,rfl,_,_,rfl,rfl,h⟩
   ·intro c hc Hc gc S h
    exact h
   ·intro c hc _ Hc gc S hS
    obtain⟨m,n,rfl,hm,hn⟩:∃(m n:Int),c=(.int m,.int n)∧m∈t∧n∈hd:=by
     obtain⟨c1,c2⟩:=c
     obtain⟨h1,h2⟩:=q1v hc
     obtain⟨m,hm,rfl⟩:=q0e.mp h1
     obtain⟨n,hn,rfl⟩:=q0e.mp h2
     exact⟨m,n,rfl,hm,hn⟩
    exact⟨_,rfl,_,rfl,_,rfl,h,_,_,_,rfl,rfl,SqL.of (gc _ _ hha),y1T kl,_,_,rfl,rfl,z3w (q0q (tb m hm) bB) (q0q (z2H zh k) bB),_,rfl,_,rfl,_,rfl,a,_,_,_,rfl,rfl,SqL.of (gc _ _ hta),y1T (by lia),_,_,rfl,rfl,z3w (q0q (zh n hn) bB) (q0q (z2H tb k) bB),_,_,rfl,rfl,hS⟩
   ·intro H' g' hD'
    rw[z0F] at hD'
    have em:((t.map V.int).zip (hd.map V.int)).map (fun c=>match c with|(.int m,.int n)=>V.int (m*v hd k - n*v t k)|_=> .non)=(strk k hd t).map V.int:=by
     unfold strk
     rw[z2f,q0w,List.zip_map,q0w]
     rfl
    rw[em] at hD'
    have er':=g' _ _ er
    refine⟨r,_,_,rfl,rfl,er',z1E (by rw[q0a,hb.1,q0a,q0O];lia),?_⟩
    have rD:r≠D:=z0f er hD
    have hrb':r∉bs++[D]:=fun z=>by
     rcases q0r.mp z with z|z
     ·exact hrb z
     ·exact rD (q0g.mp z)
    refine⟨bs++[D],_,rfl,by rw[z0b,q0m];rfl,hrb',?_,fun b o e=>by rw[z0h (z0f e hr0)];exact (g.trans g') _ _ e⟩
    rw[tk]
    exact ((hb.same g').append (LsA.one hD')).put_lst hrb'
  ·rintro σ H1 ⟨bs,s4,rfl,er,hrb,hb,g⟩
   rw[q0a,hts.1,q0S] at hb
   exact hN _ _ ⟨bs,_,rfl,er,hrb,hb,g⟩
 rintro σ H1 ⟨bs,s4,rfl,er,hrb,hb,g⟩
 exact⟨_,rfl,q r bs _ hr0 g er hb⟩
end
section
open Fr Wl Rk
open Builtin.Int (intBits)
variable {P:Program}{w:World}{K:PySem.W.Frag}{mg:Str→Option Value}{base:Heap}{f:Addr}{fd:FuncData}
def atOf (H:Hp) (k:Nat) (x:V):Int:=match x with
 | .ref a=>(match H a with|some (.lst xs)=>(match xs[k]? with|some (.int n)=>n|_=>0)|_=>0)
 |_=>0
theorem y1n {H:Hp}{a:Addr}{t:List Int}{k:Nat} (h:H a=some (.lst (t.map V.int))):atOf H k (.ref a)=v t k:=by
 show (match H a with|some (.lst xs)=>(match xs[k]? with|some (.int n)=>n|_=>0)|_=>0)=t.getD k 0
 rw[h,q0c]
 show (match (t.map V.int)[k]? with|some (.int n)=>n|_=>0)=_
 rw[q0j]
 cases t[k]? <;>rfl
theorem z2A {H:Hp} (k:Nat):∀{as:List Addr}{L:List (List Int)},LsA H as L→∃fs:List Addr,(as.map V.ref).filter (fun x=> !decide (V.int (atOf H k x)=V.int 0))=fs.map V.ref∧LsA H fs (L.filter fun t=>v t k != 0)
 |[],[],_=>⟨[],rfl,LsA.nil⟩
 |a::as,t::L,h=>by
  have h':LsA H as L:=⟨by simpa using h.1,fun i b u e1 e2=>h.2 (i+1) b u (by simpa using e1) (by simpa using e2)⟩
  obtain⟨fs,e1,e2⟩:=z2A k h'
  have ha:=h.2 0 a t rfl rfl
  rw[q0t]
  by_cases h0:v t k=0
  ·rw[q1c (by rw[y1n ha,h0];decide),q1c (by rw[h0];decide)]
   exact⟨fs,e1,e2⟩
  ·rw[q1b (by rw[y1n ha];simpa using h0),q1b (by simpa using h0)]
   exact⟨a::fs,by rw[e1];rfl,(LsA.one ha).append e2⟩
 |[],_::_,h=>by have:=h.1;simp at this
 |_::_,[],h=>by have:=h.1;simp at this
theorem z2i {k:Nat}{s:List (List Int)×List (List Int)} (h:(s.2.filter fun t=>v t k != 0)=[]):z2t k s=s:=by unfold z2t;rw[h]
theorem z1R {k:Nat}{s:List (List Int)×List (List Int)}{h:List Int}{l:List (List Int)} (e:(s.2.filter fun t=>v t k != 0)=h::l):z2t k s=(s.1.map (strk k h)++[h],s.2.map (strk k h)):=by unfold z2t;rw[e]
end
end L2
namespace L2
open PySem PySem.Spec PyProof.Rows
section
open Fr Wl Rk
open Builtin.Int (intBits)
variable {P:Program}{w:World}{K:PySem.W.Frag}{mg:Str→Option Value}{base:Heap}{f:Addr}{fd:FuncData}
def BT (m F L:Nat) (t:List Int):Prop:=t.length=m+1∧(∀j,j<m→intBits (v t j)+1≤F)∧intBits (v t m)+1≤L
theorem BT.mono {m F L F' L':Nat}{t:List Int} (h:BT m F L t) (h1:F≤F') (h2:L≤L'):BT m F' L' t:=⟨h.1,fun j hj=>q0q (h.2.1 j hj) h1,q0q h.2.2 h2⟩
theorem BT.all {m F L N:Nat}{t:List Int} (h:BT m F L t) (h1:F≤N+1) (h2:L≤N+1):∀n∈t,intBits n≤N:=fun n hn=>by
 obtain⟨i,hi,rfl⟩:=q0Q.mp hn
 have e:v t i=t[i]:=by show t.getD i 0=_;rw[q0c,q0b hi];rfl
 rw[←e]
 by_cases c:i<m
 ·have:=h.2.1 i c;lia
 ·have ei:i=m:=by have:=h.1;lia
  rw[ei]
  have:=h.2.2;lia
theorem BT.strk {m F L k:Nat}{h t:List Int} (hh:BT m F L h) (ht:BT m F L t) (km:k<m):BT m (2*F) (L+F) (strk k h t):=by
 have hl:t.length=h.length:=by rw[ht.1,hh.1]
 have a1:=hh.2.1 k km
 have a2:=ht.2.1 k km
 refine⟨by rw[z4o hl];exact ht.1,fun j hj=>?_,?_⟩
 ·rw[z2h hl]
  have b1:=hh.2.1 j hj
  have b2:=ht.2.1 j hj
  have:=intBits_sub_le (intBits_mul_le (q0k (intBits (v t j))) (q0k (intBits (v h k)))) (intBits_mul_le (q0k (intBits (v h j))) (q0k (intBits (v t k))))
  lia
 ·rw[z2h hl]
  have b1:=hh.2.2
  have b2:=ht.2.2
  have:=intBits_sub_le (intBits_mul_le (q0k (intBits (v t m))) (q0k (intBits (v h k)))) (intBits_mul_le (q0k (intBits (v h m))) (q0k (intBits (v t k))))
  lia
theorem BT.plain {m F L:Nat}{t:List Int} (h:BT m F L t) (hn:∃n∈t,n≠0):BT m F L (z0j t):=by
 have ev:∀j,intBits (v (z0j t) j)≤intBits (v t j):=fun j=>by
  refine intBits_le_of_natAbs ?_ (q0k _)
  rw[←z1t (r:=t) j,Int.natAbs_mul]
  exact Nat.le_mul_of_pos_right _ (Nat.pos_of_ne_zero fun z=>z2r hn (Int.natAbs_eq_zero.mp z))
 exact⟨by unfold z0j;rw[List.length_map];exact h.1,fun j hj=>by have:=ev j;have:=h.2.1 j hj;lia,by have:=ev m;have:=h.2.2;lia⟩
def LL (F L:Nat):Nat→Nat
 |0=>L
 |k+1=>LL F L k+2^k*F
theorem z2X (rows:List (List Int)):∀k,(z1l rows k).1.length ≤k∧(z1l rows k).2.length =rows.length
 |0=>⟨Nat.le_refl _,rfl⟩
 |k+1=>by
  obtain⟨i0,i1⟩:=z2X rows k
  show (z2t k (z1l rows k)).1.length ≤k+1∧(z2t k (z1l rows k)).2.length =rows.length
  cases e:(z1l rows k).2.filter fun t=>v t k != 0 with
  |nil=>rw[z2i e];exact⟨by lia,i1⟩
  |cons h l=>rw[z1R e];exact⟨by simp;lia,by rw[List.length_map];exact i1⟩
theorem z6d {m F L:Nat}{rows:List (List Int)} (hr:∀t∈rows,BT m F L t):∀k,k≤m→(∀t∈(z1l rows k).1,BT m (2^k*F) (LL F L k) t)∧∀t∈(z1l rows k).2,BT m (2^k*F) (LL F L k) t
 |0,_=>⟨(fun t h=>by cases h),fun t ht=>by rw[Nat.pow_zero,Nat.one_mul];exact hr t ht⟩
 |k+1,hk=>by
  obtain⟨i2,i3⟩:=z6d hr k (by lia)
  have pw:2^(k+1)*F=2*(2^k*F):=by rw[Nat.pow_succ];grind
  have eL:LL F L (k+1)=LL F L k+2^k*F:=rfl
  show (∀t∈(z2t k (z1l rows k)).1,BT m (2^(k+1)*F) (LL F L (k+1)) t)∧∀t∈(z2t k (z1l rows k)).2,BT m (2^(k+1)*F) (LL F L (k+1)) t
  rw[pw,eL]
  cases e:(z1l rows k).2.filter fun t=>v t k != 0 with
  |nil=>
   rw[z2i e]
   exact⟨fun t ht=>(i2 t ht).mono (by lia) (by lia),fun t ht=>(i3 t ht).mono (by lia) (by lia)⟩
  |cons h l=>
   have hm:h∈(z1l rows k).2 :=(q1d.mp (show h∈(z1l rows k).2.filter fun t=>v t k != 0 by rw[e];exact q0i)).1
   rw[z1R e]
   refine⟨fun t ht=>?_,fun t ht=>?_⟩
   ·rcases q0r.mp ht with ht|ht
    ·obtain⟨u,hu,rfl⟩:=q0e.mp ht
     exact (i3 h hm).strk (i2 u hu) (by lia)
    ·rw[q0g.mp ht]
     exact (i3 h hm).mono (by lia) (by lia)
   ·obtain⟨u,hu,rfl⟩:=q0e.mp ht
    exact (i3 h hm).strk (i3 u hu) (by lia)
def RdB (m:Nat) (ts:List (List Int)):Prop:=∀k,k≤m→(∀t∈(z1l ts k).1,∀n∈t,intBits n≤9000)∧∀t∈(z1l ts k).2,∀n∈t,intBits n≤9000
theorem y1s {k m:Nat} (h:k≤m) (F:Nat):2^k*F≤2^m*F:=Nat.mul_le_mul_right _ (Nat.pow_le_pow_right (by decide) h)
theorem y2K (F L:Nat):∀{k m:Nat},k≤m→LL F L k≤LL F L m
 |k,0,h=>by rw[show k=0 by lia];exact Nat.le_refl _
 |k,m+1,h=>by
  by_cases c:k=m+1
  ·rw[c];exact q0k _
  ·exact q0q (y2K F L (show k≤m by lia)) (Nat.le_add_right _ _)
theorem RdB.of {m F L:Nat}{ts:List (List Int)} (m4:m≤4) (h:∀t∈ts,BT m F L t) (h1:2^4*F≤9001) (h2:LL F L 4≤9001):RdB m ts:=fun k hk=>by
 have a:=q0q (y1s (show k≤4 by lia) F) h1
 have b:=q0q (y2K F L (show k≤4 by lia)) h2
 obtain⟨r1,r2⟩:=z6d h k hk
 exact⟨fun t ht=>(r1 t ht).all a b,fun t ht=>(r2 t ht).all a b⟩
abbrev z2b:Stmt:=top 28
theorem sc_l_reduced:z0x ["_law_ways","_law_rows","_law_left","_law_found","_law_k","_law_heads"] ["_law_ways","_law_rows"] (z0n z2b):=⟨rfl,rfl,rfl,by decide+kernel,rfl,by decide+kernel,by decide+kernel⟩
def z4Z (K:PySem.W.Frag):Sp:=fun vs H Q _=>∃(l:Addr) (as:List Addr) (ts:List (List Int)) (m:Nat),vs=[.int (m:Nat),.ref l]∧H l=some (.lst (as.map V.ref))∧TsA H as ts∧ts.length≤10∧m≤4∧(∀t∈ts,t.length=m+1)∧RdB m ts∧
 (∀H',Same H H'→(∃t∈(z1l ts m).2,v t m≠0)→Q .non H')∧
 ∀(r:Addr) (bs:List Addr) (H':Hp),H r=none→Same H H'→H' r=some (.lst (bs.map V.ref))→TsA H' bs ((z1l ts m).1.map z0j)→(∀t∈(z1l ts m).2,v t m=0)→Q (.ref r) H'
theorem z5p (T:Txt mg) (F:Fun K "_law_reduced" "_law_reduced" z2b f fd) (c_l_struck:Cal P w K mg base 2 "_law_struck" ["_law_rows","_law_k","_law_head"] (z6y K)) (c_l_plain:Cal P w K mg base 2 "_law_plain" ["_law_row_here"] (z5R K)):FnOk P w K mg base CX0 3 f fd ["_law_ways","_law_rows"] (z4Z K):=by
 refine F.ok sc_l_reduced (fun vs H Q E h=>?_) (fun cdv A outer s H vs Q E hr h=>?_)
 ·obtain⟨_,_,_,_,rfl,_⟩:=h;rfl
 obtain⟨l,as,ts,m,rfl,hl,hts,t10,m4,hrl,hrb,q1,q2⟩:=h
 refine⟨_,(z0c (z2x (jj:=2) rfl sc_l_reduced.nd rfl (Or.inl rfl) (Or.inl rfl) (Nc:=["_law_row_here"]) (fr:=[none]) rfl (z0A (K:=K) rfl (pv 1)) rfl (by decide) rfl (by decide) rfl trivial trivial (fun _ _ _ _=>(z0k (i:=0) (show List.Nodup (["_law_row_here"]:List Str) from by decide) rfl (Or.inl rfl))) (fun _ _ _ _=>z0U) (fun _ _ _ _=>(z0E (z0Y (K:=K) rfl) rfl T.list boot_list (z0a (pv 0) z0e))))
  (z0c (z0p (i:=3) sc_l_reduced.nd rfl (Or.inl rfl) (z0H z0e))
  (z0c (z0W PassesOwn.never rfl (z1a rfl T.range (z0a (pv 0) z0e)) (z0k (i:=4) sc_l_reduced.nd rfl (Or.inr rfl)) (z0c (z2x (jj:=5) rfl sc_l_reduced.nd rfl (Or.inl rfl) (Or.inl rfl) (Nc:=["_law_row_here","_law_k"]) (fr:=[none,some 4]) rfl (z0A (K:=K) rfl (pv 2)) rfl (by decide) rfl (by decide) rfl ⟨rfl,trivial⟩ ⟨⟨rfl,rfl,rfl,rfl⟩,trivial⟩ (fun _ _ _ _=>(z0k (i:=0) (show List.Nodup (["_law_row_here","_law_k"]:List Str) from by decide) rfl (Or.inl rfl))) (fun _ _ _ _=>(z1o (z0s z4C (z0G (z0q (K:=K) rfl) (pv 0) (pv 1) (fun _ _=>rfl)) z0g (z0C _)))) (fun _ _ _ _=>(pv 0)))
  (z0i (z0O (z0s (z1O (K:=K) rfl hr.units) (pv 5) (z0H z0e) (z0C _)) (z0c (z0p (i:=3) sc_l_reduced.nd rfl (Or.inl rfl) (z0w z3u (z0B c_l_struck hr rfl (z0a (pv 3) (z0a (pv 4) (z0a (z0G (z0q (K:=K) rfl) (pv 5) z0g (fun _ _=>rfl)) z0e)))) (z0H (z0a (z0G (z0q (K:=K) rfl) (pv 5) z0g (fun _ _=>rfl)) z0e))))
  (z0i (z0p (i:=2) sc_l_reduced.nd rfl (Or.inl rfl) (z0B c_l_struck hr rfl (z0a (pv 2) (z0a (pv 4) (z0a (z0G (z0q (K:=K) rfl) (pv 5) z0g (fun _ _=>rfl)) z0e))))))) z0v))))
  (z0c (z0O (z0s (z1O (K:=K) rfl hr.units) (z0J (Nc:=["_law_row_here","_law_ways"]) (fr:=[none,some 0]) rfl (z0A (K:=K) rfl (pv 2)) rfl (by decide) rfl (by decide) rfl ⟨rfl,trivial⟩ ⟨⟨rfl,rfl,rfl,rfl⟩,trivial⟩ (fun _ _ _ _=>(z0k (i:=0) (show List.Nodup (["_law_row_here","_law_ways"]:List Str) from by decide) rfl (Or.inl rfl))) (fun _ _ _ _=>(z1o (z0s z4C (z0G (z0q (K:=K) rfl) (pv 0) (pv 1) (fun _ _=>rfl)) z0g (z0C _)))) (fun _ _ _ _=>(pv 0))) (z0H z0e) (z0C _)) (z0i (z0y z9d)) z0v)
  (z0i (z0y (z0J (Nc:=["_law_row_here"]) (fr:=[none]) rfl (z0A (K:=K) rfl (pv 3)) rfl (by decide) rfl (by decide) rfl trivial trivial (fun _ _ _ _=>(z0k (i:=0) (show List.Nodup (["_law_row_here"]:List Str) from by decide) rfl (Or.inl rfl))) (fun _ _ _ _=>z0U) (fun _ _ _ _=>(z0B c_l_plain hr rfl (z0a (pv 0) z0e)))))))))),?_⟩
 refine z0o (fun σ H'=>∃(D:Addr) (ls:List Addr),σ=[some (.int (m:Nat)),some (.ref l),some (.ref D),none,none,none]∧H' D=some (.lst (ls.map V.ref))∧LsA H' ls ts∧Same H H') (fun N hN=>?_) ?_
 ·refine⟨_,rfl,l,rfl,⟨_,SqL.of hl⟩,fun D hD=>?_⟩
  refine z1V rfl (z0r K l (as.map V.ref)) hD (fun _=>true) (fun H' x u=>∃(a:Addr) (t:List Int) (p:Addr),x=V.ref a∧u=V.ref p∧H a=some (.tup (t.map V.int))∧H' p=some (.lst (((fun t=>t) t).map V.int))∧p≠D) ?_ (fun H' g'=>SqL.of (g' _ _ hl)) (z0l (by rw[q0a,hts.1];lia)) ?_ ?_ ?_
  ·rintro H2 H3 x u k ⟨acc,hd⟩ ⟨a,t,p,e1,e2,e3,e4,e5⟩
   exact⟨a,t,p,e1,e2,e3,k _ _ e5 e4,e5⟩
  ·intro x hx Hc gc S h
   exact h _ (Same.refl _)
  ·rintro x hx _ Hc gc ⟨acc,hacc⟩ S h
   obtain⟨a,ha,rfl⟩:=q0e.mp hx
   obtain⟨i,hi,rfl⟩:=q0Q.mp ha
   have hi2:i<ts.length:=by rw[←hts.1];exact hi
   have hc:=hts.2 i _ _ (q0b hi) (q0b hi2)
   generalize ts[i]=t at hc
   refine⟨_,rfl,_,_,rfl,.inr (SqT.of (gc _ _ hc)),fun p hp=>?_⟩
   exact h _ _ (z0d hp _) ⟨_,t,p,rfl,rfl,hc,z0b,fun z=>by rw[z,hacc] at hp;cases hp⟩
  ·intro us H1 g1 hD1 he
   rw[z0F] at he
   obtain⟨as1,rfl,hL1,hL2⟩:=z3H (G:= .tup) (F:= .lst) (g:=fun t=>t) (fun xs ys h=>by injection h) hts.1 hts.2 (he.imp fun x u ⟨a,t,p,e1,e2,e3,e4,_⟩=>⟨a,t,p,e1,e2,e3,e4⟩)
   rw[List.map_id'] at hL1 hL2
   exact hN _ _ ⟨D,as1,rfl,hD1,⟨hL1,hL2⟩,g1⟩
 rintro σ H0 ⟨Lf,ls0,rfl,el0,ll0,g0⟩
 refine z0o (fun σ H'=>∃(Fd:Addr),σ=[some (.int (m:Nat)),some (.ref l),some (.ref Lf),some (.ref Fd),none,none]∧H' Lf=some (.lst (ls0.map V.ref))∧LsA H' ls0 ts∧H' Fd=some (.lst (([]:List Addr).map V.ref))∧Same H H') (fun N hN=>?_) ?_
 ·refine⟨q0A _,fun Fd hFd=>?_⟩
  have g1:=z0d hFd (.lst [])
  exact hN _ _ ⟨Fd,rfl,g1 _ _ el0,ll0.same g1,z0b,g0.trans g1⟩
 clear el0 ll0 g0
 rintro σ H0 ⟨Fd,rfl,el0,ll0,ef0,g0⟩
 refine z0o (fun σ H'=>∃(Lf Fd:Addr) (ls fs:List Addr) (s4 s5:Option V),σ=[some (.int (m:Nat)),some (.ref l),some (.ref Lf),some (.ref Fd),s4,s5]∧H' Lf=some (.lst (ls.map V.ref))∧LsA H' ls (z1l ts m).2 ∧H' Fd=some (.lst (fs.map V.ref))∧LsA H' fs (z1l ts m).1 ∧Same H H') (fun N hN=>?_) ?_
 ·refine⟨_,rfl,_,rfl,by lia,by lia,?_⟩
  rw[q0G]
  refine z0D (z0R 0 m) (fun i σ H'=>∃(Lf Fd:Addr) (ls fs:List Addr) (s4 s5:Option V),σ=[some (.int (m:Nat)),some (.ref l),some (.ref Lf),some (.ref Fd),s4,s5]∧H' Lf=some (.lst (ls.map V.ref))∧LsA H' ls (z1l ts i).2 ∧H' Fd=some (.lst (fs.map V.ref))∧LsA H' fs (z1l ts i).1 ∧Same H H') ⟨Lf,Fd,ls0,[],_,_,rfl,el0,ll0,ef0,LsA.nil,g0⟩ (fun _ _ _ _ _=>trivial) ?_ ?_
  ·clear el0 ll0 ef0 g0
   rintro k x σ H1 H1' hk ⟨Lf,Fd,ls,fs,s4,s5,rfl,el,ll,ef,lf,g⟩ ⟨rfl,rfl⟩
   have I:=z2j hrl k (by lia)
   obtain⟨c1,c2⟩:=z2X ts k
   obtain⟨b1,b2⟩:=hrb k (by lia)
   have eR:z1l ts (k+1)=z2t k (z1l ts k):=rfl
   rw[Int.zero_add]
   refine z0o (fun σ H'=>∃(D:Addr) (hs:List Addr),σ=[some (.int (m:Nat)),some (.ref l),some (.ref Lf),some (.ref Fd),some (.int (k:Nat)),some (.ref D)]∧H' D=some (.lst (hs.map V.ref))∧LsA H' hs ((z1l ts k).2.filter fun t=>v t k != 0)∧Same H1' H') (fun N' hN'=>?_) ?_
   ·refine⟨_,rfl,Lf,rfl,⟨_,SqL.of el⟩,fun D hD=>?_⟩
    obtain⟨hs,f1,f2⟩:=z2A k ll
    refine z1e rfl (z0r K Lf (ls.map V.ref)) hD (fun x=> !decide (V.int (atOf H1' k x)=V.int 0)) (fun x=>x) (fun H' g'=>SqL.of (g' _ _ el)) (z0l (by rw[q0a,ll.1,c2];lia)) ?_ ?_ ?_
    ·intro x hx Hc gc S h
     obtain⟨i,a,t,rfl,ha,ht,htm,hc⟩:=y1a ll hx
     rw[y1n hc] at h
     exact⟨_,rfl,_,rfl,a,_,_,_,rfl,rfl,SqL.of (gc _ _ hc),y1T (by rw[(I.ll t htm).1];lia),rfl,_,rfl,h⟩
    ·intro x hx _ Hc gc S h
     exact⟨_,rfl,h⟩
    rw[List.map_id',f1]
    exact hN' _ _ ⟨D,hs,rfl,z0b,f2.same (z0d hD _),z0d hD _⟩
   rintro σ H2 ⟨D,hs,rfl,eD,lh,g2⟩
   refine⟨_,rfl,q0A _,fun z hz=>?_⟩
   have g3:=z0d hz (.lst [])
   have e3:upd H2 z (.lst []) z=some (.lst (([]:List Int).map V.int)):=z0b
   generalize upd H2 z (.lst [])=H3 at*
   have g23:=g2.trans g3
   have lh3:=lh.same g3
   have eD3:=g3 _ _ eD
   refine⟨D,z,_,_,rfl,rfl,y1M eD3 lh3,z4i e3,by cases ((z1l ts k).2.filter fun t=>v t k != 0)<;>rfl,_,rfl,?_⟩
   cases e:(z1l ts k).2.filter fun t=>v t k != 0 with
   |nil=>
    rw[show Dt.eqb (.l (([]:List (List Int)).map dtL)) (dtL [])=true from (Dt.eqb_iff _ _).mpr rfl]
    refine z1X ?_
    refine⟨Lf,Fd,ls,fs,_,_,rfl,g23 _ _ el,?_,g23 _ _ ef,?_,g.trans g23⟩
    ·rw[eR,z2i e];exact ll.same g23
    ·rw[eR,z2i e];exact lf.same g23
   |cons h lr=>
    rw[show Dt.eqb (.l ((h::lr).map dtL)) (dtL [])=false from rfl]
    refine z5y ?_
    rw[e] at lh3
    obtain⟨ah,hs',rfl⟩:∃a b,hs=a::b:=by cases hs with|nil=>have:=lh3.1;simp at this|cons a b=>exact⟨a,b,rfl⟩
    have hm:h∈(z1l ts k).2 :=(q1d.mp (show h∈(z1l ts k).2.filter fun t=>v t k != 0 by rw[e];exact q0i)).1
    have hha:=lh3.2 0 ah h rfl rfl
    have hhl:=(I.ll h hm).1
    have bnd:∀n:Int,intBits n≤9000→intBits n≤9000:=fun n hn=>hn
    refine z0o (fun σ H'=>∃(Fd':Addr) (fs':List Addr),σ=[some (.int (m:Nat)),some (.ref l),some (.ref Lf),some (.ref Fd'),some (.int (k:Nat)),some (.ref D)]∧H' Fd'=some (.lst (fs'.map V.ref))∧LsA H' fs' ((z1l ts k).1.map (strk k h)++[h])∧Same H3 H') (fun N' hN'=>?_) ?_
    ·refine⟨_,rfl,_,rfl,_,rfl,D,_,_,_,rfl,rfl,SqL.of eD3,z1i (j:=0) rfl,Fd,ah,fs,(z1l ts k).1,h,k,9000,rfl,g23 _ _ ef,lf.same g23,hha,fun t ht=>⟨by rw[(I.fl t ht).1,hhl],fun n hn=>bnd n (b1 t ht n hn)⟩,fun n hn=>bnd n (b2 h hm n hn),by decide,by lia,by lia,by lia,fun r1 bs1 H4 hr1 g4 er1 lb1=>?_⟩
     refine⟨_,rfl,D,_,_,_,rfl,rfl,SqL.of (g4 _ _ eD3),z1i (j:=0) rfl,z0l (by show 1≤_;decide),fun z2 hz2=>?_⟩
     have g5:=z0d hz2 (.lst [V.ref ah])
     have e5:upd H4 z2 (.lst [V.ref ah]) z2=some (.lst [V.ref ah]):=z0b
     generalize upd H4 z2 (.lst [V.ref ah])=H5 at*
     refine⟨r1,z2,_,_,rfl,rfl,g5 _ _ er1,e5,z0l (by rw[q0a,lb1.1,q0a];show _+1≤_;lia),fun r2 hr2=>?_⟩
     have g6:=z0d hr2 (.lst (bs1.map V.ref++[V.ref ah]))
     exact hN' _ _ ⟨r2,bs1++[ah],rfl,by rw[z0b,q0m];rfl,((lb1.same g5).append (LsA.one ((g4.trans g5) _ _ hha))).same g6,g4.trans (g5.trans g6)⟩
    rintro σ H4 ⟨Fd',fs',rfl,ef',lf',g4⟩
    have g24:=g23.trans g4
    refine⟨_,rfl,_,rfl,_,rfl,D,_,_,_,rfl,rfl,SqL.of (g4 _ _ eD3),z1i (j:=0) rfl,Lf,ah,ls,(z1l ts k).2,h,k,9000,rfl,g24 _ _ el,ll.same g24,g4 _ _ hha,fun t ht=>⟨by rw[(I.ll t ht).1,hhl],fun n hn=>bnd n (b2 t ht n hn)⟩,fun n hn=>bnd n (b2 h hm n hn),by decide,by lia,by lia,by lia,fun r1 bs1 H5 hr1 g5 er1 lb1=>?_⟩
    refine⟨r1,Fd',bs1,fs',_,_,rfl,er1,?_,g5 _ _ ef',?_,g.trans (g24.trans g5)⟩
    ·rw[eR,z1R e];exact lb1
    ·rw[eR,z1R e];exact lf'.same g5
  ·rintro σ H1 ⟨Lf,Fd,ls,fs,s4,s5,rfl,el,ll,ef,lf,g⟩
   exact hN _ _ ⟨Lf,Fd,ls,fs,_,_,rfl,el,ll,ef,lf,g⟩
 clear el0 ll0 ef0 g0
 rintro σ H1 ⟨Lf,Fd,ls,fs,s4,s5,rfl,el,ll,ef,lf,g⟩
 have I:=z2j hrl m (q0k _)
 obtain⟨c1,c2⟩:=z2X ts m
 obtain⟨b1,b2⟩:=hrb m (q0k m)
 refine z0o (fun σ H'=>∃(s4 s5:Option V),σ=[some (.int (m:Nat)),some (.ref l),some (.ref Lf),some (.ref Fd),s4,s5]∧(∀t∈(z1l ts m).2,v t m=0)∧Same H1 H') (fun N hN=>?_) ?_
 ·refine⟨_,rfl,Lf,rfl,⟨_,SqL.of el⟩,fun D hD=>?_⟩
  obtain⟨hs,f1,f2⟩:=z2A m ll
  refine z1e rfl (z0r K Lf (ls.map V.ref)) hD (fun x=> !decide (V.int (atOf H1 m x)=V.int 0)) (fun x=>x) (fun H' g'=>SqL.of (g' _ _ el)) (z0l (by rw[q0a,ll.1,c2];lia)) ?_ ?_ ?_
  ·intro x hx Hc gc S h
   obtain⟨i,a,t,rfl,ha,ht,htm,hc⟩:=y1a ll hx
   rw[y1n hc] at h
   exact⟨_,rfl,_,rfl,a,_,_,_,rfl,rfl,SqL.of (gc _ _ hc),y1T (by rw[(I.ll t htm).1];lia),rfl,_,rfl,h⟩
  ·intro x hx _ Hc gc S h
   exact⟨_,rfl,h⟩
  rw[List.map_id',f1]
  have g2:=z0d hD (.lst (hs.map V.ref))
  have e2:upd H1 D (.lst (hs.map V.ref)) D=some (.lst (hs.map V.ref)):=z0b
  generalize upd H1 D (.lst (hs.map V.ref))=H2 at*
  refine⟨q0A _,fun z hz=>?_⟩
  have g3:=z0d hz (.lst [])
  have e3:upd H2 z (.lst []) z=some (.lst (([]:List Int).map V.int)):=z0b
  generalize upd H2 z (.lst [])=H3 at*
  have g23:=g2.trans g3
  refine⟨D,z,_,_,rfl,rfl,y1M (g3 _ _ e2) (f2.same g23),z4i e3,by cases ((z1l ts m).2.filter fun t=>v t m != 0)<;>rfl,_,rfl,?_⟩
  cases e:(z1l ts m).2.filter fun t=>v t m != 0 with
  |nil=>
   rw[show Dt.eqb (.l (([]:List (List Int)).map dtL)) (dtL [])=true from (Dt.eqb_iff _ _).mpr rfl]
   refine z1X ?_
   refine hN _ _ ⟨_,_,rfl,fun t ht=>q0C fun z=>?_,g23⟩
   have:t∈(z1l ts m).2.filter fun t=>v t m != 0:=q1d.mpr ⟨ht,by simpa using z⟩
   rw[e] at this
   cases this
  |cons h lr=>
   rw[show Dt.eqb (.l ((h::lr).map dtL)) (dtL [])=false from rfl]
   refine z5y ?_
   obtain⟨hm,hn⟩:=q1d.mp (show h∈(z1l ts m).2.filter fun t=>v t m != 0 by rw[e];exact q0i)
   exact q1 _ (g.trans g23) ⟨h,hm,by simpa using hn⟩
 rintro σ H2 ⟨s4',s5',rfl,h0,g2⟩
 have ef2:=g2 _ _ ef
 have lf2:=lf.same g2
 refine⟨_,rfl,Fd,rfl,⟨_,SqL.of ef2⟩,fun D hD=>?_⟩
 refine z1V rfl (z0r K Fd (fs.map V.ref)) hD (fun _=>true) (fun H' x u=>∃(a:Addr) (t:List Int) (p:Addr),x=V.ref a∧u=V.ref p∧H2 a=some (.lst (t.map V.int))∧H' p=some (.tup ((z0j t).map V.int))∧p≠D) ?_ (fun H' g'=>SqL.of (g' _ _ ef2)) (z0l (by rw[q0a,lf2.1];lia)) ?_ ?_ ?_
 ·rintro Ha Hb x u kk ⟨acc,hd⟩ ⟨a,t,p,e1,e2,e3,e4,e5⟩
  exact⟨a,t,p,e1,e2,e3,kk _ _ e5 e4,e5⟩
 ·intro x hx Hc gc S h
  exact h _ (Same.refl _)
 ·rintro x hx _ Hc gc ⟨acc,hacc⟩ S h
  obtain⟨i,a,t,rfl,ha,ht,htm,hc⟩:=y1a lf2 hx
  obtain⟨tl,tk⟩:=I.fl t htm
  refine⟨_,rfl,a,t,rfl,.inl (SqL.of (gc _ _ hc)),by lia,fun n hn=>by have:=b1 t htm n hn;lia,z9m (by lia),fun p H3 g3 ep=>?_⟩
  refine h _ _ g3 ⟨a,t,p,rfl,rfl,hc,ep,fun y=>?_⟩
  rw[y,g3 _ _ hacc] at ep
  cases ep
 ·intro us H3 g3 hD3 he
  rw[z0F] at he
  obtain⟨as2,rfl,hM1,hM2⟩:=z3H (G:= .lst) (F:= .tup) (g:=z0j) (fun xs ys h=>by injection h) lf2.1 lf2.2 (he.imp fun x u ⟨a,t,p,e1,e2,e3,e4,_⟩=>⟨a,t,p,e1,e2,e3,e4⟩)
  have g03:=g.trans g2
  exact q2 D as2 _ (g03.free hD) (g03.trans g3) hD3 ⟨hM1,hM2⟩ h0
end
end L2
namespace L2
open PySem PySem.Spec PyProof.Rows
section
open Fr Wl Rk Pt Pa Srt
open Builtin.Int (intBits)
theorem z3x:∀(n:Nat),∀t∈z0P n,∀p∈t,0≤p∧p<(n:Nat)
 |0,t,ht,p,hp=>by rw[List.mem_singleton.mp ht] at hp;cases hp
 |n+1,t,ht,p,hp=>by
  rcases q0r.mp (show t∈z0P n++(z0P n).map fun t=>t++[((n:Nat):Int)] from ht) with h|h
  ·have:=z3x n t h p hp;lia
  ·obtain⟨u,hu,rfl⟩:=q0e.mp h
   rcases q0r.mp hp with hp|hp
   ·have:=z3x n u hu p hp;lia
   ·have:=q0g.mp hp;lia
def pick (ts:List (List Int)) (lot:List Int):List (List Int):=lot.map fun p=>ts.getD p.toNat []
theorem z5j {ts:List (List Int)}{n:Nat} (u:List Int):pick ts (u++[((n:Nat):Int)])=pick ts u++[ts.getD n []]:=by
 unfold pick
 rw[q0m,q1y,q0G]
theorem z4T {ts:List (List Int)}{n:Nat} (h:n<ts.length):ts.take (n+1)=ts.take n++[ts.getD n []]:=by
 rw[q0L,q0c,q0b h];rfl
theorem z4A (ts:List (List Int)):∀(n:Nat),n≤ts.length→∀t∈z0P n,(pick ts t).Sublist (ts.take n)
 |0,_,t,ht=>by rw[List.mem_singleton.mp ht];exact List.nil_sublist _
 |n+1,hn,t,ht=>by
  rw[z4T (by lia)]
  rcases q0r.mp (show t∈z0P n++(z0P n).map fun t=>t++[((n:Nat):Int)] from ht) with h|h
  ·exact (z4A ts n (by lia) t h).trans (List.sublist_append_left _ _)
  ·obtain⟨u,hu,rfl⟩:=q0e.mp h
   rw[z5j]
   exact List.Sublist.append (z4A ts n (by lia) u hu) (.refl _)
theorem z6w (ts:List (List Int)):∀(n:Nat),n≤ts.length→∀S:List (List Int),S.Sublist (ts.take n)→∃t∈z0P n,pick ts t=S
 |0,_,S,hS=>⟨[],List.mem_singleton.mpr rfl,by rw[List.take_zero] at hS;rw[List.sublist_nil.mp hS];rfl⟩
 |n+1,hn,S,hS=>by
  rw[z4T (by lia)] at hS
  obtain⟨S1,S2,rfl,s1,s2⟩:=List.sublist_append_iff.mp hS
  obtain⟨t,ht,e⟩:=z6w ts n (by lia) S1 s1
  have hw:S2=[]∨S2=[ts.getD n []]:=by
   cases S2 with
   |nil=>exact .inl rfl
   |cons x S2=>
    have hl:=s2.length_le
    have:S2=[]:=q0J.mp (by rw[q0D,q0I] at hl;lia)
    subst this
    have:=s2.subset q0i
    rw[q0g.mp this]
    exact .inr rfl
  rcases hw with rfl|rfl
  ·exact⟨t,q0N _ ht,by rw[q1n];exact e⟩
  ·exact⟨t++[((n:Nat):Int)],q0z _ (q0e.mpr ⟨t,ht,rfl⟩),by rw[z5j,e]⟩
structure PrD where
 pl:List Int
 us:List (List Int)
 bs:List Addr
 ar:Addr
def z8p (es:List PrD) (e:PrD):List PrD:=if (es.any fun x=>decide (x.pl=e.pl))=true then es.map (fun x=>if x.pl=e.pl then e else x) else es++[e]
def kyL (t:List Int):List Key:=t.map Sum.inl
theorem z6k (t:List Int):(kyL t).map kV=t.map V.int:=by unfold kyL;rw[List.map_map];rfl
theorem z6l {a b:List Int} (h:kyL a=kyL b):a=b:=q1h (fun x y h=>by injection h) |>.mp h
def z2E (e:PrD):List Key×V:=(kyL e.pl,V.ref e.ar)
theorem kyd (a b:List Int):decide (kyL a=kyL b)=decide (a=b):=by
 by_cases c:a=b
 ·rw[c,decide_eq_true rfl,decide_eq_true rfl]
 ·rw[decide_eq_false c,decide_eq_false fun z=>c (z6l z)]
theorem y0A (es:List PrD) (e:PrD):z7F (es.map z2E) (kyL e.pl) (V.ref e.ar)=(z8p es e).map z2E:=by
 have ha:((es.map z2E).any fun kv=>decide (kv.1=kyL e.pl))=es.any fun x=>decide (x.pl=e.pl):=by
  rw[List.any_map]
  congr 1
  funext x
  exact kyd _ _
 unfold z7F z8p
 rw[ha]
 split
 ·rw[q0w,q0w]
  refine q0T fun x _=>?_
  show (if kyL x.pl=kyL e.pl then (kyL x.pl,V.ref e.ar) else z2E x)=z2E (if x.pl=e.pl then e else x)
  by_cases c:x.pl=e.pl
  ·rw[if_pos c,if_pos (by rw[c])]
   unfold z2E;rw[c]
  ·rw[if_neg c,if_neg fun z=>c (z6l z)]
 ·rw[q0m];rfl
theorem y0E (es:List PrD) (e:PrD):(z8p es e).length ≤es.length+1:=by
 unfold z8p
 split
 ·rw[q0a];lia
 ·rw[q0x,q0I];lia
theorem z6G {es:List PrD}{e x:PrD} (h:x∈z8p es e):x∈es∨x=e:=by
 unfold z8p at h
 split at h
 ·obtain⟨y,hy,rfl⟩:=q0e.mp h
  split
  ·exact .inr rfl
  ·exact .inl hy
 ·rcases q0r.mp h with h|h
  ·exact .inl h
  ·exact .inr (q0g.mp h)
theorem y0D (es:List PrD) (e:PrD) (h:(es.map PrD.pl).Nodup):((z8p es e).map PrD.pl).Nodup ∧∀p,p∈(z8p es e).map PrD.pl↔p∈es.map PrD.pl∨p=e.pl:=by
 unfold z8p
 split
 ·rename_i c
  have em:(es.map fun x=>if x.pl=e.pl then e else x).map PrD.pl=es.map PrD.pl:=by
   rw[q0w]
   refine q0T fun x _=>?_
   show (if x.pl=e.pl then e else x).pl =x.pl
   by_cases c:x.pl=e.pl
   ·rw[if_pos c,c]
   ·rw[if_neg c]
  rw[em]
  obtain⟨x,hx,k⟩:=q1i.mp c
  refine⟨h,fun p=>⟨.inl,fun z=>z.elim id fun z=>?_⟩⟩
  rw[z,←of_decide_eq_true k]
  exact q0e.mpr ⟨x,hx,rfl⟩
 ·rename_i c
  have hn:e.pl∉es.map PrD.pl:=fun z=>c (by
   obtain⟨x,hx,k⟩:=q0e.mp z
   exact q1i.mpr ⟨x,hx,decide_eq_true k⟩)
  rw[q0m]
  refine⟨List.nodup_append.mpr ⟨h,by simp,fun a ha b hb=>?_⟩,fun x=>?_⟩
  ·rw[q0g.mp hb]
   exact fun z=>hn (by have z2:a=e.pl:=z;rw[←z2];exact ha)
  ·rw[q0r]
   show _∨x∈[e.pl]↔_
   rw[q0g]
structure EsI (m:Nat) (ws:List (List Int)) (ls:List (List Int)) (es:List PrD):Prop where
 nd:(es.map PrD.pl).Nodup
 good:∀e∈es,Rws m e.us∧e.pl=zL (z0L e.us ws)∧∃S:List (List Int),S.Sublist ws∧In (e.us.map v)=In (S.map v)
 all:∀lot∈ls,z5P m (pick ws lot)∨∃us,Rws m us∧In (us.map v)=In ((pick ws lot).map v)∧zL (z0L us ws)∈es.map PrD.pl
theorem EsI.start {m:Nat}{ws:List (List Int)}:EsI m ws [] []:=⟨by simp,fun e h=>(nomatch h),fun l h=>(nomatch h)⟩
theorem EsI.off {m:Nat}{ws ls:List (List Int)}{es:List PrD} (h:EsI m ws ls es) {lot:List Int} (o:z5P m (pick ws lot)):EsI m ws (ls++[lot]) es:=⟨h.nd,h.good,fun l hl=>by
 rcases q0r.mp hl with hl|hl
 ·exact h.all l hl
 ·rw[q0g.mp hl];exact .inl o⟩
theorem EsI.put {m:Nat}{ws ls:List (List Int)}{es:List PrD} (h:EsI m ws ls es) {lot:List Int}{e:PrD} (hR:Rws m e.us) (hp:e.pl=zL (z0L e.us ws)) (hs:(pick ws lot).Sublist ws) (hI:In (e.us.map v)=In ((pick ws lot).map v)):EsI m ws (ls++[lot]) (z8p es e):=by
 obtain⟨n1,n2⟩:=y0D es e h.nd
 refine⟨n1,fun x hx=>?_,fun l hl=>?_⟩
 ·rcases z6G hx with hx|rfl
  ·exact h.good x hx
  ·exact⟨hR,hp,_,hs,hI⟩
 ·rcases q0r.mp hl with hl|hl
  ·rcases h.all l hl with o|⟨us,k1,k2,k3⟩
   ·exact .inl o
   ·exact .inr ⟨us,k1,k2,(n2 _).mpr (.inl k3)⟩
  ·rw[q0g.mp hl]
   exact .inr ⟨e.us,hR,hI,(n2 _).mpr (.inr hp.symm)⟩
theorem z7b {m:Nat}{us ws:List (List Int)} (h:Rws m us) (hw:∀t∈ws,t.length=m+1) (i:Nat):i∈z0L us ws↔∃t,ws[i]? =some t∧In (us.map v) (v t):=by
 unfold z0L
 rw[q1d,q1a]
 constructor
 ·rintro⟨h1,h2⟩
  have e:ws.getD i []=ws[i]:=by rw[q0c,q0b h1];rfl
  rw[e] at h2
  exact⟨ws[i],q0b h1,(y1b h (hw _ (q0F h1))).mp h2⟩
 ·rintro⟨t,h1,h2⟩
  have hi:=(q0E.mp h1).1
  refine⟨hi,?_⟩
  rw[q0c,h1]
  exact (y1b h (hw _ (q0s h1))).mpr h2
theorem y1p {a b:List Nat} (h:zL a=zL b):a=b:=by
 unfold zL at h
 exact q1h (fun x y h=>by lia) |>.mp h
theorem y1B {m:Nat}{ws us us2 S S2:List (List Int)} (hw:∀t∈ws,t.length=m+1) (h:Rws m us) (h2:Rws m us2) (s:S.Sublist ws) (e:In (us.map v)=In (S.map v)) (s2:S2.Sublist ws) (e2:In (us2.map v)=In (S2.map v)) (hp:z0L us ws=z0L us2 ws):us=us2:=by
 have key:∀{us us2 S:List (List Int)},Rws m us→Rws m us2→S.Sublist ws→In (us.map v)=In (S.map v)→z0L us ws=z0L us2 ws→∀r∈S.map v,In (us2.map v) r:=fun h h2 s e hp r hr=>by
  obtain⟨t,ht,rfl⟩:=q0e.mp hr
  obtain⟨i,hi,et⟩:=q0Q.mp (s.subset ht)
  have h1:=(z7b h hw i).mpr ⟨t,by rw[q0b hi,et],by rw[e];exact In.one hr⟩
  rw[hp] at h1
  obtain⟨t',et',hI⟩:=(z7b h2 hw i).mp h1
  rw[q0b hi,et] at et'
  rw[Option.some.inj et'];exact hI
 refine h.one h2 (In.same (fun r hr=>?_) fun r hr=>?_)
 ·have:In (S.map v) r:=by rw[←e];exact In.one hr
  exact In.sub (key h h2 s e hp) this
 ·have:In (S2.map v) r:=by rw[←e2];exact In.one hr
  exact In.sub (key h2 h s2 e2 hp.symm) this
theorem EsI.perm {m:Nat}{bn:Nat→Nat}{ws:List (List Int)}{es:List PrD}{L:List (List (List Int))} (hw:∀t∈ws,t.length=m+1) (h:EsI m ws (z0P ws.length) es) (hL:PartsI m bn ws L):(es.map PrD.us).Perm L:=by
 have eg:es.map PrD.pl=(es.map PrD.us).map fun us=>zL (z0L us ws):=by
  rw[q0w]
  exact q0T fun e he=>(h.good e he).2.1
 have nd:(es.map PrD.us).Nodup :=by
  have:=h.nd
  rw[eg] at this
  exact (q0M.mp this).imp fun h z=>h (by rw[z])
 refine (List.perm_ext_iff_of_nodup nd hL.nd).mpr fun us=>⟨fun hu=>?_,fun hu=>?_⟩
 ·obtain⟨e,he,rfl⟩:=q0e.mp hu
  obtain⟨g1,_,S,g3,g4⟩:=h.good e he
  rcases hL.all S g3 with⟨us',k1,k2⟩|o
  ·rw[g1.one (hL.good us' k1).1 (by rw[g4,k2])];exact k1
  ·exact absurd o (g1.noff g4)
 ·obtain⟨g1,_⟩:=hL.good us hu
  obtain⟨S,k1,k2⟩:=hL.lot us hu
  obtain⟨lot,hlot,rfl⟩:=z6w ws ws.length (q0k _) S (by rw[q0S];exact k1)
  rcases h.all lot hlot with o|⟨us',r1,r2,r3⟩
  ·exact absurd o (g1.noff k2)
  ·have:us=us':=g1.one r1 (by rw[k2,r2])
   subst this
   obtain⟨e,he,ee⟩:=q0e.mp r3
   obtain⟨g1',g2',S',g3',g4'⟩:=h.good e he
   rw[g2'] at ee
   rw[←y1B hw g1' g1 g3' g4' k1 k2 (y1p ee)]
   exact q0e.mpr ⟨e,he,rfl⟩
end
end L2
namespace L2
open PySem PySem.Spec PyProof.Rows
section
open Fr Wl Rk Pt Pa Srt
open Builtin.Int (intBits)
variable {P:Program}{w:World}{K:PySem.W.Frag}{mg:Str→Option Value}{base:Heap}{f:Addr}{fd:FuncData}
def PrAt (H:Hp) (e:PrD):Prop:=H e.ar=some (.lst (e.bs.map V.ref))∧TsA H e.bs e.us
theorem PrAt.upd {H H':Hp}{e:PrD} (h:PrAt H e) (g1:H e.ar=some (.lst (e.bs.map V.ref))→H' e.ar=some (.lst (e.bs.map V.ref))) (g2:∀b ys,H b=some (.tup ys)→H' b=some (.tup ys)):PrAt H' e:=⟨g1 h.1,h.2.1,fun i a t e1 e2=>g2 _ _ (h.2.2 i a t e1 e2)⟩
theorem y2N {m:Nat}{t:List Int} (h:wlD m t):BT m 33 65 t:=by
 obtain⟨rs,rfl,hl,⟨j,hj,hn⟩,hb,h32⟩:=h
 exact BT.plain ⟨hl,fun j hj=>by have:=h32 j hj;lia,by have:=z2H hb m;lia⟩ (z5t hn)
theorem BT.l4 {m:Nat}{t:List Int} (m4:m≤4) (h:BT m (2^m*33) (LL 33 65 m) t):BT m 528 560 t:=h.mono (q0q (y1s m4 33) (by decide)) (q0q (y2K 33 65 m4) (by decide))
theorem y1Y (a:List Nat) (i:Nat):zL (a++[i])=zL a++[(i:Int)]:=by unfold zL;rw[List.map_append];rfl
theorem z9H {A:List (Nat→Int)}{x:Nat→Int} (h:In A x):In (A++[x])=In A:=In.same (fun r hr=>by
 rcases q0r.mp hr with hr|hr
 ·exact In.one hr
 ·rw[q0g.mp hr];exact h) fun r hr=>In.one (q0N _ hr)
theorem y2F {a b:List (List Int)} (h:a.map dtT=b.map dtT):a=b:=(q1h fun x y h=>by
 unfold dtT at h
 injection h with h
 exact z6Y h).mp h
theorem hz_no {m:Nat}{rs:List (List Int)}{t:List Int} (hR:Rws m rs) (hl:t.length=m+1) (o:z5P m (rs++[t])):hz rs t=false:=by
 cases e:hz rs t with
 |false=>rfl
 |true=>
  have h:=z9H ((y1b hR hl).mp e)
  exact absurd o (hR.noff (by rw[q0m];exact h.symm))
theorem hz_eq {m:Nat}{rs qs:List (List Int)}{t:List Int} (hR:Rws m rs) (hl:t.length=m+1) (hq:Rws m qs) (e:In (qs.map v)=In ((rs++[t]).map v)):Dt.eqb (.l (qs.map dtT)) (.l (rs.map dtT))=hz rs t:=by
 rw[q0m] at e
 rw[q1p,Dt.eqb_iff,y1b hR hl,Dt.l.injEq]
 constructor
 ·intro h
  rw[←y2F h,e]
  exact In.one (q0z _ (q0g.mpr rfl))
 ·intro h
  rw[hq.one hR (by rw[e];exact z9H h)]
def hlD (us ws:List (List Int)) (i:Nat):List Nat:=(List.range i).filter fun i=>hz us (ws.getD i [])
theorem hlD_t {us ws:List (List Int)}{i:Nat} (h:hz us (ws.getD i [])=true):hlD us ws (i+1)=hlD us ws i++[i]:=by
 unfold hlD
 rw[List.range_succ,q0Y]
 simp only[List.filter_cons,List.filter_nil,h,if_true]
theorem y3U {us ws:List (List Int)}{i:Nat} (h:hz us (ws.getD i [])=false):hlD us ws (i+1)=hlD us ws i:=by
 unfold hlD
 rw[List.range_succ,q0Y]
 simp only[List.filter_cons,List.filter_nil,h,q0Z,if_false,q1n]
theorem y2B (us ws:List (List Int)) (i:Nat):(hlD us ws i).length ≤i:=by
 unfold hlD
 have:=q1f (fun i=>hz us (ws.getD i [])) (List.range i)
 rwa[q1e] at this
abbrev z3k:Stmt:=top 30
theorem sc_l_parts:z0x ["_law_ways","_law_fences_here","_law_found","_law_lot","_law_rows","_law_places","_law_place"] ["_law_ways","_law_fences_here"] (z0n z3k):=⟨rfl,rfl,rfl,by decide+kernel,rfl,by decide+kernel,by decide+kernel⟩
def z8v (K:PySem.W.Frag):Sp:=fun vs H Q _=>∃(b:Addr) (as:List Addr) (ws:List (List Int)) (m:Nat),vs=[.int (m:Nat),.ref b]∧H b=some (.lst (as.map V.ref))∧TsA H as ws∧ws.length≤6∧m≤4∧(∀t∈ws,wlD m t)∧
 ∀(d:Addr) (es:List PrD) (H':Hp),H d=none→Same H H'→H' d=some (.dT (es.map z2E))→(∀e∈es,PrAt H' e)→EsI m ws (z0P ws.length) es→es.length≤64→Q (.ref d) H'
theorem z7N (T:Txt mg) (F:Fun K "_law_parts" "_law_parts" z3k f fd) (c_l_lots:Cal P w K mg base 4 "_law_lots" ["_law_many"] (y1y K)) (c_l_reduced:Cal P w K mg base 4 "_law_reduced" ["_law_ways","_law_rows"] (z4Z K)):FnOk P w K mg base CX0 5 f fd ["_law_ways","_law_fences_here"] (z8v K):=by
 refine F.ok sc_l_parts (fun vs H Q E h=>?_) (fun cdv A outer s H vs Q E hr h=>?_)
 ·obtain⟨_,_,_,_,rfl,_⟩:=h;rfl
 obtain⟨b,as,ws,m,rfl,hb,hts,w6,m4,hwl,q⟩:=h
 refine⟨_,(z0c (z0p (i:=2) sc_l_parts.nd rfl (Or.inl rfl) y0N)
  (z0c (z0W PassesOwn.never rfl (z0A (K:=K) rfl (z0B c_l_lots hr rfl (z0a (z0u (z0Q (K:=K) rfl) rfl T.len PySem.boot_len (z0a (pv 1) z0e)) z0e))) (z0k (i:=3) sc_l_parts.nd rfl (Or.inl rfl)) (z0c (z0p (i:=4) sc_l_parts.nd rfl (Or.inl rfl) (z0B c_l_reduced hr rfl (z0a (pv 0) (z0a (z0J (Nc:=["_law_place","_law_fences_here"]) (fr:=[none,some 1]) rfl (z0A (K:=K) rfl (pv 3)) rfl (by decide) rfl (by decide) rfl ⟨rfl,trivial⟩ ⟨⟨rfl,rfl,rfl,rfl⟩,trivial⟩ (fun _ _ _ _=>(z0k (i:=0) (show List.Nodup (["_law_place","_law_fences_here"]:List Str) from by decide) rfl (Or.inl rfl))) (fun _ _ _ _=>z0U) (fun _ _ _ _=>(z0G (z0q (K:=K) rfl) (pv 1) (pv 0) (fun _ _=>rfl)))) z0e))))
  (z0i (z0O (z8W (z9f (pv 4))) (z0c (z0p (i:=5) sc_l_parts.nd rfl (Or.inl rfl) (z0H z0e))
  (z0c (z0W PassesOwn.never rfl (z1a rfl T.range (z0a (z0u (z0Q (K:=K) rfl) rfl T.len PySem.boot_len (z0a (pv 1) z0e)) z0e)) (z0k (i:=6) sc_l_parts.nd rfl (Or.inl rfl)) (z0i (z0O (z0s (y2r (K:=K) rfl hr.units) (z0B c_l_reduced hr rfl (z0a (pv 0) (z0a (z0w z3u (pv 4) (z0H (z0a (z0G (z0q (K:=K) rfl) (pv 1) (pv 6) (fun _ _=>rfl)) z0e))) z0e))) (pv 4) (z0C _)) (z0i (z1C (z6e PySem.F.plainAttrs_list PySem.F.slot_list_append PySem.F.type_list_append z1b (pv 5) (z0a (pv 6) z0e)))) z0v)))
  (z0i (y2l (y3T hr) (pv 2) (z0E (z1q (K:=K) rfl) rfl T.tuple boot_tuple (z0a (pv 5) z0e)) (pv 4) rfl)))) z0v))))
  (z0i (z0y (pv 2))))),?_⟩
 have hBT:∀t∈ws,BT m 33 65 t:=fun t ht=>y2N (hwl t ht)
 have hlen:∀t∈ws,t.length=m+1:=fun t ht=>(hBT t ht).1
 refine z0o (fun σ H'=>∃d,H d=none∧σ=[some (.int (m:Nat)),some (.ref b),some (.ref d),none,none,none,none]∧Same H H'∧H' d=some (.dT ([]:List (List Key×V)))) (fun N hN=>?_) ?_
 ·exact fun d hd=>hN _ _ ⟨d,hd,rfl,z0d hd _,z0b⟩
 rintro σ0 H0 ⟨d,hd,rfl,g0,e0⟩
 refine z0o (fun σ H'=>∃s3 s4 s5 s6 es,σ=[some (.int (m:Nat)),some (.ref b),some (.ref d),s3,s4,s5,s6]∧Same H H'∧H' d=some (.dT (List.map z2E es))∧(∀e∈es,PrAt H' e)∧EsI m ws (z0P ws.length) es∧es.length≤64) (fun N hN=>?_) ?_
 ·refine⟨_,rfl,b,_,rfl,.inl (SqL.of (g0 _ _ hb)),?_⟩
  rw[q0a,hts.1]
  refine⟨ws.length,rfl,by lia,fun rl bl H1 hrl g1 erl hbl _=>?_⟩
  have hll:(z0P ws.length).length ≤64:=by rw[z3y];exact q0q (Nat.pow_le_pow_right (by decide) w6) (by decide)
  have dne:∀c ys,H1 c=some (.lst ys)→c≠d:=fun c ys h z=>by rw[z,g1 _ _ e0] at h;cases h
  have hbl':=hbl.1
  refine⟨rl,rfl,⟨_,SqL.of erl⟩,?_⟩
  refine z0D (z0r K rl (bl.map V.ref)) (fun i σ H'=>∃s3 s4 s5 s6 es,σ=[some (.int (m:Nat)),some (.ref b),some (.ref d),s3,s4,s5,s6]∧(∀c o,c≠d→H1 c=some o→H' c=some o)∧H' d=some (.dT (List.map z2E es))∧(∀e∈es,PrAt H' e)∧EsI m ws ((z0P ws.length).take i) es∧es.length≤i)
   ⟨_,_,_,_,[],rfl,fun c o _ e=>e,g1 _ _ e0,fun e h=>(nomatch h),EsI.start,q0k _⟩ (fun _ _ _ _ h=>by obtain⟨_,_,_,_,_,_,k,_⟩:=h;exact SqL.of (k _ _ (dne _ _ erl) erl)) ?_ ?_
  ·rintro i x σ H2' H2 hi ⟨s3,s4,s5,s6,es,rfl,k2,ed,hes,hE,el⟩ ⟨rfl,hx⟩
   rw[q0a] at hi
   rw[q0j] at hx
   obtain⟨a,ha,rfl⟩:=q0v.mp hx
   have hi2:i<(z0P ws.length).length :=by rw[←hbl'];exact hi
   have et:(z0P ws.length)[i]? =some (z0P ws.length)[i]:=q0b hi2
   have htm:=q0F hi2
   have tk:(z0P ws.length).take (i+1)=(z0P ws.length).take i++[(z0P ws.length)[i]]:=by rw[q0L,et];rfl
   have ea0:=hbl.2 i a _ ha et
   generalize (z0P ws.length)[i]=t at et htm tk ea0
   have ea:=k2 _ _ (dne _ _ ea0) ea0
   have tl:=z2n _ t htm
   have hmem:=z3x _ t htm
   have psub:(pick ws t).Sublist ws:=by have:=z4A ws ws.length (q0k _) t htm;rwa[q0S] at this
   have up:∀c o,H c=some o→H2 c=some o:=fun c o h=>k2 _ _ (z0f h hd) (g1 _ _ (g0 _ _ h))
   have hb2:=up _ _ hb
   have hts2:TsA H2 as ws:=hts.same up
   rw[tk]
   generalize (z0P ws.length).take i=ls at*
   have hrows:∀u∈pick ws t,BT m 33 65 u:=fun u hu=>hBT u (psub.subset hu)
   have hrl2:∀u∈pick ws t,u.length=m+1:=fun u hu=>(hrows u hu).1
   have I:=z2j (m:=m) hrl2 m (q0k _)
   refine⟨_,rfl,_,rfl,a,rfl,⟨_,SqL.of ea⟩,fun D hD=>?_⟩
   refine z0S t (by rw[q0a]) (z0r K a (t.map V.int)) hD (fun p σ=>σ.set 0 (some (.int p))) (fun d e σ=>q1x ..) (fun _=>true) (fun _ p u=>u=V.ref (as.getD p.toNat 0)) (fun _ _ _ _ _ _ h=>h) (fun H' g'=>SqL.of (g' _ _ ea)) (z0l (by rw[q0a];lia)) ?_ ?_ ?_ ?_
   ·intro k x p hx hp σ H3 g3 S h
    rw[q0j,hp] at hx
    obtain rfl:=Option.some.inj hx
    exact h
   ·intro p hp Hc gc S h
    exact h _ (Same.refl _)
   ·intro p hp _ Hc gc _ S h
    have:=hmem p hp
    have hpa:p.toNat<as.length:=by rw[hts.1];lia
    have hat:atI (as.map V.ref) p=some (.ref (as.getD p.toNat 0)):=by
     have e:p=((p.toNat:Nat):Int):=by lia
     rw[e,q0G]
     exact z1i (by rw[q0j,q0b hpa,q0c,q0b hpa];rfl)
    exact⟨_,rfl,_,rfl,b,_,_,_,rfl,rfl,SqL.of (gc _ _ hb2),hat,h _ _ (Same.refl _) rfl⟩
   intro us H3 g3 hD3 he
   rw[z0F] at he
   have eus:us=(t.map fun p=>as.getD p.toNat 0).map V.ref:=by
        clear hD3
        generalize t=t' at he
        induction he with
        |nil=>rfl
        |cons h1 _ ih=>rw[h1,ih];rfl
   subst eus
   have hT:TsA H3 (t.map fun p=>as.getD p.toNat 0) (pick ws t):=⟨by unfold pick;rw[List.length_map,List.length_map],fun k a' u e1 e2=>by
        unfold pick at e2
        rw[q0j] at e1 e2
        obtain⟨p,hp,rfl⟩:=q0v.mp e1
        rw[hp] at e2
        obtain rfl:=Option.some.inj e2
        have:=hmem p (q0s hp)
        have h1:p.toNat<ws.length:=by lia
        have h2:p.toNat<as.length:=by rw[hts.1];exact h1
        refine (hts2.same g3).2 p.toNat _ _ ?_ ?_
        ·rw[q0c,q0b h2];rfl
        ·show ws[p.toNat]? =some (ws.getD p.toNat [])
         rw[q0c,q0b h1];rfl⟩
   refine⟨D,_,pick ws t,m,rfl,hD3,hT,by unfold pick;rw[List.length_map];lia,m4,hrl2,RdB.of m4 hrows (by decide) (by decide),fun H4 g4 hn=>?_,fun r2 bs2 H4 hr2 g4 er2 hts3 hzz=>?_⟩
   ·refine⟨_,rfl,_,rfl,?_⟩
    refine z1X ?_
    have g34:=g3.trans g4
    obtain⟨u,hu,hun⟩:=hn
    exact⟨_,_,_,_,es,rfl,fun c o hc e=>g34 _ _ (k2 _ _ hc e),g34 _ _ ed,fun e he=>(hes e he).upd (fun h=>g34 _ _ h) (fun _ _ h=>g34 _ _ h),hE.off (I.none hu hun),by lia⟩
   refine⟨_,rfl,_,rfl,?_⟩
   refine z5y ?_
   have g34:=g3.trans g4
   obtain⟨hR,hI⟩:=I.rws hzz
   have hR5:∀u∈(z1l (pick ws t) m).1.map z0j,BT m 528 560 u:=fun u hu=>by
        obtain⟨x,hx,rfl⟩:=q0e.mp hu
        have nz:∃n∈x,n≠0:=z9m (by have:=I.fl x hx;lia)
        exact (((z6d hrows m (q0k _)).1 x hx).l4 m4).plain nz
   have hle:((z1l (pick ws t) m).1.map z0j).length ≤4:=by rw[q0a];have:=(z2X (pick ws t) m).1;lia
   generalize (z1l (pick ws t) m).1.map z0j=rs at*
   have ed4:=g34 _ _ ed
   refine z0o (fun σ H'=>∃(p:Addr),σ=[some (.int (m:Nat)),some (.ref b),some (.ref d),some (.ref a),some (.ref r2),some (.ref p),s6]∧Same H4 H'∧H4 p=none∧H' p=some (.lst [])) (fun N' hN'=>?_) ?_
   ·exact⟨q0A _,fun p hp=>hN' _ _ ⟨p,rfl,z0d hp _,hp,z0b⟩⟩
   rintro σ5 H5 ⟨p,rfl,g5,hp,ep⟩
   have npd:p≠d:=fun z=>by rw[z,ed4] at hp;cases hp
   have npr:p≠r2:=fun z=>by rw[z,er2] at hp;cases hp
   have up4:∀c o,H c=some o→H4 c=some o:=fun c o h=>g34 _ _ (up c o h)
   refine z0o (fun σ H'=>∃(s6:Option V),σ=[some (.int (m:Nat)),some (.ref b),some (.ref d),some (.ref a),some (.ref r2),some (.ref p),s6]∧(∀c o,c≠p→H4 c=some o→H' c=some o)∧H' p=some (.lst ((zL (z0L rs ws)).map V.int))) (fun N' hN'=>?_) ?_
   ·refine⟨_,rfl,b,_,rfl,.inl (SqL.of (g5 _ _ (up4 _ _ hb))),?_⟩
    refine⟨_,rfl,by rw[q0a,hts.1];lia,by rw[q0a,hts.1];lia,?_⟩
    rw[q0a,hts.1,q0G]
    refine z0D (z0R 0 ws.length) (fun i σ H'=>∃(s6:Option V),σ=[some (.int (m:Nat)),some (.ref b),some (.ref d),some (.ref a),some (.ref r2),some (.ref p),s6]∧(∀c o,c≠p→H4 c=some o→H' c=some o)∧H' p=some (.lst ((zL (hlD rs ws i)).map V.int))) ⟨_,rfl,fun c o _ e=>g5 _ _ e,ep⟩ (fun _ _ _ _ _=>trivial) ?_ ?_
    ·clear ep
     rintro i x σ Ha Hb hi ⟨s6,rfl,kb,ep⟩ ⟨rfl,rfl⟩
     rw[Int.zero_add]
     have npp:∀c o,H4 c=some o→c≠p:=fun c o h z=>by rw[z,hp] at h;cases h
     have kb':∀c o,H4 c=some o→Hb c=some o:=fun c o h=>kb c o (npp c o h) h
     have ti:ws[i]? =some ws[i]:=q0b hi
     have tg:ws.getD i []=ws[i]:=by rw[q0c,ti];rfl
     have tm:=q0F hi
     have hia:i<as.length:=by rw[hts.1];exact hi
     have ai:as[i]? =some as[i]:=q0b hia
     have eai:=kb' _ _ (up4 _ _ (hts.2 i _ _ ai ti))
     generalize ws[i]=u at ti tg tm eai
     generalize as[i]=ai' at ai eai
     have hat:atI (as.map V.ref) (i:Int)=some (.ref ai'):=z1i (by rw[q0j,ai];rfl)
     have er2b:=kb' _ _ er2
     have htsb:TsA Hb bs2 rs:=hts3.same kb'
     have lb:=y2B rs ws i
     have ul:=hlen u tm
     have hrows2:∀x∈rs++[u],BT m 528 560 x:=fun x hx=>by
         rcases q0r.mp hx with hx|hx
         ·exact hR5 x hx
         ·rw[q0g.mp hx];exact (hBT u tm).mono (by decide) (by decide)
     have hrl3:∀x∈rs++[u],x.length=m+1:=fun x hx=>(hrows2 x hx).1
     have I2:=z2j (m:=m) hrl3 m (q0k _)
     refine⟨_,rfl,_,rfl,_,rfl,_,rfl,b,_,_,_,rfl,rfl,SqL.of (kb' _ _ (up4 _ _ hb)),hat,z0l (by show 1≤_;decide),fun z hz0=>?_⟩
     have gz:=z0d hz0 (.lst [V.ref ai'])
     have ez:upd Hb z (.lst [V.ref ai']) z=some (.lst [V.ref ai']):=z0b
     generalize upd Hb z (.lst [V.ref ai'])=Hc at*
     refine⟨r2,z,_,_,rfl,rfl,gz _ _ er2b,ez,z0l (by rw[q0a,hts3.1];show _+1≤_;lia),fun y hy0=>?_⟩
     have gy:=z0d hy0 (.lst (bs2.map V.ref++[V.ref ai']))
     have ey:upd Hc y (.lst (bs2.map V.ref++[V.ref ai'])) y=some (.lst ((bs2++[ai']).map V.ref)):=by rw[z0b,q0m];rfl
     generalize upd Hc y (.lst (bs2.map V.ref++[V.ref ai']))=Hd at*
     have gbd:=gz.trans gy
     refine⟨y,bs2++[ai'],rs++[u],m,rfl,ey,TsA.snoc (htsb.same gbd) (gbd _ _ eai),by rw[q0x,q0I];lia,m4,hrl3,RdB.of m4 hrows2 (by decide) (by decide),fun He ge hn=>?_,fun r3 bs3 He hr3 ge er3 hts4 hz4=>?_⟩
     ·have gbe:=gbd.trans ge
      obtain⟨x,hx,hxn⟩:=hn
      have hf:hz rs (ws.getD i [])=false:=by rw[tg];exact hz_no hR ul (I2.none hx hxn)
      refine⟨_,rfl,.inr ⟨r2,_,rfl,rfl,gbe _ _ er2b,_,rfl,?_⟩⟩
      refine z1X ?_
      exact⟨_,rfl,fun c o hc e=>gbe _ _ (kb c o hc e),by rw[y3U hf];exact gbe _ _ ep⟩
     ·have gbe:=gbd.trans ge
      obtain⟨hq,hIq⟩:=I2.rws hz4
      generalize (z1l (rs++[u]) m).1.map z0j=qs at*
      refine⟨_,rfl,.inl ⟨r3,r2,_,_,rfl,rfl,z2p er3 hts4,z2p (gbe _ _ er2b) (htsb.same gbe),z5n _ _,?_⟩⟩
      rw[hz_eq hR ul hq hIq,←tg]
      refine⟨_,rfl,?_⟩
      cases hc:hz rs (ws.getD i []) with
      |true=>
       refine z5y ?_
       have epe:=gbe _ _ ep
       refine⟨_,rfl,.inl ⟨rfl,_,SqL.of epe⟩,_,rfl,p,_,_,rfl,rfl,epe,z1E (by rw[List.length_map];unfold zL;rw[List.length_map];lia),?_⟩
       exact⟨_,rfl,fun c o hc e=>by rw[z0h hc];exact gbe _ _ (kb c o hc e),by rw[z0b,hlD_t hc,y1Y,q0m];rfl⟩
      |false=>
       refine z1X ?_
       exact⟨_,rfl,fun c o hc e=>gbe _ _ (kb c o hc e),by rw[y3U hc];exact gbe _ _ ep⟩
    ·rintro σ Ha ⟨s6,rfl,ka,ep⟩
     exact hN' _ _ ⟨_,rfl,ka,ep⟩
   rintro σ6 H6 ⟨s6',rfl,k6,ep6⟩
   have npp:∀c o,H4 c=some o→c≠p:=fun c o h z=>by rw[z,hp] at h;cases h
   have k6':∀c o,H4 c=some o→H6 c=some o:=fun c o h=>k6 c o (npp c o h) h
   refine⟨_,rfl,_,rfl,_,rfl,p,_,rfl,.inl ⟨SqL.of ep6,fun tt htt=>?_⟩⟩
   have g7:=z0d htt (.tup ((zL (z0L rs ws)).map V.int))
   have et7:upd H6 tt (.tup ((zL (z0L rs ws)).map V.int)) tt=some (.tup ((zL (z0L rs ws)).map V.int)):=z0b
   generalize upd H6 tt (.tup ((zL (z0L rs ws)).map V.int))=H7 at*
   have ed7:=g7 _ _ (k6' _ _ ed4)
   refine⟨d,_,rfl,DPut.t (k:=kyL (zL (z0L rs ws))) ed7 (by rw[z6k];exact et7) (z1E (by rw[q0a];lia)),?_⟩
   have pe:=y0A es ⟨zL (z0L rs ws),rs,bs2,r2⟩
   dsimp only at pe
   rw[pe]
   have lift:∀c o,c≠d→H2 c=some o→upd H7 d (.dT ((z8p es ⟨zL (z0L rs ws),rs,bs2,r2⟩).map z2E)) c=some o:=fun c o hc e=>by rw[z0h hc];exact g7 _ _ (k6' _ _ (g34 _ _ e))
   have lift4:∀c o,c≠d→H4 c=some o→upd H7 d (.dT ((z8p es ⟨zL (z0L rs ws),rs,bs2,r2⟩).map z2E)) c=some o:=fun c o hc e=>by rw[z0h hc];exact g7 _ _ (k6' _ _ e)
   have ntd:∀c ys,H4 c=some (.tup ys)→c≠d:=fun c ys h z=>by rw[z,ed4] at h;cases h
   have nld:∀c ys,H4 c=some (.lst ys)→c≠d:=fun c ys h z=>by rw[z,ed4] at h;cases h
   have pl:=y0E es ⟨zL (z0L rs ws),rs,bs2,r2⟩
   refine⟨_,_,_,_,_,rfl,fun c o hc e=>lift c o hc (k2 c o hc e),z0b,fun e he=>?_,hE.put hR rfl psub hI,by lia⟩
   rcases z6G he with he|rfl
   ·exact (hes e he).upd (fun h=>lift4 _ _ (nld _ _ (g34 _ _ h)) (g34 _ _ h)) fun c ys h=>lift4 _ _ (ntd _ _ (g34 _ _ h)) (g34 _ _ h)
   ·exact⟨lift4 _ _ (nld _ _ er2) er2,hts3.1,fun i a t e1 e2=>lift4 _ _ (ntd _ _ (hts3.2 i a t e1 e2)) (hts3.2 i a t e1 e2)⟩
  ·rintro σ Ha ⟨s3,s4,s5,s6,es,rfl,ka,ed,hes,hE,el⟩
   rw[q0a,hbl',q0S] at hE
   rw[q0a,hbl'] at el
   exact hN _ _ ⟨_,_,_,_,es,rfl,fun c o e=>ka _ _ (z0f e hd) (g1 _ _ (g0 _ _ e)),ed,hes,hE,by lia⟩
 rintro σ1 H1 ⟨s3,s4,s5,s6,es,rfl,g1,ed,hes,hE,el⟩
 exact⟨_,rfl,q d es H1 hd g1 ed hes hE el⟩
end
end L2
namespace L2
open PySem PySem.Spec PyProof.Rows
section
open Fr Wl Rk Pt Pa
open Builtin.Int (intBits)
variable {P:Program}{w:World}{K:PySem.W.Frag}{mg:Str→Option Value}{base:Heap}{f:Addr}{fd:FuncData}
theorem z9U {α:Type}{R:α→V→Prop}{es:List α}{us:List V} (h:Each R es us):us.isEmpty=es.isEmpty:=by
 cases h<;>rfl
abbrev z2u:Stmt:=top 31
theorem z5V:z0x ["_law_some","_law_others"] ["_law_some","_law_others"] (z0n z2u):=⟨rfl,rfl,rfl,by decide+kernel,rfl,by decide+kernel,by decide+kernel⟩
def z4Y (K:PySem.W.Frag):Sp:=fun vs H Q _=>∃(a b:Addr) (xs ys:List Int),vs=[.ref a,.ref b]∧H a=some (.lst (xs.map V.int))∧H b=some (.lst (ys.map V.int))∧xs.length≤1000∧∀H',Same H H'→Q (.bl (amL xs ys)) H'
theorem z6f (T:Txt mg) (F:Fun K "_law_within" "_law_within" z2u f fd):FnOk P w K mg base CX0 1 f fd ["_law_some","_law_others"] (z4Y K):=by
 refine F.ok z5V (fun vs H Q E h=>?_) (fun cdv A outer s H vs Q E hr h=>?_)
 ·obtain⟨_,_,_,_,rfl,_⟩:=h;rfl
 obtain⟨a,b,xs,ys,rfl,ha,hb,xl,q⟩:=h
 refine⟨_,(z0i (z0y (z9e (y0R (K:=K) rfl hr.units) (z0J (Nc:=["_law_place","_law_others"]) (fr:=[none,some 1]) rfl (z0A (K:=K) rfl (pv 0)) rfl (by decide) rfl (by decide) rfl ⟨rfl,trivial⟩ ⟨⟨rfl,rfl,rfl,rfl⟩,trivial⟩ (fun _ _ _ _=>(z0k (i:=0) (show List.Nodup (["_law_place","_law_others"]:List Str) from by decide) rfl (Or.inl rfl))) (fun _ _ _ _=>(z1o (z0s (z5m (K:=K) rfl) (pv 0) (pv 1) (by with_unfolding_all rfl)))) (fun _ _ _ _=>(pv 0))) (z0H z0e) (z0C _)))),?_⟩
 refine⟨_,rfl,a,rfl,⟨_,SqL.of ha⟩,fun D hD=>?_⟩
 refine z0S xs (by rw[q0a]) (z0r K a (xs.map V.int)) hD (fun p σ=>σ.set 0 (some (.int p))) (fun d e σ=>q1x ..) (fun p=> !ys.contains p) (fun _ p u=>u=V.int p) (fun _ _ _ _ _ _ h=>h) (fun H' g'=>SqL.of (g' _ _ ha)) (z0l (by rw[q0a];lia)) ?_ ?_ ?_ ?_
 ·intro k x p hx hp σ H3 g3 S h
  rw[q0j,hp] at hx
  obtain rfl:=Option.some.inj hx
  exact h
 ·intro p hp Hc gc S h
  refine⟨_,rfl,_,rfl,b,_,rfl,.inl (SqL.of (gc _ _ hb)),rfl,List.all_eq_true.mpr fun x hx=>(by obtain⟨n,_,rfl⟩:=q0e.mp hx;rfl),_,rfl,?_⟩
  rw[z9I]
  exact h _ (Same.refl _)
 ·intro p hp _ Hc gc _ S h
  exact⟨_,rfl,h _ _ (Same.refl _) rfl⟩
 ·intro us H3 g3 hD3 he
  refine⟨q0A _,fun e0 he0=>?_⟩
  have g4:=z0d he0 (.lst [])
  have e3:upd H3 e0 (.lst []) e0=some (.lst []):=z0b
  generalize upd H3 e0 (.lst [])=H4 at*
  refine⟨D,e0,_,rfl,rfl,SqL.of (g4 _ _ hD3),SqL.of e3,?_⟩
  have ee:us.isEmpty=amL xs ys:=by
   rw[z9U he,q1p,List.isEmpty_iff,List.filter_eq_nil_iff]
   unfold amL
   rw[List.all_eq_true]
   simp only[Bool.not_eq_true,Bool.not_eq_false']
  rw[ee]
  exact q _ (g3.trans g4)
end
end L2
namespace L2
open PySem PySem.Spec PyProof.Rows
section
open Fr Wl Rk Pt Pa Srt
open Builtin.Int (intBits)
variable {P:Program}{w:World}{K:PySem.W.Frag}{mg:Str→Option Value}{base:Heap}{f:Addr}{fd:FuncData}
abbrev z3l:Stmt:=top 32
theorem sc_l_kinds:z0x ["_law_found","_law_part","_law_number"] ["_law_found"] (z0n z3l):=⟨rfl,rfl,rfl,by decide+kernel,rfl,by decide+kernel,by decide+kernel⟩
def z8w (K:PySem.W.Frag):Sp:=fun vs H Q _=>∃(l:Addr) (rs:List Rung),vs=[.ref l]∧H l=some (.lst (rs.map fun g=>V.ref g.a))∧(∀g∈rs,RungAt H g∧g.us.length≤1000)∧rs.length≤1000∧∀H',Same H H'→Q (.bl true) H'
theorem z7O (T:Txt mg) (F:Fun K "_law_kinds" "_law_kinds" z3l f fd) (c_l_whole:Cal P w K mg base 1 "_law_whole" ["_law_found"] z8t):FnOk P w K mg base CX0 2 f fd ["_law_found"] (z8w K):=by
 refine F.ok sc_l_kinds (fun vs H Q E h=>?_) (fun cdv A outer s H vs Q E hr h=>?_)
 ·obtain⟨_,_,rfl,_⟩:=h;rfl
 obtain⟨l,rs,rfl,hl,hrs,rl,q⟩:=h
 refine⟨_,(z0c (z0O (z1M (z1y (z0u z0X rfl T.isinstance boot_isinstance (z0a (pv 0) (z0a (z2e (v:= .ty "list") rfl T.list boot_list rfl) z0e))))) (z0i (z0y z1W)) z0v)
  (z0c (z0W PassesOwn.never rfl (z0A (K:=K) rfl (pv 0)) (z0k (i:=1) sc_l_kinds.nd rfl (Or.inl rfl)) (z0c (z0O (PW.pt (z8U (z1M (z1y (z0u z0X rfl T.isinstance boot_isinstance (z0a (pv 1) (z0a (z2e (v:= .ty "tuple") rfl T.tuple boot_tuple rfl) z0e))))) (z8U (z0s z4C (z0u (z0Q (K:=K) rfl) rfl T.len PySem.boot_len (z0a (pv 1) z0e)) z0g (z0C _)) (z8U (z1M (z1y (z0u z0X rfl T.isinstance boot_isinstance (z0a (z0G (z1F (K:=K) rfl) (pv 1) z0g (fun _ _=>rfl)) (z0a (z2e (v:= .ty "list") rfl T.list boot_list rfl) z0e))))) (z8T (z1M (z1y (z0B c_l_whole hr rfl (z0a (z0G (z1F (K:=K) rfl) (pv 1) z0g (fun _ _=>rfl)) z0e))))))))) (z0i (z0y z1W)) z0v)
  (z0c (z0O (PW.pt (z8U (z1M (z1y (z0u z0X rfl T.isinstance boot_isinstance (z0a (z0G (z1F (K:=K) rfl) (pv 1) z0g (fun _ _=>rfl)) (z0a (z2e (v:= .ty "list") rfl T.list boot_list rfl) z0e))))) (z8T (z0s (z1O (K:=K) rfl hr.units) (z0J (Nc:=["_law_row_here"]) (fr:=[none]) rfl (z0A (K:=K) rfl (z0G (z1F (K:=K) rfl) (pv 1) z0g (fun _ _=>rfl))) rfl (by decide) rfl (by decide) rfl trivial trivial (fun _ _ _ _=>(z0k (i:=0) (show List.Nodup (["_law_row_here"]:List Str) from by decide) rfl (Or.inl rfl))) (fun _ _ _ _=>(z1o (z1M (z1y (z0u (z5J (K:=K) rfl) rfl T.isinstance boot_isinstance (z0a (pv 0) (z0a (z2e (v:= .ty "tuple") rfl T.tuple boot_tuple rfl) z0e))))))) (fun _ _ _ _=>(pv 0))) (z0H z0e) (z0C _))))) (z0i (z0y z1W)) z0v)
  (z0i (z0W PassesOwn.never rfl (z0A (K:=K) rfl (z0G (z1F (K:=K) rfl) (pv 1) z0g (fun _ _=>rfl))) (z0k (i:=2) sc_l_kinds.nd rfl (Or.inl rfl)) (z0i (z0O (z1M (z1y (z0B c_l_whole hr rfl (z0a (pv 2) z0e)))) (z0i (z0y z1W)) z0v)))))))
  (z0i (z0y z1W)))),?_⟩
 refine z0o (fun σ H'=>σ=[some (.ref l),none,none]∧H=H') (fun N hN=>?_) ?_
 ·refine⟨_,rfl,_,_,_,_,rfl,.lst hl,rfl,_,rfl,?_⟩
  refine z1X ?_
  exact hN _ _ ⟨rfl,rfl⟩
 rintro σ H0 ⟨rfl,rfl⟩
 refine z0o (fun σ H'=>∃s1 s2,σ=[some (.ref l),s1,s2]∧Same H H') (fun N hN=>?_) ?_
 ·refine⟨_,rfl,l,rfl,⟨_,SqL.of hl⟩,?_⟩
  refine z0D (z0r K l (rs.map fun g=>V.ref g.a)) (fun i σ H'=>∃s1 s2,σ=[some (.ref l),s1,s2]∧Same H H') ⟨_,_,rfl,Same.refl _⟩ (fun i σ H' _ h=>by obtain⟨_,_,_,g⟩:=h;exact SqL.of (g _ _ hl)) ?_ ?_
  ·rintro i x σ H1 H2 hi ⟨s1,s2,rfl,g⟩ ⟨rfl,hx⟩
   rw[q0j] at hx
   obtain⟨d,hd,rfl⟩:=q0v.mp hx
   obtain⟨⟨d1,d2,d3,d4⟩,d5⟩:=hrs d (q0s hd)
   have e1:=g _ _ d1
   have e2:=g _ _ d2
   have e3:=g _ _ d3
   have e4:=d4.same g
   refine z0o (fun σ H'=>σ=[some (.ref l),some (.ref d.a),s2]∧H2=H') (fun N hN=>?_) ?_
   ·refine⟨_,rfl,_,_,_,_,rfl,.tup e1,rfl,_,rfl,?_⟩
    refine z1X ?_
    refine⟨_,rfl,d.a,_,rfl,.inr (SqT.of e1),rfl,_,rfl,?_⟩
    refine z1X ?_
    refine⟨_,rfl,_,_,_,_,rfl,rfl,SqT.of e1,rfl,_,_,_,_,rfl,.lst e2,rfl,_,rfl,?_⟩
    refine z1X ?_
    refine⟨_,rfl,_,_,_,_,rfl,rfl,SqT.of e1,rfl,d.s,rfl,_,rfl,?_⟩
    refine z1X ?_
    exact hN _ _ ⟨rfl,rfl⟩
   rintro σ Hc ⟨rfl,rfl⟩
   refine z0o (fun σ H'=>σ=[some (.ref l),some (.ref d.a),s2]∧Same H2 H') (fun N hN=>?_) ?_
   ·refine⟨_,rfl,_,_,_,_,rfl,rfl,SqT.of e1,rfl,_,_,_,_,rfl,.lst e3,rfl,_,rfl,?_⟩
    refine z1X ?_
    refine⟨_,rfl,_,_,_,_,rfl,rfl,SqT.of e1,rfl,d.ar,rfl,⟨_,SqL.of e3⟩,fun D hD=>?_⟩
    have bl:=e4.1
    refine z0S d.bs (by rw[q0a]) (z0r K d.ar (d.bs.map V.ref)) hD (fun p σ=>σ.set 0 (some (.ref p))) (fun d e σ=>q1x ..) (fun _=>false) (fun _ p u=>u=V.ref p) (fun _ _ _ _ _ _ h=>h) (fun H' g'=>SqL.of (g' _ _ e3)) (z0l (by rw[q0a];lia)) ?_ ?_ ?_ ?_
    ·intro k x p hx hp σ H3 g3 S h
     rw[q0j,hp] at hx
     obtain rfl:=Option.some.inj hx
     exact h
    ·intro p hp Hc gc S h
     obtain⟨k,hk,rfl⟩:=q0Q.mp hp
     have hk2:k<d.us.length:=by lia
     have ek:=gc _ _ (e4.2 k _ _ (q0b hk) (q0b hk2))
     exact⟨_,rfl,_,_,_,_,rfl,.tup ek,rfl,_,rfl,h _ (Same.refl _)⟩
    ·intro p hp hf Hc gc _ S h
     cases hf
    ·intro us H3 g3 hD3 he
     have hfl:(d.bs.filter fun _=>false)=[]:=List.filter_eq_nil_iff.mpr fun _ _ h=>by cases h
     rw[hfl] at he
     cases he
     refine⟨q0A _,fun e0 he0=>?_⟩
     have g4:=z0d he0 (.lst [])
     refine⟨D,e0,.l [],.l [],rfl,rfl,.l (SqL.of (g4 _ _ hD3)) .nil,.l (SqL.of z0b) .nil,rfl,_,rfl,?_⟩
     refine z1X ?_
     exact hN _ _ ⟨rfl,g3.trans g4⟩
   rintro σ Hd ⟨rfl,gd⟩
   have e2d:=gd _ _ e2
   refine⟨_,rfl,_,_,_,_,rfl,rfl,SqT.of (gd _ _ e1),rfl,d.ap,rfl,⟨_,SqL.of e2d⟩,?_⟩
   refine z0D (z0r K d.ap (d.pl.map V.int)) (fun i σ H'=>∃s2,σ=[some (.ref l),some (.ref d.a),s2]∧Hd=H') ⟨_,rfl,rfl⟩ (fun i σ H' _ h=>by obtain⟨_,_,rfl⟩:=h;exact SqL.of e2d) ?_ ?_
   ·rintro j y σ Ha Hb hj ⟨s2,rfl,rfl⟩ ⟨rfl,hy⟩
    rw[q0j] at hy
    obtain⟨n,hn,rfl⟩:=q0v.mp hy
    refine⟨_,rfl,n,rfl,_,rfl,?_⟩
    refine z1X ?_
    exact⟨_,rfl,rfl⟩
   ·rintro σ Ha ⟨s2,rfl,rfl⟩
    exact⟨_,_,rfl,g.trans gd⟩
  ·rintro σ Ha ⟨s1,s2,rfl,g⟩
   exact hN _ _ ⟨_,_,rfl,g⟩
 rintro σ H1 ⟨s1,s2,rfl,g⟩
 exact q _ g
end
end L2
namespace L2
open PySem PySem.Spec PyProof.Rows
section
open Fr Wl Rk
open Builtin.Int (intBits)
variable {P:Program}{w:World}{K:PySem.W.Frag}{mg:Str→Option Value}{base:Heap}{f:Addr}{fd:FuncData}
abbrev z4x:Stmt:=top 13
theorem sc_common:z0x ["ways","walls","lot","rows","place"] ["ways","walls","lot"] (z0n z4x):=⟨rfl,rfl,rfl,by decide+kernel,rfl,by decide+kernel,by decide+kernel⟩
abbrev CEnds (m B:Nat) (L:List (List Int)) (H:Hp) (Q:VK):Prop:=
 (∀(r:Addr) (bs':List Addr) (us':List (List Int)) (H':Hp),H r=none→Same H H'→H' r=some (.lst (bs'.map V.ref))→TsA H' bs' us'→Rws m us'→(∀t∈us',∀n∈t,intBits n≤bnJ B us'.length)→In (us'.map v)=In (L.map v)→Q (.ref r) H')∧
 (∀H',Same H H'→(∃z,In (L.map v) z∧(∀j,j<m→z j=0)∧z m≠0)→Q .non H')
def z6C (K:PySem.W.Frag):Sp:=fun vs H Q _=>∃(lw lt:Addr) (as:List Addr) (ts:List (List Int)) (ks:List Nat) (m B:Nat),vs=[.int (m:Nat),.ref lw,.ref lt]∧H lw=some (.lst (as.map V.ref))∧TsA H as ts∧H lt=some (.lst ((ks.map fun k=>((k:Nat):Int)).map V.int))∧(∀k∈ks,k<ts.length)∧m≤4∧B≤130∧(∀t∈ts,t.length=m+1∧∀n∈t,intBits n≤B)∧
 CEnds m B (ks.map fun k=>ts.getD k []) H Q
theorem z9G {A B:List (Nat→Int)}{x:Nat→Int} (e:In A=In B):In (x::A)=In (B++[x]):=by
 have h1:∀r∈A,In B r:=fun r hr=>by rw[←e];exact In.one hr
 have h2:∀r∈B,In A r:=fun r hr=>by rw[e];exact In.one hr
 refine In.same (fun r hr=>?_) (fun r hr=>?_)
 ·rcases q0o.mp hr with rfl|hr
  ·exact In.one (by simp)
  ·exact In.mono (fun s hs=>q0N _ hs) (h1 r hr)
 ·rcases q0r.mp hr with hr|hr
  ·exact In.mono (fun s hs=>q0f _ hs) (h2 r hr)
  ·rw[q0g.mp hr];exact In.one q0i
theorem z9k (T:Txt mg) (F:Fun K "common" "common" z4x f fd) (c_joined:Cal P w K mg base 5 "joined" ["rows","numbers"] (z4p K)):FnOk P w K mg base CX0 6 f fd ["ways","walls","lot"] (z6C K):=by
 refine F.ok sc_common (fun vs H Q E h=>?_) (fun cdv A outer s H vs Q E hr h=>?_)
 ·obtain⟨_,_,_,_,_,_,_,rfl,_⟩:=h;rfl
 obtain⟨lw,lt,as,ts,ks,m,B,rfl,hw,hts,hlt,hk,m4,hB,zt,q1,q2⟩:=h
 refine⟨_,(z0c (z0p (i:=3) sc_common.nd rfl (Or.inl rfl) (z0H z0e))
  (z0c (z0W PassesOwn.never rfl (z0A (K:=K) rfl (pv 2)) (z0k (i:=4) sc_common.nd rfl (Or.inl rfl)) (z0c (z0p (i:=3) sc_common.nd rfl (Or.inl rfl) (z0B c_joined hr rfl (z0a (pv 3) (z0a (z0G (z0q (K:=K) rfl) (pv 1) (pv 4) (fun _ _=>rfl)) z0e))))
  (z0i (z0O (z8W (y3t (pv 3))) (z0i (z0y z9d)) z0v))))
  (z0i (z0y (pv 3))))),?_⟩
 refine⟨q0A _,fun r0 hr0=>?_⟩
 have g0:=z0d hr0 (.lst [])
 refine⟨_,rfl,lt,rfl,⟨_,SqL.of (g0 _ _ hlt)⟩,?_⟩
 refine z0D (z0r K lt ((ks.map fun k=>((k:Nat):Int)).map V.int)) (fun i σ H'=>∃(r:Addr) (bs:List Addr) (us:List (List Int)) (s4:Option V),σ=[some (.int (m:Nat)),some (.ref lw),some (.ref lt),some (.ref r),s4]∧H r=none∧H' r=some (.lst (bs.map V.ref))∧TsA H' bs us∧Rws m us∧(∀t∈us,∀n∈t,intBits n≤bnJ B us.length)∧In (us.map v)=In (((ks.take i).map fun k=>ts.getD k []).map v)∧Same H H')
  ⟨r0,[],[],_,rfl,hr0,z0b,TsA.nil,Rws.nil,fun t h=>by simp at h,rfl,g0⟩ (fun i σ H' _ h=>by obtain⟨_,_,_,_,_,_,_,_,_,_,_,g⟩:=h;exact SqL.of (g _ _ hlt)) ?_ ?_
 ·rintro i x σ H1 H2 hi ⟨r,bs,us,s4,rfl,hr1,er,htu,hR,zb,hI,g⟩ ⟨rfl,hx⟩
  rw[q0a,q0a] at hi
  rw[q0j,q0j,q0b hi] at hx
  have hk1:=hk _ (q0F hi)
  have tk:ks.take (i+1)=ks.take i++[ks[i]]:=by rw[q0L,q0b hi];rfl
  have sub:∀y∈ks.take (i+1),y∈ks:=fun y hy=>List.mem_of_mem_take hy
  have ex:x= .int ((ks[i]:Nat):Int):=(Option.some.inj hx).symm
  generalize ks[i]=k at hk1 tk ex
  subst ex
  have ea:as[k]? =some (as[k]'(by have:=hts.1;lia)):=q0b (by have:=hts.1;lia)
  generalize as[k]'(by have:=hts.1;lia)=a at ea
  have et:ts[k]? =some ts[k]:=q0b hk1
  have eg:ts.getD k []=ts[k]:=by rw[q0c,et];rfl
  have htm:ts[k]∈ts:=q0F hk1
  generalize ts[k]=t at et eg htm
  obtain⟨t1,t2⟩:=zt t htm
  have ev:atI (as.map V.ref) (k:Int)=some (.ref a):=z1i (by rw[q0j,ea];rfl)
  have eA:((ks.take (i+1)).map fun k=>ts.getD k []).map v=((ks.take i).map fun k=>ts.getD k []).map v++[v t]:=by
   rw[tk,q0m,q0m,q1y,eg];rfl
  refine⟨_,rfl,_,rfl,_,rfl,lw,_,_,_,rfl,rfl,SqL.of (g _ _ hw),ev,r,a,true,bs,us,t,m,B,rfl,SqL.of er,htu,g _ _ (hts.2 k a t ea et),t1,m4,hB,t2,hR,zb,fun r' bs' us' H3 hn g3 er3 htu3 hR3 zb3 hI3=>?_,fun H3 g3 hz=>?_⟩
  ·refine⟨_,rfl,_,rfl,?_⟩
   refine z1X ?_
   refine⟨r',bs',us',_,rfl,g.free hn,er3,htu3,hR3,zb3,?_,g.trans g3⟩
   rw[hI3,eA]
   exact z9G hI
  ·refine⟨_,rfl,_,rfl,?_⟩
   refine z5y ?_
   obtain⟨z,hz1,hz2,hz3⟩:=hz
   refine q2 _ (g.trans g3) ⟨z,?_,hz2,hz3⟩
   rw[z9G hI,←eA] at hz1
   refine In.mono (fun y hy=>?_) hz1
   obtain⟨u,hu,rfl⟩:=q0e.mp hy
   obtain⟨k2,hk2,rfl⟩:=q0e.mp hu
   exact q0n (q0n (f:=fun k=>ts.getD k []) (sub k2 hk2))
 ·rintro σ H1 ⟨r,bs,us,s4,rfl,hr1,er,htu,hR,zb,hI,g⟩
  rw[q0a,q0a,q0S] at hI
  exact⟨_,rfl,q1 r bs us _ hr1 g er htu hR zb hI⟩
end
end L2
namespace L2
open PySem PySem.Spec PyProof.Rows
section
open Fr Wl Rk Pt Pa Srt
open Builtin.Int (intBits)
theorem oksM {α:Type}{n:Nat}{f:α→Dt} (h:∀a b,Dt.ok n (f a) (f b)=true):∀xs ys:List α,Dt.oks n (xs.map f) (ys.map f)=true
 |[],_=>by simp[Dt.oks]
 |_::_,[]=>by simp[Dt.oks]
 |x::xs,y::ys=>by
  rw[q0t,q0t,Dt.oks,h x y,oksM h xs ys];rfl
def dtK (p:Int×List Int):Dt:= .t (kq p)
theorem y3D (a b:Int×List Int):Dt.ok 8 (dtK a) (dtK b)=true:=by
 unfold dtK kq
 simp[Dt.ok,Dt.oks,z1j]
theorem y3A (a b:Int×List Int):Dt.oks 8 (kq a) (kq b)=true:=by
 unfold kq
 simp[Dt.ok,Dt.oks,z1j]
def dtR (us:List (List Int)) (p:List Int×Int):Dt:= .t [dtL p.1,.l (us.map dtT),.i p.2]
theorem y3C (us vs:List (List Int)) (p q:List Int×Int):Dt.ok 8 (dtR us p) (dtR vs q)=true:=by
 have h:Dt.oks 6 (us.map dtT) (vs.map dtT)=true:=oksM (fun a b=>by unfold dtT;simp[Dt.ok,z1j]) us vs
 unfold dtR dtL
 simp[Dt.ok,Dt.oks,z1j,h]
theorem y1E {α β:Type}{F:α→β}:∀(A B:List α),(∀a∈A,∀b∈B,F a=F b→a=b)→A.map F=B.map F→A=B
 |[],[],_,_=>rfl
 |[],_::_,_,h=>by cases h
 |_::_,[],_,h=>by cases h
 |a::A,b::B,hf,h=>by
  rw[q0t,q0t] at h
  injection h with h1 h2
  rw[hf a q0i b q0i h1,y1E A B (fun a ha b hb=>hf a (q0f _ ha) b (q0f _ hb)) h2]
theorem z9o {α β γ δ:Type}{u:α→β}{p:α→γ} (h:β→γ→δ):∀(A B:List α),A.map u=B.map u→A.map p=B.map p→A.map (fun g=>h (u g) (p g))=B.map (fun g=>h (u g) (p g))
 |[],[],_,_=>rfl
 |[],_::_,h,_=>by cases h
 |_::_,[],h,_=>by cases h
 |a::A,b::B,h1,h2=>by
  rw[q0t,q0t] at h1 h2
  injection h1 with a1 a2
  injection h2 with b1 b2
  rw[q0t,q0t,a1,b1,z9o h A B a2 b2]
theorem z8F:∀(q p:List (List Int)),∃t,sgs (p++q)=sgs p++t
 |[],p=>⟨[],by rw[List.append_nil,List.append_nil]⟩
 |x::q,p=>by
  obtain⟨t,ht⟩:=z8F q (p++[x])
  refine⟨(x,rsL (sgs p) x)::t,?_⟩
  rw[List.append_assoc] at ht
  rw[show p++x::q=p++([x]++q) from rfl,ht,z4t,List.append_assoc];rfl
theorem z8G:∀(q p:List (List Int)),(sgs (p++q)).length =(sgs p).length +q.length
 |[],p=>by rw[List.append_nil];rfl
 |x::q,p=>by
  rw[show p++x::q=(p++[x])++q by simp,z8G q (p++[x]),z4t,q0x,q0D,q0D,List.length_nil];lia
theorem y3c {rs:List Rung} (h:(rs.map fun g=>(g.pl,g.s))=sgs (rs.map Rung.pl)) {k:Nat}{g:Rung} (hk:rs[k]? =some g):g.s=rsL ((rs.take k).map fun g=>(g.pl,g.s)) g.pl:=by
 have hlt:=(q0E.mp hk).1
 have e1:rs=rs.take k++([g]++rs.drop (k+1)):=by
  have:=List.take_append_drop k rs
  rw[q1A hlt] at this
  rw[q0b hlt] at hk
  rw[Option.some.inj hk] at this
  exact this.symm
 have e2:rs.map Rung.pl=((rs.take k).map Rung.pl++[g.pl])++(rs.drop (k+1)).map Rung.pl:=by
  conv=>lhs;rw[e1]
  simp
 obtain⟨t,ht⟩:=z8F ((rs.drop (k+1)).map Rung.pl) ((rs.take k).map Rung.pl++[g.pl])
 rw[←e2,z4t,←h] at ht
 have hl:(sgs ((rs.take k).map Rung.pl)).length =k:=by
  have:=z8G ((rs.take k).map Rung.pl) []
  rw[List.nil_append,q0a,q0O] at this
  rw[this]
  show 0+_=k
  lia
 have ek:(rs.map fun g=>(g.pl,g.s)).take k=sgs ((rs.take k).map Rung.pl):=by
  rw[ht,List.append_assoc,List.take_left' hl]
 have eg:(rs.map fun g=>(g.pl,g.s))[k]? =some (g.pl,rsL (sgs ((rs.take k).map Rung.pl)) g.pl):=by
  rw[ht,List.append_assoc,q0V (by lia),hl,Nat.sub_self];rfl
 rw[q0j,hk] at eg
 have eg2:=Option.some.inj (show some (g.pl,g.s)=some _ from eg)
 injection eg2 with _ e3
 rw[e3,←ek,List.map_take]
theorem z4R {e:PrD}:∀{es:List PrD},(es.map PrD.pl).Nodup →e∈es→z8o (es.map z2E) (kyL e.pl)=some (V.ref e.ar)
 |[],_,h=>nomatch h
 |x::es,nd,h=>by
  rw[q0t] at nd
  obtain⟨n1,n2⟩:=List.nodup_cons.mp nd
  rw[q0t]
  rcases q0o.mp h with rfl|h
  ·rw[z2T (show (z2E e).1 =kyL e.pl from rfl)];rfl
  ·rw[z2U (fun z=>n1 (by rw[z6l (show kyL x.pl=kyL e.pl from z)];exact q0n h))]
   exact z4R n2 h
structure RgI (m:Nat) (bn:Nat→Nat) (ws:List (List Int)) (rs:List Rung):Prop where
 pl:∀g∈rs,g.pl=zL (z0L g.us ws)
 L:∃L,PartsI m bn ws L∧(rs.map Rung.us).Perm L
 up:(rs.map fun g=>ldK ws g.us).Pairwise (fun a b=>ltK b a=false)
 sg:(rs.map fun g=>(g.pl,g.s))=sgs (rs.map Rung.pl)
 lt:rs.length<64
theorem RgI.row {m:Nat}{bn:Nat→Nat}{ws:List (List Int)}{rs:List Rung} (h:RgI m bn ws rs) {g:Rung} (hg:g∈rs):Rws m g.us∧∃S:List (List Int),S.Sublist ws∧In (g.us.map v)=In (S.map v):=by
 obtain⟨L,h1,h2⟩:=h.L
 have hm:g.us∈L:=h2.mem_iff.mp (q0n hg)
 exact⟨(h1.good _ hm).1,h1.lot _ hm⟩
theorem RgI.key {m:Nat}{bn:Nat→Nat}{ws:List (List Int)}{rs:List Rung} (h:RgI m bn ws rs):(rs.map fun g=>ldK ws g.us)=rs.map fun g=>(((g.us.length:Nat):Int),g.pl):=q0T fun g hg=>by rw[h.pl g hg];rfl
theorem RgI.order {m:Nat}{bn:Nat→Nat}{ws:List (List Int)}{rs:List Rung}{es:List PrD} (hw:∀t∈ws,t.length=m+1) (h:RgI m bn ws rs) (hE:EsI m ws (z0P ws.length) es):(rs.map fun g=>ldK ws g.us)=z5T (es.map fun e=>((e.us.length:Nat),e.pl)):=by
 obtain⟨L,h1,h2⟩:=h.L
 have hp:(rs.map Rung.us).Perm (es.map PrD.us):=h2.trans (hE.perm hw h1).symm
 have hk:=hp.map (ldK ws)
 rw[q0w,q0w] at hk
 have ee:(es.map fun e=>(((e.us.length:Nat):Int),e.pl))=es.map (ldK ws∘PrD.us):=q0T fun e he=>by rw[(hE.good e he).2.1];rfl
 rw[ee]
 exact y0u _ _ (hk.trans (z7y _).symm) h.up (z6D _)
theorem RgI.find {m:Nat}{bn:Nat→Nat}{ws:List (List Int)}{rs:List Rung}{es:List PrD} (hw:∀t∈ws,t.length=m+1) (h:RgI m bn ws rs) (hE:EsI m ws (z0P ws.length) es) {g:Rung} (hg:g∈rs):∃e∈es,e.us=g.us∧z8o (es.map z2E) (kyL g.pl)=some (V.ref e.ar):=by
 obtain⟨L,h1,h2⟩:=h.L
 have hp:(rs.map Rung.us).Perm (es.map PrD.us):=h2.trans (hE.perm hw h1).symm
 obtain⟨e,he,ee⟩:=q0e.mp (hp.mem_iff.mp (q0n hg))
 refine⟨e,he,ee,?_⟩
 have:g.pl=e.pl:=by rw[h.pl g hg,(hE.good e he).2.1,ee]
 rw[this]
 exact z4R hE.nd he
theorem RgI.again {m:Nat}{bn:Nat→Nat}{ws:List (List Int)}{rs rs2:List Rung}{es:List PrD} (hw:∀t∈ws,t.length=m+1) (hE:EsI m ws (z0P ws.length) es) (h:RgI m bn ws rs) (h2:RgI m bn ws rs2):(rs.map fun g=>dtR g.us (g.pl,g.s))=rs2.map fun g=>dtR g.us (g.pl,g.s):=by
 have ek:(rs.map fun g=>ldK ws g.us)=rs2.map fun g=>ldK ws g.us:=by rw[h.order hw hE,h2.order hw hE]
 have eu:rs.map Rung.us=rs2.map Rung.us:=by
  refine y1E (F:=ldK ws) _ _ (fun a ha b hb e=>?_) (by rw[q0w,q0w];exact ek)
  obtain⟨g,hg,rfl⟩:=q0e.mp ha
  obtain⟨g2,hg2,rfl⟩:=q0e.mp hb
  obtain⟨r1,S1,s1,i1⟩:=h.row hg
  obtain⟨r2,S2,s2,i2⟩:=h2.row hg2
  unfold ldK at e
  injection e with _ e2
  exact y1B hw r1 r2 s1 i1 s2 i2 (y1p e2)
 have ep:rs.map Rung.pl=rs2.map Rung.pl:=by
  have e1:∀{rs:List Rung},RgI m bn ws rs→rs.map Rung.pl=(rs.map Rung.us).map fun us=>zL (z0L us ws):=fun h=>by
   rw[q0w];exact q0T fun g hg=>h.pl g hg
  rw[e1 h,e1 h2,eu]
 exact z9o dtR rs rs2 eu (by rw[h.sg,h2.sg,ep])
theorem z8q {m:Nat}{t:List Int} (h:wlD m t):t.length=m+1∧(∀n∈t,intBits n≤64)∧Rws m [t]:=by
 have hb:=y2N h
 refine⟨hb.1,hb.all (by decide) (by decide),?_⟩
 obtain⟨rs,rfl,hl,⟨j,hj,hn⟩,_,_⟩:=h
 have hnz:∃n∈rs,n≠0:=z5t hn
 have hv:v (z0j rs) j≠0:=fun z=>hn ((z1m hnz j).mp z)
 refine⟨fun t ht=>?_,List.pairwise_singleton ..,fun s hs t ht hne=>?_⟩
 ·rw[q0g.mp ht]
  refine⟨hb.1,?_,z1D hnz⟩
  refine q1q (Nat.le_of_not_lt fun z=>hv (z1c z)) hj
 ·rw[q0g.mp hs,q0g.mp ht] at hne
  exact absurd rfl hne
end
end L2
namespace L2
open PySem PySem.Spec PyProof.Rows
section
open Fr Wl Rk Pt Pa Srt
open Builtin.Int (intBits)
variable {P:Program}{w:World}{K:PySem.W.Frag}{mg:Str→Option Value}{base:Heap}{f c Pt:Addr}{fd:FuncData}
theorem set3 (a b c d e f:Option V) (σ:St):(((((σ.set 0 a).set 1 b).set 2 c).set 0 d).set 1 e).set 2 f=((σ.set 0 d).set 1 e).set 2 f:=by
 rw[List.set_comm _ _ (show (2:Nat)≠0 by decide),List.set_comm _ _ (show (1:Nat)≠0 by decide),q1x,List.set_comm _ _ (show (2:Nat)≠1 by decide),q1x,q1x]
theorem y3d {rs:List Rung} (h:(rs.map fun g=>(g.pl,g.s))=sgs (rs.map Rung.pl)) {k:Nat}{g:Rung} (hk:rs[k]? =some g):g.s=if k=0 then 1 else 0 - (((rs.take k).filter fun x=>amL x.pl g.pl).map Rung.s).sum :=by
 rw[y3c h hk]
 have hlt:=(q0E.mp hk).1
 unfold rsL
 by_cases c:k=0
 ·rw[if_pos c,if_pos (by rw[c];rfl)]
 ·rw[if_neg c,if_neg (fun z=>by
   have:=congrArg List.length z
   rw[q0a,q0O,List.length_nil] at this
   lia),List.filter_map,q0w]
  rfl
structure LwI (Pt lf lh r:Addr) (as:List Addr) (ws:List (List Int)) (rs:List Rung) (H:Hp):Prop where
 l1:H lf=some (.lst (as.map V.ref))
 l2:H lh=some (.lst (as.map V.ref))
 t:TsA H as ws
 tb:y0h Pt H
 fl:H r=some (.lst (rs.map fun g=>V.ref g.a))
 rg:∀g∈rs,RungAt H g
theorem LwI.mv {lf lh r:Addr}{as:List Addr}{ws:List (List Int)}{rs:List Rung}{H H':Hp} (h:LwI Pt lf lh r as ws rs H) (g:∀c o,(∀kvs,o≠ .dT kvs)→H c=some o→H' c=some o):LwI Pt lf lh r as ws rs H':=by
 have gl:∀{c ys},H c=some (.lst ys)→H' c=some (.lst ys):=fun e=>g _ _ (fun _ z=>nomatch z) e
 have gt:∀{c ys},H c=some (.tup ys)→H' c=some (.tup ys):=fun e=>g _ _ (fun _ z=>nomatch z) e
 obtain⟨c',h1,h2⟩:=h.tb
 exact⟨gl h.l1,gl h.l2,⟨h.t.1,fun i a t e1 e2=>gt (h.t.2 i a t e1 e2)⟩,⟨c',g _ _ (fun _ z=>nomatch z) h1,g _ _ (fun _ z=>nomatch z) h2⟩,gl h.fl,fun x hx=>let ⟨k1,k2,k3,k4⟩:=h.rg x hx;⟨gt k1,gl k2,gl k3,k4.1,fun i a t e1 e2=>gt (k4.2 i a t e1 e2)⟩⟩
theorem LwI.same {lf lh r:Addr}{as:List Addr}{ws:List (List Int)}{rs:List Rung}{H H':Hp} (h:LwI Pt lf lh r as ws rs H) (g:Same H H'):LwI Pt lf lh r as ws rs H':=h.mv fun c o _ e=>g c o e
theorem z3C {H:Hp}:∀{rs:List Rung},(∀g∈rs,RungAt H g)→IsDs K H (rs.map fun g=>V.ref g.a) (rs.map fun g=>dtR g.us (g.pl,g.s))
 |[],_=> .nil
 |g::rs,h=>by
  obtain⟨k1,k2,k3,k4⟩:=h g q0i
  exact .cons (.t (SqT.of k1) (.cons (z4i k2) (.cons (z2p k3 k4) (.cons (.i _) .nil)))) (z3C fun x hx=>h x (q0f _ hx))
theorem z6U {H:Hp}{α:Type}{f:α→V}{g:α→Dt}:∀{L:List α},(∀i∈L,IsD K H (f i) (g i))→IsDs K H (L.map f) (L.map g)
 |[],_=> .nil
 |x::L,h=> .cons (h x List.mem_cons_self) (z6U fun i hi=>h i (List.mem_cons_of_mem _ hi))
theorem z6V {H:Hp}:∀{xs:List V}{ds:List Dt}{i:Nat}{d:Dt},IsDs K H xs ds→ds[i]? =some d→IsD K H (xs.getD i .non) d
 |_,_,_,_,.nil,h=>by simp at h
 |_,_,0,_,.cons h1 _,h=>by
  obtain rfl:=Option.some.inj h
  exact h1
 |_,_,i+1,_,.cons _ h2,h=>z6V (i:=i) h2 h
theorem RungAt.mv {H H':Hp}{g:Rung} (h:RungAt H g) (g1:∀ys,H g.ap=some (.lst ys)→H' g.ap=some (.lst ys)) (g2:∀ys,H g.ar=some (.lst ys)→H' g.ar=some (.lst ys)) (gt:∀c ys,H c=some (.tup ys)→H' c=some (.tup ys)):RungAt H' g:=
 let ⟨k1,k2,k3,k4⟩:=h
 ⟨gt _ _ k1,g1 _ k2,g2 _ k3,k4.1,fun i a t e1 e2=>gt _ _ (k4.2 i a t e1 e2)⟩
theorem z7f {H H0:Hp}:∀{rs:List Rung}{us:List V},Each (fun g u=>∃z p' q',u=V.ref z∧H z=some (.tup [V.ref p',V.ref q',V.int g.s])∧H p'=some (.lst (g.pl.map V.int))∧H q'=some (.lst (g.bs.map V.ref))∧H0 p'=none∧H0 q'=none) rs us→(∀g∈rs,TsA H g.bs g.us)→∃ks:List Rung,us=ks.map (fun k=>V.ref k.a)∧(ks.map fun g=>dtR g.us (g.pl,g.s))=(rs.map fun g=>dtR g.us (g.pl,g.s))∧∀k∈ks,RungAt H k∧H0 k.ap=none∧H0 k.ar=none
 |_,_,.nil,_=>⟨[],rfl,rfl,fun d hd=>nomatch hd⟩
 |g::rs,_,.cons h1 h2,hp=>by
  obtain⟨z,p',q',rfl,e1,e2,e3,e4,e5⟩:=h1
  obtain⟨ks,rfl,h3,h4⟩:=z7f h2 fun x hx=>hp x (q0f _ hx)
  refine⟨⟨g.pl,g.us,g.s,p',q',g.bs,z⟩::ks,rfl,by rw[q0t,q0t,h3],fun d hd=>?_⟩
  rcases q0o.mp hd with rfl|hd
  ·exact⟨⟨e1,e2,e3,hp g q0i⟩,e4,e5⟩
  ·exact h4 d hd
theorem LwI.ne {lf lh r:Addr}{as:List Addr}{ws:List (List Int)}{rs:List Rung}{H:Hp} (h:LwI Pt lf lh r as ws rs H) {g:Rung} (hg:g∈rs):g.ap≠r∧g.ar≠r:=by
 obtain⟨k1,k2,k3,k4⟩:=h.rg g hg
 constructor
 ·intro z
  rw[z,h.fl] at k2
  injection k2 with k2
  injection k2 with k2
  cases rs with
  |nil=>cases hg
  |cons x rs=>
   cases e:g.pl with
   |nil=>rw[e] at k2;cases k2
   |cons y ys=>rw[e] at k2;injection k2 with k2;cases k2
 ·intro z
  rw[z,h.fl] at k3
  injection k3 with k3
  injection k3 with k3
  have e:rs.map Rung.a=g.bs:=(q1h (f:=V.ref) fun x y h=>by injection h).mp (by rw[q0w];exact k3)
  obtain⟨j,hj,ej⟩:=q0Q.mp (show g.a∈g.bs by rw[←e];exact q0n hg)
  have hj2:j<g.us.length:=by rw[←k4.1];exact hj
  have:=k4.2 j _ _ (q0b hj) (q0b hj2)
  rw[ej,k1] at this
  injection this with this
  injection this with this
  cases e2:g.us[j] with
  |nil=>rw[e2] at this;cases this
  |cons y ys=>rw[e2] at this;injection this with this;cases this
theorem z5E {α β:Type}{R S:α→β→Prop}:∀{as:List α}{bs:List β},(∀a∈as,∀b,R a b→S a b)→Each R as bs→Each S as bs
 |_,_,_,.nil => .nil
 |_,_,h,.cons h1 h2=> .cons (h _ List.mem_cons_self _ h1) (z5E (fun a ha=>h a (List.mem_cons_of_mem _ ha)) h2)
theorem z3I {H:Hp}{α:Type}{R:α→V→Prop}{g:α→Dt} (h:∀a u,R a u→IsD K H u (g a)):∀{es:List α}{us:List V},Each R es us→IsDs K H us (es.map g)
 |_,_,.nil => .nil
 |_,_,.cons h1 h2=> .cons (h _ _ h1) (z3I h h2)
abbrev z4u:Stmt:=top 33
theorem sc_law:z0x ["_law_script","_law_draws_here","_law_ways","_law_fences_here","_law_handed","_law_found","_law_due","_law_order","_law_k","_law_places","_law_rows","_law_sign","_law_total","_law_kept","_law_place"] ["_law_script"] (z0n z4u):=⟨rfl,rfl,rfl,by decide+kernel,rfl,by decide+kernel,by decide+kernel⟩
def y0s (K:PySem.W.Frag) (Pt:Addr):Sp:=fun vs H Q _=>∃(a:Addr) (ns:List Int),vs=[.ref a]∧SqL K H a (ns.map V.int)∧ns.length≤63∧H Pt=some (.tbl #[])∧∀H',Q (.bl true) H'
theorem y3B (T:Txt mg) (F:Fun K "law" "law" z4u f fd) (c_l_draws:Cal P w K mg base 22 "_law_draws" ["_law_script"] (z8x K)) (c_l_fences:Cal P w K mg base 22 "_law_fences" ["_law_draws_here","_law_most"] (z6A K)) (c_ladder:Cal P w K mg base 22 "ladder" ["ways","walls"] (z6z K Pt)) (c_l_kinds:Cal P w K mg base 22 "_law_kinds" ["_law_found"] (z8w K)) (c_l_parts:Cal P w K mg base 22 "_law_parts" ["_law_ways","_law_fences_here"] (z8v K)) (c_l_within:Cal P w K mg base 22 "_law_within" ["_law_some","_law_others"] (z4Y K)) (c_common:Cal P w K mg base 22 "common" ["ways","walls","lot"] (z6C K)):FnOk P w K mg base CX0 23 f fd ["_law_script"] (y0s K Pt):=by
 refine F.ok sc_law (fun vs H Q E h=>?_) (fun cdv A outer s H vs Q E hr h=>?_)
 ·obtain⟨_,_,rfl,_⟩:=h;rfl
 obtain⟨a,ss,rfl,hS,h63,hP,q⟩:=h
 refine⟨_,(z0c (z0p (i:=1) sc_law.nd rfl (Or.inl rfl) (z0B c_l_draws hr rfl (z0a (pv 0) z0e)))
  (z0c (z2K (z0B c_l_fences hr rfl (z0a (pv 1) (z0a z0g z0e))) (z1h (K:=K) rfl 2 rfl (z0t (z0k (i:=2) sc_law.nd rfl (Or.inl rfl)) (z0t (z0k (i:=3) sc_law.nd rfl (Or.inl rfl)) z1g))))
  (z0c (z0p (i:=4) sc_law.nd rfl (Or.inl rfl) (z0E (z0Y (K:=K) rfl) rfl T.list boot_list (z0a (pv 3) z0e)))
  (z0c (z0p (i:=5) sc_law.nd rfl (Or.inl rfl) (z0B c_ladder hr rfl (z0a (pv 2) (z0a (pv 4) z0e))))
  (z0c (z0O (PW.pt (z8U (z1M (z1y (z0B c_l_kinds hr rfl (z0a (pv 5) z0e)))) (z8T (z0s (z1O (K:=K) rfl hr.units) (pv 4) (pv 3) (z0C _))))) (z0i (z0y z1W)) z0v)
  (z0c (z0p (i:=6) sc_law.nd rfl (Or.inl rfl) (z0B c_l_parts hr rfl (z0a (pv 2) (z0a (pv 3) z0e))))
  (z0c (z0p (i:=7) sc_law.nd rfl (Or.inl rfl) (z0u (z8k (K:=K) rfl hr.units) rfl T.sorted boot_sorted (z0a (z0J (Nc:=["_law_places","_law_rows"]) (fr:=[none,none]) rfl (y0K (pv 6)) rfl (by decide) rfl (by decide) rfl trivial trivial (fun _ _ _ _=>(z1h (K:=K) rfl 2 rfl (z0t (z0k (i:=0) (show List.Nodup (["_law_places","_law_rows"]:List Str) from by decide) rfl (Or.inl rfl)) (z0t (z0k (i:=1) (show List.Nodup (["_law_places","_law_rows"]:List Str) from by decide) rfl (Or.inl rfl)) z1g)))) (fun _ _ _ _=>z0U) (fun _ _ _ _=>(z2M (z0a (z0u (z0Q (K:=K) rfl) rfl T.len PySem.boot_len (z0a (pv 1) z0e)) (z0a (z0E (z0Y (K:=K) rfl) rfl T.list boot_list (z0a (pv 0) z0e)) z0e))))) z0e)))
  (z0c (z0O (z0s (z1O (K:=K) rfl hr.units) (z0J (Nc:=["_law_places","_law_rows","_law_sign"]) (fr:=[none,none,none]) rfl (z0A (K:=K) rfl (pv 5)) rfl (by decide) rfl (by decide) rfl trivial trivial (fun _ _ _ _=>(z1h (K:=K) rfl 3 rfl (z0t (z0k (i:=0) (show List.Nodup (["_law_places","_law_rows","_law_sign"]:List Str) from by decide) rfl (Or.inl rfl)) (z0t (z0k (i:=1) (show List.Nodup (["_law_places","_law_rows","_law_sign"]:List Str) from by decide) rfl (Or.inl rfl)) (z0t (z0k (i:=2) (show List.Nodup (["_law_places","_law_rows","_law_sign"]:List Str) from by decide) rfl (Or.inl rfl)) z1g))))) (fun _ _ _ _=>z0U) (fun _ _ _ _=>(z2M (z0a (z0u (z0Q (K:=K) rfl) rfl T.len PySem.boot_len (z0a (pv 1) z0e)) (z0a (pv 0) z0e))))) (pv 7) (z0C _)) (z0i (z0y z1W)) z0v)
  (z0c (z0W PassesOwn.never rfl (z1a rfl T.range (z0a (z0u (z0Q (K:=K) rfl) rfl T.len PySem.boot_len (z0a (pv 5) z0e)) z0e)) (z0k (i:=8) sc_law.nd rfl (Or.inl rfl)) (z0c (z2K (z0G (z0q (K:=K) rfl) (pv 5) (pv 8) (fun _ _=>rfl)) (z1h (K:=K) rfl 3 rfl (z0t (z0k (i:=9) sc_law.nd rfl (Or.inr rfl)) (z0t (z0k (i:=10) sc_law.nd rfl (Or.inl rfl)) (z0t (z0k (i:=11) sc_law.nd rfl (Or.inl rfl)) z1g)))))
  (z0c (z0O (z0s (z1O (K:=K) rfl hr.units) (pv 10) (y2o (y3T hr) (pv 6) (z0E (z1q (K:=K) rfl) rfl T.tuple boot_tuple (z0a (pv 9) z0e)) (fun _ _=>rfl)) (z0C _)) (z0i (z0y z1W)) z0v)
  (z0c (z0p (i:=12) sc_law.nd rfl (Or.inl rfl) (z0u (z5G (K:=K) rfl rfl) rfl T.sum boot_sum (z0a (z0J (Nc:=["_law_others","_law_some","_law_more","_law_places"]) (fr:=[none,none,none,some 9]) rfl (z0A (K:=K) rfl (z2k (z4r (K:=K) rfl) (pv 5) z3s (z3r (pv 8)))) rfl (by decide) rfl (by decide) rfl ⟨rfl,trivial⟩ ⟨⟨rfl,rfl,rfl,rfl⟩,trivial⟩ (fun _ _ _ _=>(z1h (K:=K) rfl 3 rfl (z0t (z0k (i:=0) (show List.Nodup (["_law_others","_law_some","_law_more","_law_places"]:List Str) from by decide) rfl (Or.inl rfl)) (z0t (z0k (i:=1) (show List.Nodup (["_law_others","_law_some","_law_more","_law_places"]:List Str) from by decide) rfl (Or.inl rfl)) (z0t (z0k (i:=2) (show List.Nodup (["_law_others","_law_some","_law_more","_law_places"]:List Str) from by decide) rfl (Or.inl rfl)) z1g))))) (fun _ _ _ _=>(z1o (z1y (z0B c_l_within hr rfl (z0a (pv 0) (z0a (pv 3) z0e)))))) (fun _ _ _ _=>(pv 2))) z0e)))
  (z0i (z0O (z0s z4C (pv 11) (z0G (z0q (K:=K) rfl) (z0H (z0a (z0w z1Z z0g (pv 12)) (z0a z0g z0e))) (z0E y0f rfl T.int boot_int (z0a (z9e z3O (pv 8) z0g (z0C _)) z0e)) (fun _ _=>rfl)) (z0C _)) (z0i (z0y z1W)) z0v))))))
  (z0c (z2x (jj:=13) rfl sc_law.nd rfl (Or.inl rfl) (Or.inl rfl) (Nc:=["_law_places","_law_rows","_law_sign"]) (fr:=[none,none,none]) rfl (z0A (K:=K) rfl (pv 5)) rfl (by decide) rfl (by decide) rfl trivial trivial (fun _ _ _ _=>(z1h (K:=K) rfl 3 rfl (z0t (z0k (i:=0) (show List.Nodup (["_law_places","_law_rows","_law_sign"]:List Str) from by decide) rfl (Or.inl rfl)) (z0t (z0k (i:=1) (show List.Nodup (["_law_places","_law_rows","_law_sign"]:List Str) from by decide) rfl (Or.inl rfl)) (z0t (z0k (i:=2) (show List.Nodup (["_law_places","_law_rows","_law_sign"]:List Str) from by decide) rfl (Or.inl rfl)) z1g))))) (fun _ _ _ _=>z0U) (fun _ _ _ _=>(z2M (z0a (z0E (z0Y (K:=K) rfl) rfl T.list boot_list (z0a (pv 0) z0e)) (z0a (z0E (z0Y (K:=K) rfl) rfl T.list boot_list (z0a (pv 1) z0e)) (z0a (pv 2) z0e))))))
  (z0c (z0W PassesOwn.never rfl (z0A (K:=K) rfl (pv 5)) (z1h (K:=K) rfl 3 rfl (z0t (z0k (i:=9) sc_law.nd rfl (Or.inr rfl)) (z0t (z0k (i:=10) sc_law.nd rfl (Or.inl rfl)) (z0t (z0k (i:=11) sc_law.nd rfl (Or.inl rfl)) z1g)))) (z0c (z1C (z6e PySem.F.plainAttrs_list PySem.F.slot_list_append PySem.F.type_list_append z1b (pv 9) (z0a z0g z0e)))
  (z0i (z1C (y1D PySem.F.plainAttrs_list PySem.F.slot_list_clear PySem.F.type_list_clear z6N (pv 10))))))
  (z0c (z1C (y1D PySem.F.plainAttrs_list PySem.F.slot_list_clear PySem.F.type_list_clear z6N (pv 5)))
  (z0c (z0O (z0s (z1O (K:=K) rfl hr.units) (z0B c_ladder hr rfl (z0a (pv 2) (z0a (pv 4) z0e))) (pv 13) (z0C _)) (z0i (z0y z1W)) z0v)
  (z0c (z0W PassesOwn.never rfl (z1a rfl T.range (z0a (z0u (z0Q (K:=K) rfl) rfl T.len PySem.boot_len (z0a (pv 3) z0e)) z0e)) (z0k (i:=14) sc_law.nd rfl (Or.inl rfl)) (z0i (z0O (z0s (z1O (K:=K) rfl hr.units) (z0B c_common hr rfl (z0a (pv 2) (z0a (pv 4) (z0a (z0H (z0a (pv 14) z0e)) z0e)))) (z0H (z0a (z0G (z0q (K:=K) rfl) (pv 3) (pv 14) (fun _ _=>rfl)) z0e)) (z0C _)) (z0i (z0y z1W)) z0v)))
  (z0i (z0y z1W)))))))))))))))),?_⟩
 refine z0o (fun σ H'=>∃(l:Addr) (ds:List Int),σ=[some (.ref a),some (.ref l),none,none,none,none,none,none,none,none,none,none,none,none,none]∧ds.length=60∧(∀d∈ds,0≤d∧d<2147483587)∧H' l=some (.lst (ds.map V.int))∧H' Pt=some (.tbl #[])) (fun N hN=>?_) ?_
 ·exact⟨_,rfl,a,ss,rfl,hS,h63,fun ds l H' _ dl db g e=>hN _ _ ⟨l,ds,rfl,dl,db,e,g _ _ hP⟩⟩
 rintro σ H1 ⟨l,ds,rfl,dl,db,el,hP1⟩
 refine z0o (fun σ H'=>∃(m:Nat) (lf:Addr) (as:List Addr) (ws:List (List Int)),σ=[some (.ref a),some (.ref l),some (.int (m:Nat)),some (.ref lf),none,none,none,none,none,none,none,none,none,none,none]∧H' lf=some (.lst (as.map V.ref))∧TsA H' as ws∧ws.length≤6∧m≤4∧(m=4→ws.length≤5)∧(∀t∈ws,wlD m t)∧H' Pt=some (.tbl #[])) (fun N hN=>?_) ?_
 ·refine⟨_,rfl,l,ds,6,rfl,el,dl,db,by decide,fun tp lf as ts m H2 hlf g2 etp elf hts m4 t6 t5 m0 hnd hw=>?_⟩
  exact⟨tp,_,rfl,SqT.of etp,rfl,_,_,rfl,_,_,rfl,rfl,hN _ _ ⟨m,lf,as,ts,rfl,elf,hts,t6,m4,t5,hw,g2 _ _ hP1⟩⟩
 rintro σ H2 ⟨m,lf,as,ws,rfl,elf2,hts2,w6,m4,m5,hwl,hP2⟩
 have zw:∀t∈ws,t.length=m+1∧∀n∈t,intBits n≤64:=fun t ht=>⟨(z8q (hwl t ht)).1,(z8q (hwl t ht)).2.1⟩
 have hw:∀t∈ws,t.length=m+1:=fun t ht=>(zw t ht).1
 refine z0o (fun σ H'=>∃(lh:Addr),σ=[some (.ref a),some (.ref l),some (.int (m:Nat)),some (.ref lf),some (.ref lh),none,none,none,none,none,none,none,none,none,none]∧H' lf=some (.lst (as.map V.ref))∧H' lh=some (.lst (as.map V.ref))∧TsA H' as ws∧H' Pt=some (.tbl #[])) (fun N hN=>?_) ?_
 ·refine⟨_,rfl,lf,_,rfl,.inl (SqL.of elf2),fun lh hlh=>hN _ _ ⟨lh,rfl,?_⟩⟩
  have g4:=z0d hlh (.lst (as.map V.ref))
  exact⟨g4 _ _ elf2,z0b,hts2.same g4,g4 _ _ hP2⟩
 rintro σ H3 ⟨lh,rfl,elf3,elh3,hts3,hP3⟩
 have tab3:TabL Pt H3:= .inl hP3
 refine z0o (fun σ H'=>∃(r:Addr) (rs:List Rung),σ=[some (.ref a),some (.ref l),some (.int (m:Nat)),some (.ref lf),some (.ref lh),some (.ref r),none,none,none,none,none,none,none,none,none]∧LwI Pt lf lh r as ws rs H'∧RgI m (bnJ 64) ws rs∧r≠lf∧r≠lh∧∀g∈rs,g.ap≠lf∧g.ap≠lh∧g.ar≠lf∧g.ar≠lh) (fun N hN=>?_) ?_
 ·refine⟨_,rfl,_,rfl,_,lh,as,ws,m,64,rfl,elh3,hts3,w6,m4,m5,by decide,zw,tab3,fun r rs L H4 hr0 g4 t4 er hrs hPI p1 p2 p3 p4=>?_⟩
  have nn:∀{x y:Addr} {ys},H3 x=none→H3 y=some (.lst ys)→x≠y:=fun h1 h2 z=>by rw[z,h2] at h1;cases h1
  refine hN _ _ ⟨r,rs,rfl,⟨g4 _ _ (tab3.lst elf3) elf3,g4 _ _ (tab3.lst elh3) elh3,⟨hts3.1,fun i a t e1 e2=>g4 _ _ (tab3.tup (hts3.2 i a t e1 e2)) (hts3.2 i a t e1 e2)⟩,t4,er,fun g hg=>(hrs g hg).1⟩,⟨fun g hg=>(hrs g hg).2.2.2,⟨L,hPI,p1⟩,p2,p3,p4⟩,nn hr0 elf3,nn hr0 elh3,fun g hg=>?_⟩
  obtain⟨_,n1,n2,_⟩:=hrs g hg
  exact⟨nn n1 elf3,nn n1 elh3,nn n2 elf3,nn n2 elh3⟩
 rintro σ H4 ⟨r,rs,rfl,W4,hG,nrf,nrh,hne⟩
 refine z0o (fun σ H'=>σ=[some (.ref a),some (.ref l),some (.int (m:Nat)),some (.ref lf),some (.ref lh),some (.ref r),none,none,none,none,none,none,none,none,none]∧LwI Pt lf lh r as ws rs H') (fun N hN=>?_) ?_
 ·refine⟨_,rfl,r,rs,rfl,W4.fl,fun g hg=>⟨W4.rg g hg,?_⟩,by have:=hG.lt;lia,fun H5 g5=>?_⟩
  ·have:=(hG.row hg).1.len
   lia
  refine⟨_,rfl,?_⟩
  refine z1X ?_
  have W5:=W4.same g5
  refine⟨_,rfl,_,rfl,lh,lf,_,_,rfl,rfl,z2p W5.l2 W5.t,z2p W5.l1 W5.t,z5n _ _,_,rfl,?_⟩
  rw[show Dt.eqb (.l (ws.map dtT)) (.l (ws.map dtT))=true from (Dt.eqb_iff _ _).mpr rfl]
  refine z1X ?_
  exact hN _ _ ⟨rfl,W5⟩
 clear W4
 rintro σ H4 ⟨rfl,W4⟩
 refine z0o (fun σ H'=>∃(d:Addr) (es:List PrD),σ=[some (.ref a),some (.ref l),some (.int (m:Nat)),some (.ref lf),some (.ref lh),some (.ref r),some (.ref d),none,none,none,none,none,none,none,none]∧LwI Pt lf lh r as ws rs H'∧H' d=some (.dT (es.map z2E))∧(∀e∈es,PrAt H' e)∧EsI m ws (z0P ws.length) es) (fun N hN=>?_) ?_
 ·exact⟨_,rfl,_,rfl,lf,as,ws,m,rfl,W4.l1,W4.t,w6,m4,hwl,fun d es H5 hd g5 ed hes hE el=>hN _ _ ⟨d,es,rfl,W4.same g5,ed,hes,hE⟩⟩
 rintro σ H5 ⟨d,es,rfl,W5,ed5,hes5,hE⟩
 have el64:es.length<64:=by
  obtain⟨L,h1,h2⟩:=hG.L
  have:=(h2.trans (hE.perm hw h1).symm).length_eq
  rw[q0a,q0a] at this
  have:=hG.lt
  lia
 refine z0o (fun σ H'=>∃(lo:Addr) (o:Obj),σ=[some (.ref a),some (.ref l),some (.int (m:Nat)),some (.ref lf),some (.ref lh),some (.ref r),some (.ref d),some (.ref lo),none,none,none,none,none,none,none]∧LwI Pt lf lh r as ws rs H'∧H' d=some (.frz o (.dT (es.map z2E)))∧(∀e∈es,PrAt H' e)∧IsD K H' (.ref lo) (.l ((rs.map fun g=>ldK ws g.us).map dtK))) (fun N hN=>?_) ?_
 ·refine⟨_,rfl,d,es.map z2E,rfl,ed5,fun o D hD=>?_⟩
  have mv:∀c o',(∀kvs,o'≠ .dT kvs)→H5 c=some o'→upd H5 d (.frz o (.dT (es.map z2E))) c=some o':=fun c o' hk e=>by
   rw[z0h (fun z=>by rw[z,ed5] at e;exact hk _ (Option.some.inj e).symm)];exact e
  have W6:=W5.mv mv
  have eF:upd H5 d (.frz o (.dT (es.map z2E))) d=some (.frz o (.dT (es.map z2E))):=z0b
  have hes6:∀e∈es,PrAt (upd H5 d (.frz o (.dT (es.map z2E)))) e:=fun e he=>(hes5 e he).upd (fun h=>mv _ _ (fun _ z=>nomatch z) h) fun _ _ h=>mv _ _ (fun _ z=>nomatch z) h
  generalize upd H5 d (.frz o (.dT (es.map z2E)))=H6 at*
  refine z8i es z2E d o (es.map z2E) rfl hD eF (fun H' e u=>∃z lp,u=V.ref z∧H' z=some (.tup [V.int ((e.us.length:Nat):Int),V.ref lp])∧H' lp=some (.lst (e.pl.map V.int))∧lp≠D) ?_ (z0l (by rw[q0a];lia)) ?_ ?_ ?_ ?_
  ·rintro Ha Hb e u k ⟨acc,hacc⟩ ⟨z,lp,e1,e2,e3,e4⟩
   exact⟨z,lp,e1,k _ _ (fun y=>by rw[y,hacc] at e2;cases e2) e2,k _ _ e4 e3,e4⟩
  ·intro p u v σ H hp S h
   exact⟨p,_,rfl,SqT.of hp,rfl,_,_,rfl,_,_,rfl,rfl,h⟩
  ·intro σ H S h
   exact h
  ·rintro e he b Hc gc hb ⟨acc,hacc⟩ S h
   obtain⟨k1,k2⟩:=hes6 e he
   rw[show (z2E e).1.map kV=e.pl.map V.int from z6k e.pl] at hb
   refine⟨_,rfl,e.ar,_,rfl,.inl (SqL.of (gc _ _ k1)),_,rfl,b,_,rfl,.inr (SqT.of hb),fun lp hlp=>?_⟩
   have g1:=z0d hlp (.lst (e.pl.map V.int))
   have e1:upd Hc lp (.lst (e.pl.map V.int)) lp=some (.lst (e.pl.map V.int)):=z0b
   generalize upd Hc lp (.lst (e.pl.map V.int))=Hd at*
   refine⟨z0l (by show 2≤_;decide),fun z hz=>?_⟩
   have g2:=z0d hz (.tup [V.int (((e.bs.map V.ref).length :Nat):Int),V.ref lp])
   refine h _ _ (g1.trans g2) ⟨z,lp,rfl,?_,g2 _ _ e1,fun y=>by rw[y,hacc] at hlp;cases hlp⟩
   rw[z0b,q0a,k2.1]
  ·intro us H7 g7 hD7 he
   have hds:∀H',Same H7 H'→IsDs K H' us ((es.map fun e=>kq (((e.us.length:Nat):Int),e.pl)).map Dt.t):=fun H' g'=>by
        rw[q0w]
        exact z3I (fun e u ⟨z,lp,e1,e2,e3,_⟩=>by rw[e1];exact .t (SqT.of (g' _ _ e2)) (.cons (.i _) (.cons (z4i (g' _ _ e3)) .nil))) he
   have ul:us.length=es.length:=he.length.symm
   refine⟨D,us,_,rfl,hD7,by lia,hds _ (Same.refl _),fun x hx=>?_,fun x hx y hy=>?_,fun lo H8 hlo g8 elo=>?_⟩
   ·obtain⟨e,_,rfl⟩:=q0e.mp hx
    exact⟨_,_,rfl⟩
   ·obtain⟨e,_,rfl⟩:=q0e.mp hx
    obtain⟨e',_,rfl⟩:=q0e.mp hy
    exact y3A _ _
   ·have g78:=g7.trans g8
    refine hN _ _ ⟨lo,o,rfl,W6.same g78,g78 _ _ eF,fun e he=>(hes6 e he).upd (fun h=>g78 _ _ h) fun _ _ h=>g78 _ _ h,?_⟩
    rw[hG.order hw hE]
    refine .l (SqL.of elo) ?_
    unfold z5T
    rw[q0w,q0w]
    refine z6U fun i hi=>?_
    have hi2:=q1a.mp ((z1d _).mem_iff.mp hi)
    rw[q0a] at hi2
    refine z6V (hds _ g8) ?_
    rw[q0j,q0j,q0b hi2]
    show some (Dt.t (kq _))=some (dtK ((es.map fun e=>(((e.us.length:Nat):Int),e.pl)).getD i (0,[])))
    rw[q0c,q0j,q0b hi2];rfl
 rintro σ H6 ⟨lo,o,rfl,W6,ed6,hes6,hlo⟩
 have pt3:∀(g e:Rung) (σ:St),((((((σ.set 0 (some (.ref e.ap))).set 1 (some (.ref e.ar))).set 2 (some (.int e.s))).set 0 (some (.ref g.ap))).set 1 (some (.ref g.ar))).set 2 (some (.int g.s)):St)=((σ.set 0 (some (.ref g.ap))).set 1 (some (.ref g.ar))).set 2 (some (.int g.s)):=fun g e σ=>set3 _ _ _ _ _ _ σ
 have rl64:=hG.lt
 refine z0o (fun σ H'=>σ=[some (.ref a),some (.ref l),some (.int (m:Nat)),some (.ref lf),some (.ref lh),some (.ref r),some (.ref d),some (.ref lo),none,none,none,none,none,none,none]∧LwI Pt lf lh r as ws rs H'∧H' d=some (.frz o (.dT (es.map z2E)))∧(∀e∈es,PrAt H' e)) (fun N hN=>?_) ?_
 ·refine⟨_,rfl,r,rfl,⟨_,SqL.of W6.fl⟩,fun D hD=>?_⟩
  refine z0S rs (by rw[q0a]) (z0r K r (rs.map fun g=>V.ref g.a)) hD (fun g σ=>((σ.set 0 (some (.ref g.ap))).set 1 (some (.ref g.ar))).set 2 (some (.int g.s))) pt3 (fun _=>true) (fun H' g u=>∃z,u=V.ref z∧H' z=some (.tup [V.int ((g.us.length:Nat):Int),V.ref g.ap])) ?_ (fun H' g'=>SqL.of (g' _ _ W6.fl)) (z0l (by rw[q0a];lia)) ?_ ?_ ?_ ?_
  ·rintro Ha Hb g u k ⟨acc,hacc⟩ ⟨z,e1,e2⟩
   exact⟨z,e1,k _ _ (fun y=>by rw[y,hacc] at e2;cases e2) e2⟩
  ·intro i x g hx hg σ H3 g3 S h
   rw[q0j,hg] at hx
   obtain rfl:=Option.some.inj hx
   exact⟨g.a,_,rfl,SqT.of (g3 _ _ (W6.rg g (q0s hg)).1),rfl,_,_,rfl,_,_,rfl,_,_,rfl,rfl,h⟩
  ·intro g hg Hc gc S h
   exact h _ (Same.refl _)
  ·rintro g hg _ Hc gc _ S h
   obtain⟨k1,k2,k3,k4⟩:=W6.rg g hg
   refine⟨_,rfl,g.ar,_,rfl,.inl (SqL.of (gc _ _ k3)),_,rfl,z0l (by show 2≤_;decide),fun z hz=>?_⟩
   have g2:=z0d hz (.tup [V.int (((g.bs.map V.ref).length :Nat):Int),V.ref g.ap])
   refine h _ _ g2 ⟨z,rfl,?_⟩
   rw[z0b,q0a,k4.1]
  ·intro us H7 g7 hD7 he
   rw[z0F] at he
   have W7:=W6.same g7
   have hds:IsDs K H7 us ((rs.map fun g=>ldK ws g.us).map dtK):=by
        rw[hG.key,q0w]
        refine z3I (R:=fun (g:Rung) u=>(∃z,u=V.ref z∧H7 z=some (.tup [V.int ((g.us.length:Nat):Int),V.ref g.ap]))∧H7 g.ap=some (.lst (g.pl.map V.int))) (fun g u ⟨⟨z,e1,e2⟩,e3⟩=>?_) (z5E (fun g hg u h=>⟨h,(W7.rg g hg).2.1⟩) he)
        rw[e1]
        exact .t (SqT.of e2) (.cons (.i _) (.cons (z4i e3) .nil))
   refine⟨_,rfl,D,lo,_,_,rfl,rfl,.l (SqL.of hD7) hds,z6W g7 hlo,oksM y3D _ _,_,rfl,?_⟩
   rw[show Dt.eqb (.l ((rs.map fun g=>ldK ws g.us).map dtK)) (.l ((rs.map fun g=>ldK ws g.us).map dtK))=true from (Dt.eqb_iff _ _).mpr rfl]
   refine z1X ?_
   exact hN _ _ ⟨rfl,W7,g7 _ _ ed6,fun e he=>(hes6 e he).upd (fun h=>g7 _ _ h) fun _ _ h=>g7 _ _ h⟩
 rintro σ H7 ⟨rfl,W7,ed7,hes7⟩
 refine z0o (fun σ H'=>∃s8 s9 s10 s11 s12,σ=[some (.ref a),some (.ref l),some (.int (m:Nat)),some (.ref lf),some (.ref lh),some (.ref r),some (.ref d),some (.ref lo),s8,s9,s10,s11,s12,none,none]∧LwI Pt lf lh r as ws rs H') (fun N hN=>?_) ?_
 ·refine⟨_,rfl,r,_,rfl,.inl (SqL.of W7.fl),?_⟩
  refine⟨_,rfl,by rw[q0a];lia,by rw[q0a];lia,?_⟩
  rw[q0a,q0G]
  refine z0D (z0R 0 rs.length) (fun i σ H'=>∃s8 s9 s10 s11 s12,σ=[some (.ref a),some (.ref l),some (.int (m:Nat)),some (.ref lf),some (.ref lh),some (.ref r),some (.ref d),some (.ref lo),s8,s9,s10,s11,s12,none,none]∧Same H7 H') ⟨_,_,_,_,_,rfl,Same.refl _⟩ (fun _ _ _ _ _=>trivial) ?_ ?_
  ·rintro i x σ Ha Hb hi ⟨s8,s9,s10,s11,s12,rfl,gb⟩ ⟨rfl,rfl⟩
   rw[Int.zero_add]
   have hgi:rs[i]? =some rs[i]:=q0b hi
   have hgm:=q0F hi
   generalize rs[i]=g at hgi hgm
   have Wb:=W7.same gb
   obtain⟨k1,k2,k3,k4⟩:=Wb.rg g hgm
   refine z0o (fun σ H'=>σ=[some (.ref a),some (.ref l),some (.int (m:Nat)),some (.ref lf),some (.ref lh),some (.ref r),some (.ref d),some (.ref lo),some (.int (i:Nat)),some (.ref g.ap),some (.ref g.ar),some (.int g.s),s12,none,none]∧Hb=H') (fun N' hN'=>?_) ?_
   ·have hat:atI (rs.map fun g=>V.ref g.a) (i:Int)=some (.ref g.a):=z1i (by rw[q0j,hgi];rfl)
    exact⟨_,rfl,_,rfl,r,_,_,_,rfl,rfl,SqL.of Wb.fl,hat,g.a,_,rfl,SqT.of k1,rfl,_,_,rfl,_,_,rfl,_,_,rfl,rfl,hN' _ _ ⟨rfl,rfl⟩⟩
   rintro σ Hc ⟨rfl,rfl⟩
   refine z0o (fun σ H'=>σ=[some (.ref a),some (.ref l),some (.int (m:Nat)),some (.ref lf),some (.ref lh),some (.ref r),some (.ref d),some (.ref lo),some (.int (i:Nat)),some (.ref g.ap),some (.ref g.ar),some (.int g.s),s12,none,none]∧Same Hb H') (fun N' hN'=>?_) ?_
   ·obtain⟨e,he,ee,ev⟩:=hG.find hw hE hgm
    refine⟨_,rfl,_,rfl,_,rfl,g.ap,_,rfl,.inl ⟨SqL.of k2,fun tt htt=>?_⟩⟩
    have g1:=z0d htt (.tup (g.pl.map V.int))
    have e1:upd Hb tt (.tup (g.pl.map V.int)) tt=some (.tup (g.pl.map V.int)):=z0b
    generalize upd Hb tt (.tup (g.pl.map V.int))=Hc at*
    have gc:=gb.trans g1
    obtain⟨p1,p2⟩:=hes7 e he
    refine⟨d,V.ref e.ar,rfl,.inr ⟨es.map z2E,kyL g.pl,tt,.inr ⟨o,gc _ _ ed7⟩,rfl,by rw[z6k];exact e1,ev.symm⟩,?_⟩
    rw[ee] at p2
    refine⟨g.ar,e.ar,_,_,rfl,rfl,z2p (g1 _ _ k3) (k4.same g1),z2p (gc _ _ p1) (p2.same gc),z5n _ _,_,rfl,?_⟩
    rw[show Dt.eqb (.l (g.us.map dtT)) (.l (g.us.map dtT))=true from (Dt.eqb_iff _ _).mpr rfl]
    refine z1X ?_
    exact hN' _ _ ⟨rfl,g1⟩
   rintro σ Hc ⟨rfl,gc⟩
   refine z0o (fun σ H'=>σ=[some (.ref a),some (.ref l),some (.int (m:Nat)),some (.ref lf),some (.ref lh),some (.ref r),some (.ref d),some (.ref lo),some (.int (i:Nat)),some (.ref g.ap),some (.ref g.ar),some (.int g.s),some (.int (((rs.take i).filter fun x=>amL x.pl g.pl).map Rung.s).sum),none,none]∧Same Hc H') (fun N' hN'=>?_) ?_
   ·have Wc:=Wb.same gc
    refine⟨_,rfl,_,rfl,_,rfl,r,_,rfl,SqL.of Wc.fl,fun sl hsl=>?_⟩
    rw[y0c (by lia) (by rw[q0a];lia),q0G,←List.map_take]
    have g1:=z0d hsl (.lst ((rs.take i).map fun g=>V.ref g.a))
    have e1:upd Hc sl (.lst ((rs.take i).map fun g=>V.ref g.a)) sl=some (.lst ((rs.take i).map fun g=>V.ref g.a)):=z0b
    generalize upd Hc sl (.lst ((rs.take i).map fun g=>V.ref g.a))=Hd at*
    have Wd:=Wc.same g1
    have k2d:=(gc.trans g1) _ _ k2
    have tl:(rs.take i).length ≤64:=by rw[q0O];lia
    have tm:∀x∈rs.take i,x∈rs:=fun x hx=>List.mem_of_mem_take hx
    have rl:∀x∈rs,x.pl.length≤1000:=fun x hx=>by
     rw[hG.pl x hx]
     unfold zL z0L
     rw[q0a]
     have:=q1f (fun i=>hz x.us (ws.getD i [])) (List.range ws.length)
     rw[q1e] at this
     lia
    refine⟨sl,rfl,⟨_,SqL.of e1⟩,fun D hD=>?_⟩
    refine z0S (rs.take i) (by rw[q0a]) (z0r K sl ((rs.take i).map fun g=>V.ref g.a)) hD (fun g σ=>((σ.set 0 (some (.ref g.ap))).set 1 (some (.ref g.ar))).set 2 (some (.int g.s))) pt3 (fun x=>amL x.pl g.pl) (fun _ x u=>u=V.int x.s) (fun _ _ _ _ _ _ h=>h) (fun H' g'=>SqL.of (g' _ _ e1)) (z0l (by rw[q0a];lia)) ?_ ?_ ?_ ?_
    ·intro j x y hx hy σ H3 g3 S h
     rw[q0j,hy] at hx
     obtain rfl:=Option.some.inj hx
     exact⟨y.a,_,rfl,SqT.of (g3 _ _ (Wd.rg y (tm y (q0s hy))).1),rfl,_,_,rfl,_,_,rfl,_,_,rfl,rfl,h⟩
    ·intro y hy He ge S h
     exact⟨_,rfl,_,rfl,y.ap,g.ap,y.pl,g.pl,rfl,ge _ _ (Wd.rg y (tm y hy)).2.1,ge _ _ k2d,rl y (tm y hy),fun Hf gf=>⟨_,rfl,h _ gf⟩⟩
    ·intro y hy _ He ge _ S h
     exact⟨_,rfl,h _ _ (Same.refl _) rfl⟩
    ·intro us He ge hDe he
     have eu:us=(((rs.take i).filter fun x=>amL x.pl g.pl).map Rung.s).map V.int:=by
         generalize (rs.take i).filter (fun x=>amL x.pl g.pl)=fs at he
         clear hDe
         induction he with
         |nil=>rfl
         |cons h1 _ ih=>rw[h1,ih];rfl
     rw[eu] at hDe
     exact⟨D,_,rfl,SqL.of hDe,hN' _ _ ⟨rfl,g1.trans ge⟩⟩
   rintro σ Hd ⟨rfl,gd⟩
   have es:=y3d hG.sg hgi
   generalize (((rs.take i).filter fun x=>amL x.pl g.pl).map Rung.s).sum =tot at es
   refine⟨_,rfl,_,rfl,_,_,rfl,rfl,z0l (by show 2≤_;decide),fun z hz0=>?_⟩
   have g1:=z0d hz0 (.lst [V.int (0 - tot),V.int 1])
   have e1:upd Hd z (.lst [V.int (0 - tot),V.int 1]) z=some (.lst [V.int (0 - tot),V.int 1]):=z0b
   generalize upd Hd z (.lst [V.int (0 - tot),V.int 1])=He at*
   have gall:=gb.trans (gc.trans (gd.trans g1))
   by_cases c:i=0
   ·rw[if_pos c] at es
    refine⟨_,rfl,rfl,.inr ⟨_,rfl,z,_,_,_,rfl,rfl,SqL.of e1,(show atI [V.int (0 - tot),V.int 1] (if decide (V.int ((i:Nat):Int)=V.int 0)=true then 1 else 0)=some (V.int 1) by subst c;rfl),rfl,_,rfl,?_⟩⟩
    rw[es]
    refine y3O (by simp) ?_
    exact⟨_,_,_,_,_,rfl,gall⟩
   ·rw[if_neg c] at es
    refine⟨_,rfl,rfl,.inr ⟨_,rfl,z,_,_,_,rfl,rfl,SqL.of e1,(show atI [V.int (0 - tot),V.int 1] (if decide (V.int ((i:Nat):Int)=V.int 0)=true then 1 else 0)=some (V.int (0 - tot)) by
     rw[if_neg (by rw[z6r];simp;lia)];rfl),rfl,_,rfl,?_⟩⟩
    rw[es]
    refine y3O (by simp) ?_
    exact⟨_,_,_,_,_,rfl,gall⟩
  ·rintro σ Ha ⟨s8,s9,s10,s11,s12,rfl,ga⟩
   exact hN _ _ ⟨_,_,_,_,_,rfl,W7.same ga⟩
 rintro σ H8 ⟨s8,s9,s10,s11,s12,rfl,W8⟩
 refine z0o (fun σ H'=>∃(lk:Addr) (ks:List Rung),σ=[some (.ref a),some (.ref l),some (.int (m:Nat)),some (.ref lf),some (.ref lh),some (.ref r),some (.ref d),some (.ref lo),s8,s9,s10,s11,s12,some (.ref lk),none]∧Same H8 H'∧H8 lk=none∧H' lk=some (.lst (ks.map fun k=>V.ref k.a))∧(ks.map fun g=>dtR g.us (g.pl,g.s))=(rs.map fun g=>dtR g.us (g.pl,g.s))∧∀k∈ks,RungAt H' k∧H8 k.ap=none∧H8 k.ar=none) (fun N hN=>?_) ?_
 ·refine⟨_,rfl,r,rfl,⟨_,SqL.of W8.fl⟩,fun D hD=>?_⟩
  refine z0S rs (by rw[q0a]) (z0r K r (rs.map fun g=>V.ref g.a)) hD (fun g σ=>((σ.set 0 (some (.ref g.ap))).set 1 (some (.ref g.ar))).set 2 (some (.int g.s))) pt3 (fun _=>true) (fun H' g u=>∃z p' q',u=V.ref z∧H' z=some (.tup [V.ref p',V.ref q',V.int g.s])∧H' p'=some (.lst (g.pl.map V.int))∧H' q'=some (.lst (g.bs.map V.ref))∧H8 p'=none∧H8 q'=none∧p'≠D∧q'≠D) ?_ (fun H' g'=>SqL.of (g' _ _ W8.fl)) (z0l (by rw[q0a];lia)) ?_ ?_ ?_ ?_
  ·rintro Ha Hb g u k ⟨acc,hacc⟩ ⟨z,p',q',e1,e2,e3,e4,e5,e6,e7,e8⟩
   exact⟨z,p',q',e1,k _ _ (fun y=>by rw[y,hacc] at e2;cases e2) e2,k _ _ e7 e3,k _ _ e8 e4,e5,e6,e7,e8⟩
  ·intro i x g hx hg σ H3 g3 S h
   rw[q0j,hg] at hx
   obtain rfl:=Option.some.inj hx
   exact⟨g.a,_,rfl,SqT.of (g3 _ _ (W8.rg g (q0s hg)).1),rfl,_,_,rfl,_,_,rfl,_,_,rfl,rfl,h⟩
  ·intro g hg Hc gc S h
   exact h _ (Same.refl _)
  ·rintro g hg _ Hc gc ⟨acc,hacc⟩ S h
   obtain⟨k1,k2,k3,k4⟩:=W8.rg g hg
   refine⟨_,rfl,g.ap,_,rfl,.inl (SqL.of (gc _ _ k2)),fun p' hp'=>?_⟩
   have g1:=z0d hp' (.lst (g.pl.map V.int))
   have e1:upd Hc p' (.lst (g.pl.map V.int)) p'=some (.lst (g.pl.map V.int)):=z0b
   generalize upd Hc p' (.lst (g.pl.map V.int))=Hd at*
   refine⟨_,rfl,g.ar,_,rfl,.inl (SqL.of ((gc.trans g1) _ _ k3)),fun q' hq'=>?_⟩
   have g2:=z0d hq' (.lst (g.bs.map V.ref))
   have e2:upd Hd q' (.lst (g.bs.map V.ref)) q'=some (.lst (g.bs.map V.ref)):=z0b
   generalize upd Hd q' (.lst (g.bs.map V.ref))=He at*
   refine⟨_,rfl,z0l (by show 3≤_;decide),fun z hz0=>?_⟩
   have g3:=z0d hz0 (.tup [V.ref p',V.ref q',V.int g.s])
   exact h _ _ (g1.trans (g2.trans g3)) ⟨z,p',q',rfl,z0b,(g2.trans g3) _ _ e1,g3 _ _ e2,gc.free hp',(gc.trans g1).free hq',(fun y=>by rw[y,hacc] at hp';cases hp'),fun y=>by rw[y,g1 _ _ hacc] at hq';cases hq'⟩
  ·intro us H9 g9 hD9 he
   rw[z0F] at he
   obtain⟨ks,rfl,h1,h2⟩:=z7f (H0:=H8) (he.imp fun g u ⟨z,p',q',e1,e2,e3,e4,e5,e6,_⟩=>⟨z,p',q',e1,e2,e3,e4,e5,e6⟩) fun g hg=>(W8.rg g hg).2.2.2.same g9
   exact hN _ _ ⟨D,ks,rfl,g9,hD,hD9,h1,h2⟩
 rintro σ H9 ⟨lk,ks,rfl,g9,hlk,elk,hkd,hks⟩
 have W9:=W8.same g9
 /- what stays while places and rows are changed -/
 have old:∀g∈rs,∀c,H8 c=none→c≠g.ap∧c≠g.ar:=fun g hg c hc=>by
  obtain⟨_,k2,k3,_⟩:=W8.rg g hg
  exact⟨(fun z=>by rw[z,k2] at hc;cases hc),(fun z=>by rw[z,k3] at hc;cases hc)⟩
 have nt:∀g∈rs,∀c o,H9 c=some o→(∀ys,o≠ .lst ys)→c≠g.ap∧c≠g.ar:=fun g hg c o e ho=>by
  obtain⟨_,k2,k3,_⟩:=W9.rg g hg
  exact⟨fun z=>by rw[z,k2] at e;exact ho _ (Option.some.inj e).symm,fun z=>by rw[z,k3] at e;exact ho _ (Option.some.inj e).symm⟩
 have nr:∀g∈rs,r≠g.ap∧r≠g.ar:=fun g hg=>⟨fun z=>(W9.ne hg).1 z.symm,fun z=>(W9.ne hg).2 z.symm⟩
 refine z0o (fun σ H'=>∃s9 s10 s11,σ=[some (.ref a),some (.ref l),some (.int (m:Nat)),some (.ref lf),some (.ref lh),some (.ref r),some (.ref d),some (.ref lo),s8,s9,s10,s11,s12,some (.ref lk),none]∧(∀c o,(∀g∈rs,c≠g.ap∧c≠g.ar)→H9 c=some o→H' c=some o)) (fun N hN=>?_) ?_
 ·refine⟨_,rfl,r,rfl,⟨_,SqL.of W9.fl⟩,?_⟩
  refine z0D (z0r K r (rs.map fun g=>V.ref g.a)) (fun i σ H'=>∃s9 s10 s11,σ=[some (.ref a),some (.ref l),some (.int (m:Nat)),some (.ref lf),some (.ref lh),some (.ref r),some (.ref d),some (.ref lo),s8,s9,s10,s11,s12,some (.ref lk),none]∧(∀c o,(∀g∈rs,c≠g.ap∧c≠g.ar)→H9 c=some o→H' c=some o)∧∀g∈rs,(∃xs,H' g.ap=some (.lst xs)∧xs.length≤1000+i)∧∃xs,H' g.ar=some (.lst xs)∧xs.length≤1000+i) ⟨_,_,_,rfl,fun _ _ _ e=>e,fun g hg=>?_⟩ (fun _ _ _ _ h=>by obtain⟨_,_,_,_,k,_⟩:=h;exact SqL.of (k _ _ nr W9.fl)) ?_ ?_
  ·obtain⟨_,k2,k3,k4⟩:=W9.rg g hg
   have ul:=(hG.row hg).1.len
   have pl:g.pl.length≤1000:=by
        rw[hG.pl g hg]
        unfold zL z0L
        rw[q0a]
        have:=q1f (fun i=>hz g.us (ws.getD i [])) (List.range ws.length)
        rw[q1e] at this
        lia
   exact⟨⟨_,k2,by rw[q0a];lia⟩,⟨_,k3,by rw[q0a,k4.1];lia⟩⟩
  ·rintro i x σ Ha Hb hi ⟨s9,s10,s11,rfl,kb,sm⟩ ⟨rfl,hx⟩
   rw[q0a] at hi
   rw[q0j] at hx
   obtain⟨g,hg,rfl⟩:=q0v.mp hx
   have hgm:=q0s hg
   have e1:=kb _ _ (fun g' hg'=>nt g' hg' _ _ (W9.rg g hgm).1 fun _ z=>nomatch z) (W9.rg g hgm).1
   refine⟨g.a,_,rfl,SqT.of e1,rfl,_,_,rfl,_,_,rfl,_,_,rfl,rfl,?_⟩
   obtain⟨⟨xs,ex,xl⟩,⟨ys,ey,yl⟩⟩:=sm g hgm
   refine z0o (fun σ H'=>σ=[some (.ref a),some (.ref l),some (.int (m:Nat)),some (.ref lf),some (.ref lh),some (.ref r),some (.ref d),some (.ref lo),s8,some (.ref g.ap),some (.ref g.ar),some (.int g.s),s12,some (.ref lk),none]∧(∀c o,(∀g∈rs,c≠g.ap∧c≠g.ar)→H9 c=some o→H' c=some o)∧∀g∈rs,(∃xs,H' g.ap=some (.lst xs)∧xs.length≤1000+(i+1))∧∃xs,H' g.ar=some (.lst xs)∧xs.length≤1000+(i+1)) (fun N' hN'=>?_) ?_
   ·refine⟨_,rfl,.inl ⟨rfl,_,SqL.of ex⟩,g.ap,_,_,rfl,rfl,ex,z1E (by lia),hN' _ _ ⟨rfl,fun c o hc e=>?_,fun g' hg'=>?_⟩⟩
    ·rw[z0h (hc g hgm).1];exact kb c o hc e
    ·have one:∀y,(∃xs,Hb y=some (.lst xs)∧xs.length≤1000+i)→∃zs,upd Hb g.ap (.lst (xs++[V.int 0])) y=some (.lst zs)∧zs.length≤1000+(i+1):=fun y ⟨zs,ez,zl⟩=>by
         by_cases c:y=g.ap
         ·rw[c];exact⟨_,z0b,by rw[q0x,q0I];lia⟩
         ·exact⟨zs,by rw[z0h c];exact ez,by lia⟩
     exact⟨one _ (sm g' hg').1,one _ (sm g' hg').2⟩
   clear kb sm ex ey
   rintro σ Hc ⟨rfl,kb,sm⟩
   obtain⟨_,⟨ys,ey,yl⟩⟩:=sm g hgm
   refine⟨_,rfl,.inl ⟨rfl,_,SqL.of ey⟩,g.ar,_,rfl,rfl,ey,?_⟩
   refine⟨_,_,_,rfl,fun c o hc e=>?_,fun g' hg'=>?_⟩
   ·rw[z0h (hc g hgm).2];exact kb c o hc e
   ·have one:∀y,(∃xs,Hc y=some (.lst xs)∧xs.length≤1000+(i+1))→∃zs,upd Hc g.ar (.lst []) y=some (.lst zs)∧zs.length≤1000+(i+1):=fun y ⟨zs,ez,zl⟩=>by
     by_cases c:y=g.ar
     ·rw[c];exact⟨_,z0b,q0A _⟩
     ·exact⟨zs,by rw[z0h c];exact ez,zl⟩
    exact⟨one _ (sm g' hg').1,one _ (sm g' hg').2⟩
  ·rintro σ Ha ⟨s9,s10,s11,rfl,kb,_⟩
   exact hN _ _ ⟨_,_,_,rfl,kb⟩
 rintro σ H10 ⟨s9',s10',s11',rfl,k10⟩
 refine z0o (fun σ H'=>σ=[some (.ref a),some (.ref l),some (.int (m:Nat)),some (.ref lf),some (.ref lh),some (.ref r),some (.ref d),some (.ref lo),s8,s9',s10',s11',s12,some (.ref lk),none]∧H' lf=some (.lst (as.map V.ref))∧H' lh=some (.lst (as.map V.ref))∧TsA H' as ws∧y0h Pt H'∧H' lk=some (.lst (ks.map fun k=>V.ref k.a))∧∀k∈ks,RungAt H' k) (fun N hN=>?_) ?_
 ·have er:=k10 _ _ nr W9.fl
  refine⟨_,rfl,.inl ⟨rfl,_,SqL.of er⟩,r,_,rfl,rfl,er,hN _ _ ⟨rfl,?_⟩⟩
  have nlr:∀c,H8 c=none→c≠r:=fun c hc z=>by rw[z,W8.fl] at hc;cases hc
  have up:∀c o,c≠r→(∀g∈rs,c≠g.ap∧c≠g.ar)→H9 c=some o→upd H10 r (.lst []) c=some o:=fun c o h1 h2 e=>by rw[z0h h1];exact k10 c o h2 e
  have upn:∀c o,(∀ys,o≠ .lst ys)→H9 c=some o→upd H10 r (.lst []) c=some o:=fun c o ho e=>up c o (fun z=>by rw[z,W9.fl] at e;exact ho _ (Option.some.inj e).symm) (fun g hg=>nt g hg c o e ho) e
  have upt:∀c ys,H9 c=some (.tup ys)→upd H10 r (.lst []) c=some (.tup ys):=fun c ys e=>upn c _ (fun _ z=>nomatch z) e
  have upo:∀c o,H8 c=none→H9 c=some o→upd H10 r (.lst []) c=some o:=fun c o h e=>up c o (nlr c h) (fun g hg=>old g hg c h) e
  obtain⟨c',t1,t2⟩:=W9.tb
  refine⟨up _ _ nrf.symm (fun g hg=>⟨(hne g hg).1.symm,(hne g hg).2.2.1.symm⟩) W9.l1,up _ _ nrh.symm (fun g hg=>⟨(hne g hg).2.1.symm,(hne g hg).2.2.2.symm⟩) W9.l2,⟨W9.t.1,fun i a t e1 e2=>upt _ _ (W9.t.2 i a t e1 e2)⟩,⟨c',upn _ _ (fun _ z=>nomatch z) t1,upn _ _ (fun _ z=>nomatch z) t2⟩,upo _ _ hlk elk,fun k hk=>?_⟩
  obtain⟨k1,k2,k3⟩:=hks k hk
  exact k1.mv (fun ys e=>upo _ _ k2 e) (fun ys e=>upo _ _ k3 e) upt
 rintro σ H11 ⟨rfl,elf,elh,hts,t11,elk11,hks11⟩
 have tab11:TabL Pt H11:=t11.ok
 refine z0o (fun σ H'=>σ=[some (.ref a),some (.ref l),some (.int (m:Nat)),some (.ref lf),some (.ref lh),some (.ref r),some (.ref d),some (.ref lo),s8,s9',s10',s11',s12,some (.ref lk),none]∧H' lf=some (.lst (as.map V.ref))∧H' lh=some (.lst (as.map V.ref))∧TsA H' as ws) (fun N hN=>?_) ?_
 ·refine⟨_,rfl,_,rfl,_,lh,as,ws,m,64,rfl,elh,hts,w6,m4,m5,by decide,zw,tab11,fun r2 rs2 L2 H12 hr2 g12 t12 er2 hrs2 hPI2 p1 p2 p3 p4=>?_⟩
  have hG2:RgI m (bnJ 64) ws rs2:=⟨fun g hg=>(hrs2 g hg).2.2.2,⟨L2,hPI2,p1⟩,p2,p3,p4⟩
  have upl:∀c ys,H11 c=some (.lst ys)→H12 c=some (.lst ys):=fun c ys e=>g12 _ _ (tab11.lst e) e
  have upt:∀c ys,H11 c=some (.tup ys)→H12 c=some (.tup ys):=fun c ys e=>g12 _ _ (tab11.tup e) e
  refine⟨_,rfl,r2,lk,_,_,rfl,rfl,.l (SqL.of er2) (z3C fun g hg=>(hrs2 g hg).1),.l (SqL.of (upl _ _ elk11)) (z3C fun k hk=>(hks11 k hk).mv (fun ys e=>upl _ _ e) (fun ys e=>upl _ _ e) upt),oksM (f:=fun g:Rung=>dtR g.us (g.pl,g.s)) (fun x y=>y3C _ _ _ _) rs2 ks,_,rfl,?_⟩
  rw[hkd,hG.again hw hE hG2]
  rw[show Dt.eqb (.l (rs2.map fun g=>dtR g.us (g.pl,g.s))) (.l (rs2.map fun g=>dtR g.us (g.pl,g.s)))=true from (Dt.eqb_iff _ _).mpr rfl]
  refine z1X ?_
  exact hN _ _ ⟨rfl,upl _ _ elf,upl _ _ elh,hts.1,fun i a t e1 e2=>upt _ _ (hts.2 i a t e1 e2)⟩
 clear elf elh hts t11 elk11 hks11 tab11
 rintro σ H12 ⟨rfl,elf,elh,hts⟩
 refine z0o (fun σ H'=>∃s14,σ=[some (.ref a),some (.ref l),some (.int (m:Nat)),some (.ref lf),some (.ref lh),some (.ref r),some (.ref d),some (.ref lo),s8,s9',s10',s11',s12,some (.ref lk),s14]) (fun N hN=>?_) ?_
 ·refine⟨_,rfl,lf,_,rfl,.inl (SqL.of elf),?_⟩
  refine⟨_,rfl,by rw[q0a,hts.1];lia,by rw[q0a,hts.1];lia,?_⟩
  rw[q0a,hts.1,q0G]
  refine z0D (z0R 0 ws.length) (fun i σ H'=>∃s14,σ=[some (.ref a),some (.ref l),some (.int (m:Nat)),some (.ref lf),some (.ref lh),some (.ref r),some (.ref d),some (.ref lo),s8,s9',s10',s11',s12,some (.ref lk),s14]∧Same H12 H') ⟨_,rfl,Same.refl _⟩ (fun _ _ _ _ _=>trivial) ?_ ?_
  ·rintro i x σ Ha Hb hi ⟨s14,rfl,gb⟩ ⟨rfl,rfl⟩
   rw[Int.zero_add]
   have ti:ws[i]? =some ws[i]:=q0b hi
   have tg:ws.getD i []=ws[i]:=by rw[q0c,ti];rfl
   have tm:=q0F hi
   have hia:i<as.length:=by rw[hts.1];exact hi
   have ai:as[i]? =some as[i]:=q0b hia
   have eai:=gb _ _ (hts.2 i _ _ ai ti)
   generalize ws[i]=u at ti tg tm eai
   generalize as[i]=ai' at ai eai
   have hat:atI (as.map V.ref) (i:Int)=some (.ref ai'):=z1i (by rw[q0j,ai];rfl)
   obtain⟨_,_,hRu⟩:=z8q (hwl u tm)
   refine⟨_,rfl,_,rfl,_,rfl,z0l (by show 1≤_;decide),fun z hz0=>?_⟩
   have g1:=z0d hz0 (.lst [V.int (i:Nat)])
   have e1:upd Hb z (.lst [V.int (i:Nat)]) z=some (.lst (([i].map fun k=>((k:Nat):Int)).map V.int)):=z0b
   generalize upd Hb z (.lst [V.int (i:Nat)])=Hc at*
   have gc:=gb.trans g1
   refine⟨lh,z,as,ws,[i],m,64,rfl,gc _ _ elh,hts.same gc,e1,fun k hk=>(by rw[q0g.mp hk];exact hi),m4,by decide,zw,fun r3 bs3 us3 Hd hr3 gd er3 hts3 hR3 _ hI3=>?_,fun Hd gd ho=>?_⟩
   ·have eu:us3=[u]:=hR3.one hRu (by rw[hI3,q1y,tg])
    subst eu
    have gcd:=gc.trans gd
    refine⟨_,rfl,_,rfl,lf,_,_,_,rfl,rfl,SqL.of (gcd _ _ elf),hat,z0l (by show 1≤_;decide),fun y hy=>?_⟩
    have g2:=z0d hy (.lst [V.ref ai'])
    have e2:upd Hd y (.lst [V.ref ai']) y=some (.lst ([ai'].map V.ref)):=z0b
    generalize upd Hd y (.lst [V.ref ai'])=He at*
    have eae:=(g1.trans (gd.trans g2)) _ _ eai
    have hT1:TsA He [ai'] [u]:=TsA.snoc (as:=[]) (ts:=[]) TsA.nil eae
    refine⟨r3,y,.l ([u].map dtT),.l ([u].map dtT),rfl,rfl,z2p (g2 _ _ er3) (hts3.same g2),z2p e2 hT1,z5n _ _,_,rfl,?_⟩
    rw[show Dt.eqb (.l ([u].map dtT)) (.l ([u].map dtT))=true from (Dt.eqb_iff _ _).mpr rfl]
    refine z1X ?_
    exact⟨_,rfl,gcd.trans g2⟩
   ·exfalso
    rw[q1y,tg] at ho
    exact hRu.noff rfl ho
  ·rintro σ Ha ⟨s14,rfl,_⟩
   exact hN _ _ ⟨_,rfl⟩
 rintro σ Hz ⟨s14,rfl⟩
 exact q _
end
end L2
namespace L2
open PySem PySem.Spec PyProof.Rows
theorem ln1 {α:Type}{C:List α→Prop} (h:∀x0,C [x0]) (us:List α) (hl:us.length=1):C us:=by
 rcases us with _|⟨x0,_|⟨y,us⟩⟩<;>first|exact h _|simp at hl
theorem ln2 {α:Type}{C:List α→Prop} (h:∀x0 x1,C [x0,x1]) (us:List α) (hl:us.length=2):C us:=by
 rcases us with _|⟨x0,_|⟨x1,_|⟨y,us⟩⟩⟩<;>first|exact h _ _|simp at hl
theorem ln3 {α:Type}{C:List α→Prop} (h:∀x0 x1 x2,C [x0,x1,x2]) (us:List α) (hl:us.length=3):C us:=by
 rcases us with _|⟨x0,_|⟨x1,_|⟨x2,_|⟨y,us⟩⟩⟩⟩<;>first|exact h _ _ _|simp at hl
theorem ln4 {α:Type}{C:List α→Prop} (h:∀x0 x1 x2 x3,C [x0,x1,x2,x3]) (us:List α) (hl:us.length=4):C us:=by
 rcases us with _|⟨x0,_|⟨x1,_|⟨x2,_|⟨x3,_|⟨y,us⟩⟩⟩⟩⟩<;>first|exact h _ _ _ _|simp at hl
def Lk (K:PySem.W.Frag) (x:Str) (st:Stmt):Prop:=∃(f:Addr) (fd:FuncData),Fun K x x st f fd∧PySem.W.keepIn K (.ref f)=true∧PySem.W.nsIn K mainGlobals x=some (some (.ref f))
theorem lk {K:PySem.W.Frag}{x:Str}{st:Stmt}{f:Addr}{oc:Value}{od an:Option Addr}{osl:Array (Option Value)}{kV doc pm cdv ct:Value} (a:PySem.W.nsIn K mainGlobals x=some (some (.ref f))) (l:K.lookup f=some ⟨oc,od,.func (PySem.W.fnOf x x (z1P st) (z1u st) (z0n st) .none kV doc pm an cdv ct),osl⟩) (c:PySem.W.codeIn K cdv x=true) (k:PySem.W.keepIn K (.ref f)=true):Lk K x st:=⟨f,_,z9Q l c k,k,a⟩
theorem all_mk {l:PySem.W.OpenLaw}{w:World}{K:PySem.W.Frag}{h:Heap}{mg:Str→Option Value}{fa cL Pt:Addr} (X:K.In h) (G:h.Ns mainGlobals mg) (hfa:mg "law"=some (.ref fa))
 (h1:Lk K "divisor" z3o)
 (h2:Lk K "divisor_of_all" z1f)
 (h3:Lk K "wall" z8I)
 (h4:Lk K "first_place" z1A)
 (h5:Lk K "cleared" z3p)
 (h6:Lk K "rest_by" z3h)
 (h7:Lk K "joined" z4w)
 (h8:Lk K "common" z4x)
 (h9:Lk K "all_parts" z2d)
 (h10:Lk K "holders" z3n)
 (h11:Lk K "among" z5Y)
 (h12:Lk K "next_sign" z2a)
 {od13 an13:Option Addr}{sl13:Array (Option Value)}{oc13 kV13 dc13 pm13 cd13 ct13:Value}{f13:Addr}
 (a13:PySem.W.nsIn K mainGlobals "ladder"=some (some (.ref f13))) (l13:K.lookup f13=some ⟨oc13,od13,.func (PySem.W.fnOf "ladder" "ladder" (z1P z1T) (z1u z1T) (z0n z1T) .none kV13 dc13 pm13 an13 cd13 ct13),sl13⟩) (c13:PySem.W.codeIn K cd13 "ladder"=true) (k13:PySem.W.keepIn K (.ref f13)=true)
 (h14:Lk K "_law_whole" z3i)
 (h15:Lk K "_law_divisor" z2c)
 (h16:Lk K "_law_mix" z5X)
 (h17:Lk K "_law_draws" z3m)
 (h18:Lk K "_law_plain" z3j)
 (h19:Lk K "_law_row" z5W)
 (h20:Lk K "_law_fences" z2w)
 (h21:Lk K "_law_struck" z2v)
 (h22:Lk K "_law_reduced" z2b)
 (h23:Lk K "_law_lots" z4v)
 (h24:Lk K "_law_parts" z3k)
 (h25:Lk K "_law_within" z2u)
 (h26:Lk K "_law_kinds" z3l)
 {od27 an27:Option Addr}{sl27:Array (Option Value)}{oc27 kV27 dc27 pm27 cd27 ct27:Value}{f27:Addr}
 (a27:PySem.W.nsIn K mainGlobals "law"=some (some (.ref f27))) (l27:K.lookup f27=some ⟨oc27,od27,.func (PySem.W.fnOf "law" "law" (z1P z4u) (z1u z4u) (z0n z4u) .none kV27 dc27 pm27 an27 cd27 ct27),sl27⟩) (c27:PySem.W.codeIn K cd27 "law"=true) (k27:PySem.W.keepIn K (.ref f27)=true)
 (z1:PySem.W.nsIn K mainGlobals "abs"=some none)
 (z2:PySem.W.nsIn K mainGlobals "len"=some none)
 (z3:PySem.W.nsIn K mainGlobals "isinstance"=some none)
 (z4:PySem.W.nsIn K mainGlobals "int"=some none)
 (z5:PySem.W.nsIn K mainGlobals "bool"=some none)
 (z6:PySem.W.nsIn K mainGlobals "tuple"=some none)
 (z7:PySem.W.nsIn K mainGlobals "list"=some none)
 (z8:PySem.W.nsIn K mainGlobals "any"=some none)
 (z9:PySem.W.nsIn K mainGlobals "min"=some none)
 (z10:PySem.W.nsIn K mainGlobals "max"=some none)
 (z11:PySem.W.nsIn K mainGlobals "range"=some none)
 (z12:PySem.W.nsIn K mainGlobals "enumerate"=some none)
 (z13:PySem.W.nsIn K mainGlobals "zip"=some none)
 (z14:PySem.W.nsIn K mainGlobals "sorted"=some none)
 (z15:PySem.W.nsIn K mainGlobals "sum"=some none)
 (hcd:cd13=Value.ref cL)
 :∃fd:FuncData,(∀(s:Shared) (v:Value),BindsTo s fd ⟨[v],[]⟩ [("_law_script",v)])∧∀base:Heap,K.In base→base.Ns mainGlobals mg→Lam.BmAt mg base→PySem.W.CodeHd base cL Pt→FnOk l.prog w K mg base CX0 23 fa fd ["_law_script"] (y0s K Pt):=by
 have e:=hfa.symm.trans (q0H X G a27)
 cases e
 have T:Txt mg:=⟨q0R X G z1,q0R X G z2,q0R X G z3,q0R X G z4,q0R X G z5,q0R X G z6,q0R X G z7,q0R X G z8,q0R X G z9,q0R X G z10,q0R X G z11,q0R X G z12,q0R X G z13,q0R X G z14,q0R X G z15⟩
 obtain⟨_,_,F1,k1,a1⟩:=h1
 have b1:=F1.binds (ps:=["one","other"]) fun _ _ _ _ _ _=>ln2 fun _ _=>rfl
 obtain⟨_,_,F2,k2,a2⟩:=h2
 have b2:=F2.binds (ps:=["numbers"]) fun _ _ _ _ _ _=>ln1 fun _=>rfl
 obtain⟨_,_,F3,k3,a3⟩:=h3
 have b3:=F3.binds (ps:=["numbers"]) fun _ _ _ _ _ _=>ln1 fun _=>rfl
 obtain⟨_,_,F4,k4,a4⟩:=h4
 have b4:=F4.binds (ps:=["row"]) fun _ _ _ _ _ _=>ln1 fun _=>rfl
 obtain⟨_,_,F5,k5,a5⟩:=h5
 have b5:=F5.binds (ps:=["numbers","row"]) fun _ _ _ _ _ _=>ln2 fun _ _=>rfl
 obtain⟨_,_,F6,k6,a6⟩:=h6
 have b6:=F6.binds (ps:=["rows","numbers"]) fun _ _ _ _ _ _=>ln2 fun _ _=>rfl
 obtain⟨_,_,F7,k7,a7⟩:=h7
 have b7:=F7.binds (ps:=["rows","numbers"]) fun _ _ _ _ _ _=>ln2 fun _ _=>rfl
 obtain⟨_,_,F8,k8,a8⟩:=h8
 have b8:=F8.binds (ps:=["ways","walls","lot"]) fun _ _ _ _ _ _=>ln3 fun _ _ _=>rfl
 obtain⟨_,_,F9,k9,a9⟩:=h9
 have b9:=F9.binds (ps:=["walls"]) fun _ _ _ _ _ _=>ln1 fun _=>rfl
 obtain⟨_,_,F10,k10,a10⟩:=h10
 have b10:=F10.binds (ps:=["walls","rows"]) fun _ _ _ _ _ _=>ln2 fun _ _=>rfl
 obtain⟨_,_,F11,k11,a11⟩:=h11
 have b11:=F11.binds (ps:=["places","others"]) fun _ _ _ _ _ _=>ln2 fun _ _=>rfl
 obtain⟨_,_,F12,k12,a12⟩:=h12
 have b12:=F12.binds (ps:=["rungs","places"]) fun _ _ _ _ _ _=>ln2 fun _ _=>rfl
 have F13:=z9Q (st:=z1T) l13 c13 k13
 have b13:=F13.binds (ps:=["ways","walls"]) fun _ _ _ _ _ _=>ln2 fun _ _=>rfl
 obtain⟨_,_,F14,k14,a14⟩:=h14
 have b14:=F14.binds (ps:=["_law_found"]) fun _ _ _ _ _ _=>ln1 fun _=>rfl
 obtain⟨_,_,F15,k15,a15⟩:=h15
 have b15:=F15.binds (ps:=["_law_one","_law_other"]) fun _ _ _ _ _ _=>ln2 fun _ _=>rfl
 obtain⟨_,_,F16,k16,a16⟩:=h16
 have b16:=F16.binds (ps:=["_law_script","_law_k"]) fun _ _ _ _ _ _=>ln2 fun _ _=>rfl
 obtain⟨_,_,F17,k17,a17⟩:=h17
 have b17:=F17.binds (ps:=["_law_script"]) fun _ _ _ _ _ _=>ln1 fun _=>rfl
 obtain⟨_,_,F18,k18,a18⟩:=h18
 have b18:=F18.binds (ps:=["_law_row_here"]) fun _ _ _ _ _ _=>ln1 fun _=>rfl
 obtain⟨_,_,F19,k19,a19⟩:=h19
 have b19:=F19.binds (ps:=["_law_draws_here","_law_ways","_law_k","_law_way"]) fun _ _ _ _ _ _=>ln4 fun _ _ _ _=>rfl
 obtain⟨_,_,F20,k20,a20⟩:=h20
 have b20:=F20.binds (ps:=["_law_draws_here","_law_most"]) fun _ _ _ _ _ _=>ln2 fun _ _=>rfl
 obtain⟨_,_,F21,k21,a21⟩:=h21
 have b21:=F21.binds (ps:=["_law_rows","_law_k","_law_head"]) fun _ _ _ _ _ _=>ln3 fun _ _ _=>rfl
 obtain⟨_,_,F22,k22,a22⟩:=h22
 have b22:=F22.binds (ps:=["_law_ways","_law_rows"]) fun _ _ _ _ _ _=>ln2 fun _ _=>rfl
 obtain⟨_,_,F23,k23,a23⟩:=h23
 have b23:=F23.binds (ps:=["_law_many"]) fun _ _ _ _ _ _=>ln1 fun _=>rfl
 obtain⟨_,_,F24,k24,a24⟩:=h24
 have b24:=F24.binds (ps:=["_law_ways","_law_fences_here"]) fun _ _ _ _ _ _=>ln2 fun _ _=>rfl
 obtain⟨_,_,F25,k25,a25⟩:=h25
 have b25:=F25.binds (ps:=["_law_some","_law_others"]) fun _ _ _ _ _ _=>ln2 fun _ _=>rfl
 obtain⟨_,_,F26,k26,a26⟩:=h26
 have b26:=F26.binds (ps:=["_law_found"]) fun _ _ _ _ _ _=>ln1 fun _=>rfl
 have F27:=z9Q (st:=z4u) l27 c27 k27
 refine⟨PySem.W.fnOf "law" "law" (z1P z4u) (z1u z4u) (z0n z4u) .none kV27 dc27 pm27 an27 cd27 ct27,fun s v=> .of_eq rfl,fun base _ _ hBm hCd=>?_⟩
 have C1:Cal l.prog w K mg base 1 "divisor" _ _:=⟨_,_,z7R T F1,b1,k1,q0H X G a1⟩
 have C2:Cal l.prog w K mg base 2 "divisor_of_all" _ _:=⟨_,_,z2z T F2 (C1.mono (by decide)),b2,k2,q0H X G a2⟩
 have C3:Cal l.prog w K mg base 3 "wall" _ _:=⟨_,_,y2s T F3 (C2.mono (by decide)),b3,k3,q0H X G a3⟩
 have C4:Cal l.prog w K mg base 1 "first_place" _ _:=⟨_,_,z3P T F4,b4,k4,q0H X G a4⟩
 have C5:Cal l.prog w K mg base 2 "cleared" _ _:=⟨_,_,z7S T F5 (C4.mono (by decide)) (C1.mono (by decide)),b5,k5,q0H X G a5⟩
 have C6:Cal l.prog w K mg base 3 "rest_by" _ _:=⟨_,_,z7K T F6 (C5.mono (by decide)),b6,k6,q0H X G a6⟩
 have C7:Cal l.prog w K mg base 5 "joined" _ _:=⟨_,_,z9j T F7 (C6.mono (by decide)) (C3.mono (by decide)) (C5.mono (by decide)) (C4.mono (by decide)),b7,k7,q0H X G a7⟩
 have C8:Cal l.prog w K mg base 6 "common" _ _:=⟨_,_,z9k T F8 (C7.mono (by decide)),b8,k8,q0H X G a8⟩
 have C9:Cal l.prog w K mg base 6 "all_parts" _ _:=⟨_,_,z5r T F9 (C7.mono (by decide)),b9,k9,q0H X G a9⟩
 have C10:Cal l.prog w K mg base 6 "holders" _ _:=⟨_,_,z7Q T F10 (C6.mono (by decide)),b10,k10,q0H X G a10⟩
 have C11:Cal l.prog w K mg base 1 "among" _ _:=⟨_,_,y0U T F11,b11,k11,q0H X G a11⟩
 have C12:Cal l.prog w K mg base 3 "next_sign" _ _:=⟨_,_,z5o T F12 (C11.mono (by decide)),b12,k12,q0H X G a12⟩
 have C13:Cal l.prog w K mg base 9 "ladder" _ _:=⟨_,_,z9h T F13 hcd hCd hBm (C9.mono (by decide)) (C10.mono (by decide)) (C12.mono (by decide)),b13,k13,q0H X G a13⟩
 have C14:Cal l.prog w K mg base 1 "_law_whole" _ _:=⟨_,_,z7L T F14,b14,k14,q0H X G a14⟩
 have C15:Cal l.prog w K mg base 1 "_law_divisor" _ _:=⟨_,_,z5q T F15,b15,k15,q0H X G a15⟩
 have C16:Cal l.prog w K mg base 1 "_law_mix" _ _:=⟨_,_,y0T T F16,b16,k16,q0H X G a16⟩
 have C17:Cal l.prog w K mg base 2 "_law_draws" _ _:=⟨_,_,z7P T F17 (C16.mono (by decide)),b17,k17,q0H X G a17⟩
 have C18:Cal l.prog w K mg base 2 "_law_plain" _ _:=⟨_,_,z7M T F18 (C15.mono (by decide)),b18,k18,q0H X G a18⟩
 have C19:Cal l.prog w K mg base 3 "_law_row" _ _:=⟨_,_,y0S T F19 (C18.mono (by decide)),b19,k19,q0H X G a19⟩
 have C20:Cal l.prog w K mg base 4 "_law_fences" _ _:=⟨_,_,z6h T F20 (C19.mono (by decide)),b20,k20,q0H X G a20⟩
 have C21:Cal l.prog w K mg base 1 "_law_struck" _ _:=⟨_,_,z6g T F21,b21,k21,q0H X G a21⟩
 have C22:Cal l.prog w K mg base 3 "_law_reduced" _ _:=⟨_,_,z5p T F22 (C21.mono (by decide)) (C18.mono (by decide)),b22,k22,q0H X G a22⟩
 have C23:Cal l.prog w K mg base 1 "_law_lots" _ _:=⟨_,_,z9i T F23,b23,k23,q0H X G a23⟩
 have C24:Cal l.prog w K mg base 5 "_law_parts" _ _:=⟨_,_,z7N T F24 (C23.mono (by decide)) (C22.mono (by decide)),b24,k24,q0H X G a24⟩
 have C25:Cal l.prog w K mg base 1 "_law_within" _ _:=⟨_,_,z6f T F25,b25,k25,q0H X G a25⟩
 have C26:Cal l.prog w K mg base 2 "_law_kinds" _ _:=⟨_,_,z7O T F26 (C14.mono (by decide)),b26,k26,q0H X G a26⟩
 exact y3B T F27 (C17.mono (by decide)) (C20.mono (by decide)) (C13.mono (by decide)) (C26.mono (by decide)) (C24.mono (by decide)) (C25.mono (by decide)) (C8.mono (by decide))
theorem walk {l:PySem.W.OpenLaw}{q:Program}{loose:List Str}{XP:(Str→Option Value)→Heap→Prop}{YP:World→Heap→Prop}{d:DefRec}{K:Params→PySem.W.Frag} (cL Pt:Addr) (hn:l.most=some 63) (hdf:d.params.defaults=[])
 (hY:∀(w:World) (h:Heap),YP w h→(K w.params).In h) (hT:∀(w:World) (h:Heap),YP w h→h.get? Pt=some (PySem.W.tabObj #[])) (hC:∀w:World,PySem.W.codeHdIn (K w.params) cL Pt=true) (hKt:∀w:World,(K w.params).lookup Pt=none)
 (F:∀(w:World) (mg:Str→Option Value) (fa:Addr) (h:Heap),(K w.params).In h→h.Ns mainGlobals mg→mg d.name=some (.ref fa)→
  ∃fd:FuncData,(∀(s:Shared) (u:Value),BindsTo s fd ⟨[u],[]⟩ [("_law_script",u)])∧∀base:Heap,(K w.params).In base→base.Ns mainGlobals mg→Lam.BmAt mg base→PySem.W.CodeHd base cL Pt→FnOk l.prog w (K w.params) mg base CX0 23 fa fd ["_law_script"] (y0s (K w.params) Pt)):
 PySem.W.WalkO q loose XP YP l.row.toRowW d [] (fun f vs=>PySem.call f vs):=
 L2.Lam.walk_ofT (n:=63) (k:=23) (x:="_law_script") (c:=cL) (Pt:=Pt) (CX:=fun _=>CX0) (sp:=fun w=>y0s (K w.params) Pt) hn (by decide) hdf ⟨rfl,by decide,by decide⟩ hY hT hC hKt F (fun _ _ a ns hl hP hS=>⟨a,ns,rfl,hS,hl,hP,fun _=>rfl⟩) fun _ _ _ _ _ z=>z
end L2
open PySem PySem.W PyProof.Rows
theorem PySem.W.Fast.tw4020244953626344769 : True := trivial
theorem PySem.W.Fast.tw2677128680975993122 : True := trivial
theorem PySem.W.Fast.tw16689406404186077735 : True := trivial
theorem PySem.W.Fast.tw5843044228086287784 : True := trivial
theorem PySem.W.Fast.tw1677442203692705320 : True := trivial
theorem PySem.W.Fast.tw3660643571605337674 : True := trivial
theorem PySem.W.Fast.tw5021446091542287082 : True := trivial
theorem PySem.W.Fast.tw6177558818665112621 : True := trivial
theorem PySem.W.Fast.tw5374481119927004560 : True := trivial
theorem PySem.W.Fast.tw4303485986914110609 : True := trivial
theorem PySem.W.Fast.tw5252348436165689138 : True := trivial
theorem PySem.W.Fast.tw7320211751690735956 : True := trivial
theorem PySem.W.Fast.tw3848320548223555672 : True := trivial
theorem PySem.W.Fast.tw11001227475718161062 : True := trivial
set_option maxRecDepth 100000 in
set_option maxHeartbeats 0 in
theorem PySem.Challenge.cw_wallspace_k21_whole_ladder_holds : PySem.Challenge.rw_wallspace_k21_whole_ladder.Holds := by
  w_on; o_law; k_head; (case hw => w_witness2)
  k_fill
  refine' L2.walk (l := PySem.Challenge.rw_wallspace_k21_whole_ladder) ?cL ?Pt rfl rfl (fun w h Y => PySem.W.km_in_of Y) (fun w h Y => PySem.W.km_tabs_of Y _ (List.Mem.head _)) ?codeIs ?tabOut ?F
  case F =>
    intro w mg fa h KX G hmg
    refine' L2.all_mk KX G hmg ?h1 ?h2 ?h3 ?h4 ?h5 ?h6 ?h7 ?h8 ?h9 ?h10 ?h11 ?h12 ?a13 ?l13 ?c13 ?k13 ?h14 ?h15 ?h16 ?h17 ?h18 ?h19 ?h20 ?h21 ?h22 ?h23 ?h24 ?h25 ?h26 ?a27 ?l27 ?c27 ?k27 ?z1 ?z2 ?z3 ?z4 ?z5 ?z6 ?z7 ?z8 ?z9 ?z10 ?z11 ?z12 ?z13 ?z14 ?z15 ?hcd
    (case h1 => exact L2.lk (by k_is) (by k_is) (by k_is) (by k_is))
    (case h2 => exact L2.lk (by k_is) (by k_is) (by k_is) (by k_is))
    (case h3 => exact L2.lk (by k_is) (by k_is) (by k_is) (by k_is))
    (case h4 => exact L2.lk (by k_is) (by k_is) (by k_is) (by k_is))
    (case h5 => exact L2.lk (by k_is) (by k_is) (by k_is) (by k_is))
    (case h6 => exact L2.lk (by k_is) (by k_is) (by k_is) (by k_is))
    (case h7 => exact L2.lk (by k_is) (by k_is) (by k_is) (by k_is))
    (case h8 => exact L2.lk (by k_is) (by k_is) (by k_is) (by k_is))
    (case h9 => exact L2.lk (by k_is) (by k_is) (by k_is) (by k_is))
    (case h10 => exact L2.lk (by k_is) (by k_is) (by k_is) (by k_is))
    (case h11 => exact L2.lk (by k_is) (by k_is) (by k_is) (by k_is))
    (case h12 => exact L2.lk (by k_is) (by k_is) (by k_is) (by k_is))
    (case a13 => k_is)
    (case l13 => k_is)
    (case c13 => k_is)
    (case k13 => k_is)
    (case h14 => exact L2.lk (by k_is) (by k_is) (by k_is) (by k_is))
    (case h15 => exact L2.lk (by k_is) (by k_is) (by k_is) (by k_is))
    (case h16 => exact L2.lk (by k_is) (by k_is) (by k_is) (by k_is))
    (case h17 => exact L2.lk (by k_is) (by k_is) (by k_is) (by k_is))
    (case h18 => exact L2.lk (by k_is) (by k_is) (by k_is) (by k_is))
    (case h19 => exact L2.lk (by k_is) (by k_is) (by k_is) (by k_is))
    (case h20 => exact L2.lk (by k_is) (by k_is) (by k_is) (by k_is))
    (case h21 => exact L2.lk (by k_is) (by k_is) (by k_is) (by k_is))
    (case h22 => exact L2.lk (by k_is) (by k_is) (by k_is) (by k_is))
    (case h23 => exact L2.lk (by k_is) (by k_is) (by k_is) (by k_is))
    (case h24 => exact L2.lk (by k_is) (by k_is) (by k_is) (by k_is))
    (case h25 => exact L2.lk (by k_is) (by k_is) (by k_is) (by k_is))
    (case h26 => exact L2.lk (by k_is) (by k_is) (by k_is) (by k_is))
    (case a27 => k_is)
    (case l27 => k_is)
    (case c27 => k_is)
    (case k27 => k_is)
    (case z1 => k_is)
    (case z2 => k_is)
    (case z3 => k_is)
    (case z4 => k_is)
    (case z5 => k_is)
    (case z6 => k_is)
    (case z7 => k_is)
    (case z8 => k_is)
    (case z9 => k_is)
    (case z10 => k_is)
    (case z11 => k_is)
    (case z12 => k_is)
    (case z13 => k_is)
    (case z14 => k_is)
    (case z15 => k_is)
    (case hcd => rfl)
  case codeIs => exact fun w => by kernel_rfl
  case tabOut => exact fun w => by kernel_rfl
