import PyProof.Rows.All
import Wide.All
import OpenK.AllK
import Wide.FinOn
import Lean
import PyProof.EqAt
import PyProof.EqKinds
import PyProof.TupleCall
import PySem.Challenge.RW_wallspace_k41_whole_lands
set_option Elab.async false
set_option linter.all false
set_option maxRecDepth 100000
section
open PySem PySem.Spec PyProof.Rows
abbrev q0a:=@List.getD_eq_getElem?_getD
abbrev q0b:=@List.length_map
abbrev q0c:=@List.getElem?_eq_getElem
abbrev q0d:=@Heap.get?_push_of_some
abbrev q0e:=@Nat.le_refl
abbrev q0f:=@List.mem_map
abbrev q0g:=@List.mem_singleton
abbrev q0h:=@List.size_toArray
abbrev q0i:=@List.mem_cons_of_mem
abbrev q0j:=@List.mem_cons_self
abbrev q0k:=@List.getElem?_map
abbrev q0l:=@List.mem_cons
abbrev q0m:=@List.length_append
abbrev q0n:=@List.length_take
abbrev q0o:=@Nat.le_trans
abbrev q0p:=@Heap.lt_size
abbrev q0q:=@Heap.get?_push_size
abbrev q0r:=@Nat.ne_of_lt
abbrev q0s:=@List.mem_append
abbrev q0t:=@List.map_cons
abbrev q0u:=@List.mem_of_getElem?
abbrev q0v:=@List.mem_iff_getElem
abbrev q0w:=@Decidable.byContradiction
abbrev q0x:=@PySem.W.mg_of
abbrev q0y:=@List.getElem_mem
abbrev q0z:=@List.mem_map_of_mem
abbrev q0A:=@Option.map_eq_some_iff
abbrev q0B:=@Bool.false_ne_true
abbrev q0C:=@List.mem_append_left
abbrev q0D:=@List.getElem?_append_right
abbrev q0E:=@List.getElem?_eq_some_iff
abbrev q0F:=@Array.getElem?_eq_getElem
abbrev q0G:=@Int.toNat_natCast
abbrev q0H:=@List.map_append
abbrev q0I:=@List.mem_append_right
abbrev q0J:=@List.length_cons
abbrev q0K:=@Nat.lt_of_lt_of_le
abbrev q0L:=@PySem.W.mg_none_of
abbrev q0M:=@List.map_map
abbrev q0N:=@List.getElem?_append_left
abbrev q0O:=@List.filter_cons_of_pos
abbrev q0P:=@Array.getElem?_eq_some_iff
abbrev q0Q:=@List.take_add_one
abbrev q0R:=@List.take_length
abbrev q0S:=@Nat.zero_le
abbrev q0T:=@Int.mul_zero
abbrev q0U:=@List.filter_cons_of_neg
abbrev q0V:=@Nat.lt_succ_of_lt
abbrev q0W:=@List.dropLast_concat_getLast
abbrev q0X:=@List.replicate_succ
abbrev q0Y:=@List.getElem?_zip_eq_some
abbrev q0Z:=@List.pairwise_map
abbrev q1a:=@List.mem_filter
abbrev q1b:=@Array.getD_eq_getD_getElem?
abbrev q1c:=@List.filter_append
abbrev q1d:=@Array.length_toList
abbrev q1e:=@List.length_zip
abbrev q1f:=@List.pairwise_iff_getElem
abbrev q1g:=@Int.mul_ne_zero
abbrev q1h:=@List.getElem_map
abbrev q1i:=@Bool.and_eq_true
abbrev q1j:=@List.length_eq_zero_iff
abbrev q1k:=@List.not_mem_nil
abbrev q1l:=@List.map_congr_left
abbrev q1m:=@List.length_singleton
abbrev q1n:=@List.length_range
abbrev q1o:=@List.getElem?_eq_none
abbrev q1p:=@Int.mul_comm
abbrev q1q:=@Int.add_zero
abbrev q1r:=@PySem.W.kia_one
abbrev q1s:=@List.mem_range
abbrev q1t:=@List.drop_eq_getElem_cons
abbrev q1u:=@Int.mul_eq_zero
abbrev q1v:=@Int.le_of_lt
abbrev q1w:=@Int.gcd_dvd_left
abbrev q1x:=@Nat.pow_le_pow_right
abbrev q1y:=@Int.mul_nonneg
abbrev q1z:=@Heap.size_push
abbrev q1A:=@List.nodup_append
abbrev q1B:=@List.append_assoc
abbrev q1C:=@List.of_mem_zip
abbrev q1D:=@List.length_zipWith
abbrev q1E:=@Int.mul_pos
abbrev q1F:=@Heap.get?_update_other
abbrev q1G:=@Nat.sub_self
abbrev q1H:=@List.length_replicate
abbrev q1I:=@List.length_filter_le
abbrev q1J:=@List.getElem?_set_ne
abbrev q1K:=@List.getElem?_take_of_lt
abbrev q1L:=@List.foldl_append
abbrev q1M:=@List.flatten_cons
abbrev q1N:=@List.append_nil
abbrev q1O:=@Bool.eq_iff_iff
abbrev q1P:=@Int.zero_mul
abbrev q1Q:=@Nat.lt_irrefl
abbrev q1R:=@List.length_drop
abbrev q1S:=@List.any_eq_true
end
namespace L2
open PySem PySem.Spec PyProof.Rows
abbrev Key:=Sum Int Str
def y5P:Key→Value→Bool
 | .inl k,v=>Value.isInt k v
 | .inr x,v=>Value.isStrOf x v
def keyH (w:World):Key→Int
 | .inl k=>hashInt k
 | .inr x=>hashStr w x
theorem z0W:∀{k:Key}{v:Value},y5P k v=true→(∃i t,k=Sum.inl i∧v=Value.int i t)∨(∃x t,k=Sum.inr x∧v=Value.str x t)
 | .inl i,v,h=>by
   obtain⟨t,e⟩:=Value.isInt_shape (k:=i) (v:=v) h
   exact .inl ⟨i,t,rfl,e⟩
 | .inr x,v,h=>by
   obtain⟨t,e⟩:=Value.isStrOf_shape (x:=x) (v:=v) h
   exact .inr ⟨x,t,rfl,e⟩
theorem y5O (a b:Int):decide ((Sum.inl a:Key)=Sum.inl b)=(a==b):=by
 by_cases e:a=b
 ·subst e;simp
 ·have h:¬(Sum.inl a:Key)=Sum.inl b:=fun q=>e (Sum.inl.inj q)
  rw[decide_eq_false h]
  exact (beq_eq_false_iff_ne.mpr e).symm
theorem y5L (a b:Str):decide ((Sum.inr a:Key)=Sum.inr b)=decide (a=b):=by
 by_cases e:a=b
 ·subst e;simp
 ·have h:¬(Sum.inr a:Key)=Sum.inr b:=fun q=>e (Sum.inr.inj q)
  rw[decide_eq_false h,decide_eq_false e]
theorem y5N (a:Int) (b:Str):decide ((Sum.inl a:Key)=Sum.inr b)=false:=decide_eq_false (fun q=>nomatch q)
theorem y5M (a:Str) (b:Int):decide ((Sum.inr a:Key)=Sum.inl b)=false:=decide_eq_false (fun q=>nomatch q)
def y0I (prog:Program) (w:World):PySem.KeyKind prog w Key where
 is:=y5P
 hash:=keyH w
 inj:=fun v a b ha hb=>by
    rcases z0W ha with⟨i,t,rfl,rfl⟩|⟨x,t,rfl,rfl⟩
    ·rcases z0W hb with⟨j,u,rfl,e⟩|⟨y,u,rfl,e⟩
     ·injection e with e1 _;rw[e1]
     ·exact nomatch e
    ·rcases z0W hb with⟨j,u,rfl,e⟩|⟨y,u,rfl,e⟩
     ·exact nomatch e
     ·injection e with e1 _;rw[e1]
 byValue:=fun k v h=>by
    rcases z0W h with⟨i,t,rfl,rfl⟩|⟨x,t,rfl,rfl⟩<;>rfl
 pyHash:=fun hv h=>by
    rcases z0W hv with⟨i,t,rfl,rfl⟩|⟨x,t,rfl,rfl⟩
    ·exact wpAny_pyHash_int h
    ·exact wpAny_pyHash_str h
 eqBool:=fun hu hv h=>by
    rcases z0W hu with⟨i,t,rfl,rfl⟩|⟨x,t,rfl,rfl⟩
    ·rcases z0W hv with⟨j,u,rfl,rfl⟩|⟨y,u,rfl,rfl⟩
     ·rw[y5O] at h;exact wpAny_eqBool_int h
     ·rw[y5N] at h;exact SeqAt.EqAt.int_str i t y u _ _ _ _ h
    ·rcases z0W hv with⟨j,u,rfl,rfl⟩|⟨y,u,rfl,rfl⟩
     ·rw[y5M] at h;exact SeqAt.EqAt.str_int x t j u _ _ _ _ h
     ·rw[y5L] at h;exact wpAny_eqBool_str h
 «strs»:=fun k x t v h=>by
    rcases z0W h with⟨i,u,rfl,e⟩|⟨y,u,rfl,e⟩
    ·exact nomatch e
    ·injection e with e1 _
     subst e1
     cases v<;>rfl
end L2
namespace L2
open PySem PySem.Spec PyProof.Rows
inductive V where
 |non|bl (b:Bool)|int (i:Int)|str (x:Str)|byt (b:Array UInt8)|flt (b:UInt64)|ref (a:Addr)|ty (n:String)
 deriving DecidableEq
def RelV:V→Value→Prop
 | .non,u=>u=Value.none
 | .bl b,u=>u=Value.bool b
 | .int i,u=>∃t,u=Value.int i t
 | .str x,u=>∃t,u=Value.str x t
 | .byt b,u=>∃t,u=Value.bytes b t
 | .flt b,u=>∃t,u=Value.float b t
 | .ref a,u=>u=Value.ref a
 | .ty n,u=>u=Value.type n
abbrev Vals:List V→List Value→Prop:=Paired RelV
theorem Vals.length {xs:List V}{us:List Value} (r:Vals xs us):xs.length=us.length:=Paired.length r
theorem Vals.get:∀{xs:List V}{us:List Value}{i:Nat}{x:V},Vals xs us→xs[i]? =some x→∃u,us[i]? =some u∧RelV x u
 |_,_,_,_,.nil,e=>by simp at e
 |_,_,0,_,.cons r _,e=>by simp at e;subst e;exact⟨_,rfl,r⟩
 |_,_,i+1,x,.cons _ t,e=>by
  obtain⟨u,h1,h2⟩:=Vals.get (i:=i) (x:=x) t (by simpa using e)
  exact⟨u,by simpa using h1,h2⟩
theorem Vals.set {x:V}{u:Value} (r:RelV x u):∀{xs:List V}{us:List Value} (i:Nat),Vals xs us→Vals (xs.set i x) (us.set i u)
 |_,_,_,.nil => .nil
 |_,_,0,.cons _ t=> .cons r t
 |_,_,i+1,.cons q t=> .cons q (Vals.set r i t)
theorem Vals.append:∀{xs ys:List V}{us ws:List Value},Vals xs us→Vals ys ws→Vals (xs++ys) (us++ws)
 |_,_,_,_,.nil,s=>s
 |_,_,_,_,.cons r t,s=> .cons r (Vals.append t s)
theorem Vals.take:∀{xs:List V}{us:List Value} (n:Nat),Vals xs us→Vals (xs.take n) (us.take n)
 |_,_,0,_=> .nil
 |_,_,_+1,.nil => .nil
 |_,_,n+1,.cons r t=> .cons r (Vals.take n t)
theorem Vals.drop:∀{xs:List V}{us:List Value} (n:Nat),Vals xs us→Vals (xs.drop n) (us.drop n)
 |_,_,0,r=>r
 |_,_,_+1,.nil => .nil
 |_,_,n+1,.cons _ t=>Vals.drop n t
def RelO:Option V→Option Value→Prop
 |some v,some u=>RelV v u
 |none,none=>True
 |_,_=>False
def KV {κ:Type}:List (κ×V)→List (κ×Value)→Prop:=Paired fun (p:κ×V) (q:κ×Value)=>p.1=q.1∧RelV p.2 q.2
def kV:Key→V
 | .inl i=> .int i
 | .inr x=> .str x
inductive HO where
 /-- a list -/
 |lst (xs:List V)
 /-- a tuple (never changes) -/
 |tup (xs:List V)
 /-- a dict whose keys are ints and texts;one whose keys are tuples of ints and texts (the empty one is both) -/
 |dK (kvs:List (Key×V))|dT (kvs:List (List Key×V))
 /-- a set of ints:its members,its size -/
 |set (S:Int→Bool) (n:Nat)
 /-- an instance of the class at C,its dict at dx,its attributes -/
 |ins (C dx:Addr) (fs:List (Str×V))
 /-- the dict of the instance at x -/
 |own (x:Addr)
 /-- the dict of an exception -/
 |xd (fs:List (Str×V))
 /-- a bound method,f of x -/
 |met (f x:Addr)
 /-- a range object lo,lo+1,.. below hi -/
 |rng (lo hi:Int)
 /-- a thing that is known to the object (the script;a dict while a loop walks it):read,never written while it is so -/
 |frz (o:Obj) (u:HO)
 /-- a code object's table -/
 |tbl (ps:Array Value)
 /-- any other thing,by what is true of its one object (a def of one's own:y6k a S n:=HO.ext fun h=> ..) -/
 |ext (φ:Heap→Prop)
abbrev Hp:=Addr→Option HO
def upd (H:Hp) (a:Addr) (o:HO):Hp:=fun b=>if b=a then some o else H b
theorem z0c {H:Hp}{a:Addr}{o:HO}:upd H a o a=some o:=by unfold upd;rw[if_pos rfl]
theorem z0m {H:Hp}{a b:Addr}{o:HO} (h:b≠a):upd H a o b=H b:=by unfold upd;rw[if_neg h]
theorem z7c {H:Hp}{a:Addr}{o u:HO}:upd (upd H a o) a u=upd H a u:=by
 funext b;unfold upd;split<;>rfl
theorem ne_of {H:Hp}{a b:Addr}{o u:HO} (h:H a=some o) (h':H b=some u) (d:o≠u):a≠b:=by
 intro e;subst e;rw[h] at h';exact d (Option.some.inj h')
theorem z0i {H:Hp}{a b:Addr}{o:HO} (h:H a=some o) (h':H b=none):a≠b:=by
 intro e;subst e;rw[h] at h';cases h'
section
variable (P:Program) (w:World)
def ObjOk (H:Hp) (h:Heap) (a:Addr):HO→Prop
 | .lst xs=>xs.length≤sizeLine∧∃(its:List Value) (n:Nat),Vals xs its∧h.get? a=some {cls:= .type "list",data:= .seq its.toArray n}
 | .tup xs=>xs.length≤sizeLine∧∃its:List Value,Vals xs its∧IsTup h a its.toArray
 | .dK kvs=>kvs.length≤sizeLine∧(a==sysModules)=false∧∃vs,KV kvs vs∧h.DictOf (y0I P w) a vs
 | .dT kvs=>kvs.length≤sizeLine∧(a==sysModules)=false∧∃xs:List (List Key×Addr×Value),
  Paired (fun (p:List Key×V) (q:List Key×Addr×Value)=>p.1=q.1∧H q.2.1=some (.tup (p.1.map kV))∧RelV p.2 q.2.2) kvs xs∧
  ∃o es ep,h.get? a=some o∧o.ExactDict∧o.data= .dict es ep∧es.toList=xs.map (entryOfKey (tupleKind (y0I P w)))∧(xs.map (·.1)).Nodup
 | .set S n=>h.SetOf (intKind P w) a S n
 | .ins C dx fs=>H dx=some (.own a)∧fs.length≤1000∧dx≠a∧h.get? a=some (PySem.W.instObj C dx)∧
  ∃mA,h.Ns1 dx mA∧(∀f,RelO (fs.lookup f) (mA f))∧PySem.Within mA (fs.map (·.1))
 | .own _=>∃o,h.get? a=some o
 | .xd fs=>∃mA,h.Ns1 a mA∧∀f,RelO (fs.lookup f) (mA f)
 | .rng lo hi=>∃t u v,h.get? a=some {cls:= .type "range",data:= .fields #[.int lo t,.int hi u,.int 1 v]}
 | .frz o u=>h.get? a=some o∧ObjOk H h a u
 | .tbl ps=>h.get? a=some {cls:= .none,data:= .fields ps}
 | .met f x=>h.get? a=some (PySem.W.methodObj (.ref f) (.ref x))
 | .ext φ=>φ h∧(∃o,h.get? a=some o)∧∀h1 h2:Heap,φ h1→(∀o,h1.get? a=some o→h2.get? a=some o)→φ h2
def HOk (H:Hp) (h:Heap):Prop:=∀a o,H a=some o→ObjOk P w H h a o
end
section
variable {P:Program}{w:World}{H H':Hp}{h h':Heap}{a:Addr}{o:HO}
theorem ObjOk.lt (x:ObjOk P w H h a o):a<h.objs.size:=by
 cases o with
 |lst xs=>obtain⟨_,_,_,_,e⟩:=x;exact Heap.lt_size e
 |tup xs=>obtain⟨_,_,_,p⟩:=x;exact p.lt
 |dK kvs=>obtain⟨_,_,_,_,o,_,_,e,_⟩:=x;exact Heap.lt_size e
 |dT kvs=>obtain⟨_,_,_,_,o,_,_,e,_⟩:=x;exact Heap.lt_size e
 |set S n=>obtain⟨o,_,_,_,e,_⟩:=x;exact Heap.lt_size e
 |ins C dx fs=>obtain⟨_,_,_,e,_⟩:=x;exact Heap.lt_size e
 |own y=>obtain⟨_,e⟩:=x;exact Heap.lt_size e
 |xd fs=>obtain⟨_,⟨_,_,_,e,_⟩,_⟩:=x;exact Heap.lt_size e
 |rng lo hi=>obtain⟨_,_,_,e⟩:=x;exact Heap.lt_size e
 |frz ob u=>obtain⟨e,_⟩:=x;exact Heap.lt_size e
 |tbl ps=>exact Heap.lt_size (show h.get? a=some _ from x)
 |met f y=>exact Heap.lt_size (show h.get? a=some _ from x)
 |ext φ=>obtain⟨_,⟨_,e⟩,_⟩:=x;exact Heap.lt_size e
theorem Paired.mapP {α β:Type}{F G:α→β→Prop}:∀{l₁:List α}{l₂:List β},Paired F l₁ l₂→(∀a b,F a b→G a b)→Paired G l₁ l₂
 |_,_,.nil,_=> .nil
 |_,_,.cons r t,f=> .cons (f _ _ r) (Paired.mapP t f)
theorem ObjOk.stay (x:ObjOk P w H h a o) (k:∀b u,(b=a∨H b=some (.own a))→h.get? b=some u→h'.get? b=some u)
 (ho:∀b,H b=some (.own a)→H' b=some (.own a)) (ht:∀b xs,H b=some (.tup xs)→H' b=some (.tup xs)):ObjOk P w H' h' a o:=by
 induction o with
 |lst xs=>obtain⟨z,its,n,r,e⟩:=x;exact⟨z,its,n,r,k _ _ (.inl rfl) e⟩
 |tup xs=>obtain⟨z,its,r,ob,e,c⟩:=x;exact⟨z,its,r,ob,k _ _ (.inl rfl) e,c⟩
 |dK kvs=>obtain⟨z,y,vs,r,ob,es,ep,e,c⟩:=x;exact⟨z,y,vs,r,ob,es,ep,k _ _ (.inl rfl) e,c⟩
 |dT kvs=>
  obtain⟨z,y,xs,r,ob,es,ep,e,c⟩:=x
  exact⟨z,y,xs,Paired.mapP r fun p q z=>⟨z.1,ht _ _ z.2.1,z.2.2⟩,ob,es,ep,k _ _ (.inl rfl) e,c⟩
 |set S n=>obtain⟨ob,es,ep,t,e,c⟩:=x;exact⟨ob,es,ep,t,k _ _ (.inl rfl) e,c⟩
 |ins C dx fs=>
  obtain⟨d,z,ne,e,mA,⟨od,es,ep,e2,c⟩,r⟩:=x
  exact⟨ho _ d,z,ne,k _ _ (.inl rfl) e,mA,⟨od,es,ep,k _ _ (.inr d) e2,c⟩,r⟩
 |own y=>obtain⟨ob,e⟩:=x;exact⟨ob,k _ _ (.inl rfl) e⟩
 |xd fs=>obtain⟨mA,⟨od,es,ep,e,c⟩,r⟩:=x;exact⟨mA,⟨od,es,ep,k _ _ (.inl rfl) e,c⟩,r⟩
 |rng lo hi=>obtain⟨t,u,v,e⟩:=x;exact⟨t,u,v,k _ _ (.inl rfl) e⟩
 |frz ob u ih=>obtain⟨e,q⟩:=x;exact⟨k _ _ (.inl rfl) e,ih q⟩
 |tbl ps=>
  have e:h.get? a=some {cls:= .none,data:= .fields ps}:=x
  show h'.get? a=some {cls:= .none,data:= .fields ps}
  exact k a _ (.inl rfl) e
 |met f y=>
  have e:h.get? a=some (PySem.W.methodObj (.ref f) (.ref y)):=x
  show h'.get? a=some (PySem.W.methodObj (.ref f) (.ref y))
  exact k a _ (.inl rfl) e
 |ext φ=>obtain⟨p,⟨o,e⟩,st⟩:=x;exact⟨st _ _ p fun o q=>k _ _ (.inl rfl) q,⟨o,k _ _ (.inl rfl) e⟩,st⟩
theorem HOk.lt (x:HOk P w H h) (e:H a=some o):a<h.objs.size:=(x a o e).lt
theorem HOk.fresh (x:HOk P w H h) (e:h.objs.size≤a):H a=none:=by
 cases q:H a with
 |none=>rfl
 |some u=>exact absurd (Nat.lt_of_lt_of_le (x.lt q) e) (Nat.lt_irrefl _)
theorem HOk.kept (x:HOk P w H h) (k:∀b u,h.get? b=some u→h'.get? b=some u):HOk P w H h':=fun a o e=>
 (x a o e).stay (fun b u _ q=>k b u q) (fun _ q=>q) fun _ _ q=>q
theorem HOk.laid (x:HOk P w H h) (k:∀b u,h.get? b=some u→h'.get? b=some u) (hp:h.objs.size≤a) (new:ObjOk P w (upd H a o) h' a o):HOk P w (upd H a o) h':=fun b u e=>by
 have hn:=x.fresh hp
 by_cases hb:b=a
 ·subst hb;rw[z0c] at e;cases e;exact new
 ·rw[z0m hb] at e
  exact (x b u e).stay (fun c v _ q=>k c v q) (fun c q=>by rw[z0m (z0i q hn)];exact q) fun c xs q=>by rw[z0m (z0i q hn)];exact q
end
def Rd (H:Hp) (a:Addr) (u:HO):Prop:=H a=some u∨∃o,H a=some (.frz o u)
theorem Rd.ok {P:Program}{w:World}{H:Hp}{h:Heap}{a:Addr}{u:HO} (r:Rd H a u) (x:HOk P w H h):ObjOk P w H h a u:=by
 rcases r with r|⟨o,r⟩
 ·exact x a u r
 ·obtain⟨_,q⟩:=x a _ r
  exact q
def Mut:Option HO→Prop
 |some (.lst _)=>True
 |some (.dK _)=>True
 |some (.dT _)=>True
 |some (.set _ _)=>True
 |some (.ins _ _ _)=>True
 |some (.ext _)=>True
 |_=>False
section
variable {P:Program}{w:World}{H:Hp}{h h':Heap}{x e:Addr}{o':HO}
theorem HOk.write (ok:HOk P w H h) (mu:Mut (H x)) (he:e=x∨H e=some (.own x)) (k:∀b u,b≠e→h.get? b=some u→h'.get? b=some u) (heo:∃u,h'.get? e=some u)
 (new:ObjOk P w (upd H x o') h' x o'):HOk P w (upd H x o') h':=fun b u q=>by
 have nown:∀c y,H c=some (.own y)→c≠x:=fun c y r z=>by subst z;rw[r] at mu;exact mu
 have ntup:∀c xs,H c=some (.tup xs)→c≠x:=fun c xs r z=>by subst z;rw[r] at mu;exact mu
 by_cases hb:b=x
 ·subst hb;rw[z0c] at q;cases q;exact new
 ·rw[z0m hb] at q
  by_cases hbe:b=e
  ·have q':H b=some (.own x):=by
     rcases he with z|z
     ·exact absurd (hbe.trans z) hb
     ·rw[hbe];exact z
   rw[q] at q';cases q'
   obtain⟨v,hv⟩:=heo
   exact⟨v,by rw[hbe];exact hv⟩
  ·refine (ok b u q).stay (fun c v hc r=>k c v ?_ r) (fun c r=>by rw[z0m (nown c b r)];exact r) fun c xs r=>by rw[z0m (ntup c xs r)];exact r
   rcases hc with rfl|hc
   ·exact hbe
   ·rintro rfl
    rcases he with z|z
    ·exact nown c b hc z
    ·rw[hc] at z;cases z;exact hb rfl
end
structure Un (fs ex:List Addr) (H H':Hp) (h h':Heap):Prop where
 keep:∀b o,h.get? b=some o→H b=none→b∉fs→b∉ex→h'.get? b=some o
 slot:∀b o,h.get? b=some o→H b=none→b∈fs→b∉ex→∃sl,h'.get? b=some {o with slots:=sl}
 free:∀b o,h.get? b=some o→H b=none→b∉ex→H' b=none
 there:∀b o,h.get? b=some o→b∉ex→∃o',h'.get? b=some o'
 tups:∀b xs,H b=some (.tup xs)→H' b=some (.tup xs)
 frzs:∀b o u,H b=some (.frz o u)→H' b=some (.frz o u)
 tbls:∀b ps,H b=some (.tbl ps)→∃more,H' b=some (.tbl (ps++more))
section
variable {fs fs' ex ex':List Addr}{H H1 H2:Hp}{h h1 h2 h':Heap}{a x e:Addr}{o:HO}
theorem Un.any (u:Un fs ex H H1 h h1) {b:Addr}{ob:Obj} (q:h.get? b=some ob) (n:H b=none) (hx:b∉ex):∃sl,h1.get? b=some {ob with slots:=sl}:=by
 by_cases hb:b∈fs
 ·exact u.slot b ob q n hb hx
 ·exact⟨ob.slots,u.keep b ob q n hb hx⟩
theorem Un.kept (k:∀b u,h.get? b=some u→h'.get? b=some u):Un fs ex H H h h':=
 ⟨fun b ob q _ _ _=>k b ob q,fun b ob q _ _ _=>⟨ob.slots,k b ob q⟩,fun _ _ _ n _=>n,fun b ob q _=>⟨ob,k b ob q⟩,fun _ _ q=>q,fun _ _ _ q=>q,fun _ ps q=>⟨#[],by rw[q];simp⟩⟩
theorem Un.refl:Un fs ex H H h h:=Un.kept fun _ _ q=>q
theorem Un.laid (k:∀b u,h.get? b=some u→h'.get? b=some u) (hp:h.objs.size≤a) (hn:H a=none):Un fs ex H (upd H a o) h h' where
 keep:=fun b u q _ _ _=>k b u q
 slot:=fun b u q _ _ _=>⟨u.slots,k b u q⟩
 free:=fun b u q n _=>by rw[z0m (q0r (q0K (q0p q) hp))];exact n
 there:=fun b u q _=>⟨u,k b u q⟩
 tups:=fun b xs q=>by rw[z0m (z0i q hn)];exact q
 frzs:=fun b u xs q=>by rw[z0m (z0i q hn)];exact q
 tbls:=fun b ps q=>⟨#[],by rw[z0m (z0i q hn),q];simp⟩
theorem Un.write (mu:Mut (H x)) (he:e=x∨H e=some (.own x)) (k:∀b u,b≠e→h.get? b=some u→h'.get? b=some u) (heo:∃u,h'.get? e=some u):Un fs ex H (upd H x o) h h':=by
 have hx:∀b,H b=none→b≠x:=fun b n z=>by subst z;rw[n] at mu;exact mu
 have hb:∀b,H b=none→b≠e:=fun b n z=>by
  subst z
  rcases he with r|r
  ·exact hx b n r
  ·rw[n] at r;cases r
 have hm:∀b u,H b=some u→¬Mut (some u)→b≠x:=fun b u q nm z=>by subst z;rw[q] at mu;exact nm mu
 refine⟨fun b u q n _ _=>k b u (hb b n) q,fun b u q n _ _=>⟨u.slots,k b u (hb b n) q⟩,fun b u q n _=>by rw[z0m (hx b n)];exact n,fun b u q _=>?_,
  fun b xs q=>by rw[z0m (hm b _ q fun z=>z)];exact q,fun b u xs q=>by rw[z0m (hm b _ q fun z=>z)];exact q,fun b ps q=>⟨#[],by rw[z0m (hm b _ q fun z=>z),q];simp⟩⟩
 by_cases hbe:b=e
 ·subst hbe;exact heo
 ·exact⟨u,k b u hbe q⟩
end
def trk (h:Heap) (H:Hp):List Addr:=(List.range h.objs.size).filter fun a=>(H a).isSome
def y2Q (h:Heap) (H:Hp):Heap:=PySem.W.hideAll h (trk h H)
theorem y1d (h:Heap) (H:Hp):(y2Q h H).objs.size =h.objs.size:=PySem.W.hideAll_size _ _
theorem y2P {h:Heap}{H:Hp}{b:Addr}{o:Obj} (e:h.get? b=some o) (n:H b=none):(y2Q h H).get? b=some o:=
 PySem.W.hideAll_get _ e fun hm=>by
  have q:(H b).isSome =true:=(q1a.mp hm).2
  rw[n] at q;simp at q
theorem y4C {h:Heap}{H:Hp}{b:Addr}{o:Obj} (e:(y2Q h H).get? b=some o):h.get? b=some o∧H b=none:=by
 have e':h.get? b=some o:=PySem.W.of_hideAll (trk h H) e
 refine⟨e',?_⟩
 cases q:H b with
 |none=>rfl
 |some x=>
  have hm:b∈trk h H:=q1a.mpr ⟨q1s.mpr (q0p e'),by simp[q]⟩
  have z:(y2Q h H).get? b=none:=PySem.W.hideAll_none (trk h H) hm
  rw[z] at e;cases e
end L2
namespace L2
open PySem PySem.Spec PyProof.Rows
structure Mod (K:PySem.W.Frag) (mg:Str→Option Value) (base:Heap):Prop where
 kin:K.In base
 glob:base.Ns mainGlobals mg
 blt:∃mb,base.Ns builtinsNs mb∧∀x:Str,x≠"__name__"→mb x=bootBuiltins x
 nolimit:base.NoLimit
structure Cx where
 prog:Program
 w:World
 K:PySem.W.Frag
 mg:Str→Option Value
 base:Heap
 A:Around
 N:List Str
 s₀:Shared
 H₀:Hp
 env:Env
 outer:List Env
 stack:List Env
 ex:List Addr
 fn:Str→Bool
 calm:Bool
 pn:List (Addr×Obj)
 xe:Value→Shared→Prop
def frs (l:List Env):List Addr:=l.filterMap (·.frame)
abbrev Cx.fs (X:Cx):List Addr:=frs X.outer
def Vis (sc:Scope) (x:Str):Prop:=sc.names.lookup x=some .local ∨sc.names.lookup x=some .cell ∨sc.names.lookup x=some .free
def Loc (sc:Scope) (x:Str):Prop:=sc.names.lookup x=some .local ∨sc.names.lookup x=some .cell
def Look (env:Env) (h:Heap) (m:Str→Option Value) (x:Str) (u:Value):Prop:=
 (env.kindOf x=some .local ∧m x=some u)∨((env.kindOf x=some .cell ∨env.kindOf x=some .free)∧∃c,env.cells.lookup x=some c∧h.IsCell c (some u))
structure Cx.Ok (X:Cx):Prop where
 mod:Mod X.K X.mg X.base
 kind:X.env.scope.kind= .function
 glob:X.env.globals=mainGlobals
 blt:X.env.builtins=builtinsNs
 above:X.s₀.heap.objs.size≤X.env.locals
 inj:∀x y c,X.env.cells.lookup x=some c→X.env.cells.lookup y=some c→x=y
 has:∀x,(X.env.kindOf x=some .cell ∨X.env.kindOf x=some .free)→∃c,X.env.cells.lookup x=some c
 cab:∀x c,X.fn x=true→X.env.cells.lookup x=some c→X.s₀.heap.objs.size≤c
 hd:X.calm=true→X.A.handled=none
 frames:X.A.frames=some X.stack
 stk:X.stack=X.outer∨(X.stack=X.env::X.outer∧X.env.frame=some X.env.locals)
 exf:∀b∈X.ex,b≠X.env.locals∧∀x c,X.env.cells.lookup x=some c→c≠b
 bs:∀b o,X.base.get? b=some o→X.s₀.heap.get? b=some o∧X.H₀ b=none
 bsz:X.base.objs.size≤X.s₀.heap.objs.size
 noex:∀b o,X.base.get? b=some o→b∉X.ex
 exfs:∀b∈X.ex,b∉X.fs
 funs:X.s₀.heap.FunFrames X.base X.outer
 frf:∀b∈X.fs,X.H₀ b=none
structure Inv (X:Cx) (pins:List (Addr×Obj)) (σ:List (Option V)) (H:Hp) (s:Shared):Prop where
 ok:X.Ok
 os:s.os=X.s₀.os
 bare:AllBare s.gens
 base:Un X.fs X.ex X.H₀ H X.s₀.heap s.heap
 loc:∃m,s.heap.Ns X.env.locals m∧∀(i:Nat) (x:Str) (v:V),X.N[i]? =some x→σ[i]? =some (some v)→Vis X.env.scope x→∃u,RelV v u∧Look X.env s.heap m x u
 cell:∀x c,X.env.cells.lookup x=some c→∃v,s.heap.IsCell c v
 free:H X.env.locals=none
 freeC:∀x c,X.env.cells.lookup x=some c→H c=none
 pin:∀p∈X.pn++pins,s.heap.get? p.1=some p.2∧H p.1=none∧p.1≠X.env.locals∧p.1∉X.fs∧∀v,p.2.data≠ .cell v
 hok:HOk X.prog X.w H s.heap
 len:σ.length=X.N.length
section
variable {X:Cx}{pins:List (Addr×Obj)}{σ:List (Option V)}{H H':Hp}{s:Shared}{h':Heap}
theorem Cx.Ok.nofr (ok:X.Ok) {b:Addr}{o:Obj} (e:X.base.get? b=some o):b∉X.fs:=fun hb=>by
 have:=(ok.funs.mem hb).1
 rw[e] at this;cases this
theorem Inv.bs (I:Inv X pins σ H s):∀b o,X.base.get? b=some o→s.heap.get? b=some o∧H b=none:=fun b o e=>
 ⟨I.base.keep b o (I.ok.bs b o e).1 (I.ok.bs b o e).2 (I.ok.nofr e) (I.ok.noex b o e),I.base.free b o (I.ok.bs b o e).1 (I.ok.bs b o e).2 (I.ok.noex b o e)⟩
theorem Inv.bk (I:Inv X pins σ H s):∀b o,X.base.get? b=some o→s.heap.get? b=some o:=fun b o e=>(I.bs b o e).1
theorem Inv.mod (I:Inv X pins σ H s):Mod X.K X.mg X.base:=I.ok.mod
theorem Inv.kIn (I:Inv X pins σ H s):X.K.In s.heap:=I.ok.mod.kin.keeps I.bk
theorem Inv.lt (I:Inv X pins σ H s):X.env.locals<s.heap.objs.size:=let ⟨_,hn,_⟩:=I.loc;hn.lt
theorem Inv.sz (I:Inv X pins σ H s):X.s₀.heap.objs.size≤s.heap.objs.size:=q0o I.ok.above (Nat.le_of_lt I.lt)
theorem Inv.nofs (I:Inv X pins σ H s) {a:Addr} (h:s.heap.objs.size≤a):a∉X.fs:=fun hb=>by
 obtain⟨_,o,ho,_⟩:=I.ok.funs.mem hb
 exact absurd (q0K (q0p ho) (q0o I.sz h)) (q1Q _)
theorem Inv.cne (I:Inv X pins σ H s):∀x c,X.env.cells.lookup x=some c→c≠X.env.locals:=fun x c e z=>by
 obtain⟨v,o,ho,hd⟩:=I.cell x c e
 obtain⟨m,⟨o',es,ep,ho',hd',_⟩,_⟩:=I.loc
 rw[z,ho'] at ho;cases ho;rw[hd'] at hd;cases hd
theorem Inv.funs (I:Inv X pins σ H s):s.heap.FunFrames X.base X.outer:=by
 have all:∀(l:List Env),(∀b∈frs l,b∈X.fs)→X.s₀.heap.FunFrames X.base l→s.heap.FunFrames X.base l:=by
  intro l
  induction l with
  |nil=>intro _ _;trivial
  |cons env r ih=>
   intro hs hl
   obtain⟨hk,⟨L,o,hf,hn,ho,hd⟩,hr⟩:=hl
   have hL:L∈X.fs:=hs L (by unfold frs;rw[List.filterMap_cons,hf];exact List.mem_cons_self)
   obtain⟨sl,e⟩:=I.base.slot L o ho (I.ok.frf L hL) hL fun z=>I.ok.exfs L z hL
   exact⟨hk,⟨L,_,hf,hn,e,hd⟩,ih (fun b hb=>hs b (by unfold frs;rw[List.filterMap_cons,hf];exact List.mem_cons_of_mem _ hb)) hr⟩
 exact all X.outer (fun _ hb=>hb) I.ok.funs
theorem Inv.stack (I:Inv X pins σ H s):s.heap.FunFrames X.base X.stack:=by
 rcases I.ok.stk with e|⟨e,hf⟩
 ·rw[e];exact I.funs
 ·rw[e]
  obtain⟨m,hn,_⟩:=I.loc
  refine .cons (by rw[I.ok.kind];decide) hf hn ?_ I.funs
  exact Heap.get?_none_of_le (q0o I.ok.bsz I.ok.above)
theorem Inv.stkSub (I:Inv X pins σ H s):∀b∈frs X.stack,b∈X.env.locals::X.fs:=fun b hb=>by
 rcases I.ok.stk with e|⟨e,hf⟩
 ·rw[e] at hb;exact q0i _ hb
 ·rw[e] at hb
  unfold frs at hb
  rw[List.filterMap_cons,hf] at hb
  exact hb
theorem Inv.stkFree (I:Inv X pins σ H s):∀b∈frs X.stack,H b=none:=fun b hb=>by
 rcases q0l.mp (I.stkSub b hb) with e|hb
 ·rw[e];exact I.free
 ·obtain⟨_,o,ho,_⟩:=I.ok.funs.mem hb
  exact I.base.free b o ho (I.ok.frf b hb) fun z=>I.ok.exfs b z hb
theorem Inv.step {g':Array GenState}{t':Nat}{d':Drawn}{ch:List Addr} (I:Inv X pins σ H s)
 (hch:∀b∈ch,(b∈X.ex∨X.s₀.heap.objs.size≤b)∧b≠X.env.locals∧(∀x c,X.env.cells.lookup x=some c→c≠b)∧∀p∈X.pn++pins,p.1≠b)
 (keep:∀b o,b≠X.env.locals→b∉X.fs→b∉ch→s.heap.get? b=some o→H b=none→h'.get? b=some o)
 (slot:∀b o,b≠X.env.locals→b∈X.fs→b∉ch→s.heap.get? b=some o→H b=none→∃sl,h'.get? b=some {o with slots:=sl}) (free:∀b o,b∉ch→s.heap.get? b=some o→H b=none→H' b=none)
 (there:∀b o,b∉ch→s.heap.get? b=some o→∃o',h'.get? b=some o')
 (tups:∀b xs,H b=some (.tup xs)→H' b=some (.tup xs)) (frzs:∀b o u,H b=some (.frz o u)→H' b=some (.frz o u)) (tbls:∀b ps,H b=some (.tbl ps)→∃more,H' b=some (.tbl (ps++more)))
 (ns:∀m,s.heap.Ns X.env.locals m→h'.Ns X.env.locals m) (hok:HOk X.prog X.w H' h') (hg:AllBare g'):
 Inv X pins σ H' {s with heap:=h',gens:=g',drawn:=d',toks:=t'}:=by
 have neL:∀b o,X.s₀.heap.get? b=some o→b≠X.env.locals:=fun b o e=>q0r (q0K (q0p e) I.ok.above)
 have neC:∀b o,X.s₀.heap.get? b=some o→b∉X.ex→b∉ch:=fun b o e hx hb=>by
  rcases (hch b hb).1 with z|z
  ·exact hx z
  ·exact absurd (q0K (q0p e) z) (q1Q _)
 have cellK:∀x c,X.env.cells.lookup x=some c→∀v,s.heap.IsCell c v→h'.IsCell c v:=fun x c e v ⟨o,ho,hd⟩=>by
  have nch:c∉ch:=fun z=>(hch c z).2.2.1 x c e rfl
  by_cases hc:c∈X.fs
  ·obtain⟨sl,q⟩:=slot c o (I.cne x c e) hc nch ho (I.freeC x c e)
   exact⟨_,q,hd⟩
  ·exact⟨o,keep c o (I.cne x c e) hc nch ho (I.freeC x c e),hd⟩
 refine⟨I.ok,I.os,hg,⟨fun b o e n hb hx=>?_,fun b o e n hb hx=>?_,fun b o e n hx=>?_,fun b o e hx=>?_,fun b xs e=>tups b xs (I.base.tups b xs e),fun b o xs e=>frzs b o xs (I.base.frzs b o xs e),fun b ps e=>?_⟩,?_,fun x c e=>?_,?_,fun x c e=>?_,fun p hp=>?_,hok,I.len⟩
 ·exact keep b o (neL b o e) hb (neC b o e hx) (I.base.keep b o e n hb hx) (I.base.free b o e n hx)
 ·obtain⟨sl,e1⟩:=I.base.slot b o e n hb hx
  obtain⟨sl',e2⟩:=slot b _ (neL b o e) hb (neC b o e hx) e1 (I.base.free b o e n hx)
  exact⟨sl',e2⟩
 ·obtain⟨o',e1⟩:=I.base.there b o e hx
  exact free b o' (neC b o e hx) e1 (I.base.free b o e n hx)
 ·obtain⟨o',e1⟩:=I.base.there b o e hx
  exact there b o' (neC b o e hx) e1
 ·obtain⟨m1,e1⟩:=I.base.tbls b ps e
  obtain⟨m2,e2⟩:=tbls b _ e1
  exact⟨m1++m2,by rw[e2,Array.append_assoc]⟩
 ·obtain⟨m,hn,hl⟩:=I.loc
  refine⟨m,ns m hn,fun i x v e1 e2 e3=>?_⟩
  obtain⟨u,r,l⟩:=hl i x v e1 e2 e3
  refine⟨u,r,?_⟩
  rcases l with l|⟨k,c,e,z⟩
  ·exact .inl l
  ·exact .inr ⟨k,c,e,cellK x c e _ z⟩
 ·obtain⟨v,z⟩:=I.cell x c e
  exact⟨v,cellK x c e v z⟩
 ·obtain⟨m,⟨o,_,_,ho,_⟩,_⟩:=I.loc
  exact free _ o (fun z=>(hch _ z).2.1 rfl) ho I.free
 ·obtain⟨v,o,ho,hd⟩:=I.cell x c e
  exact free c o (fun z=>(hch c z).2.2.1 x c e rfl) ho (I.freeC x c e)
 ·obtain⟨e,n,ne,nf,d⟩:=I.pin p hp
  have nch:p.1∉ch:=fun z=>(hch p.1 z).2.2.2 p hp rfl
  exact⟨keep p.1 p.2 ne nf nch e n,free p.1 p.2 nch e n,ne,nf,d⟩
theorem Inv.un {t':Nat} (I:Inv X pins σ H s) (u:Un X.fs [] H H' s.heap h') (hok:HOk X.prog X.w H' h'):Inv X pins σ H' {s with heap:=h',toks:=t'}:=by
 obtain⟨m,⟨o,es,ep,ho,r⟩,_⟩:=id I.loc
 obtain⟨sl,hL⟩:=u.any ho I.free (by simp)
 exact I.step (g':=s.gens) (d':=s.drawn) (ch:=[]) (fun _ z=>nomatch z) (fun b o _ hb _ e n=>u.keep b o e n hb (by simp)) (fun b o _ hb _ e n=>u.slot b o e n hb (by simp)) (fun b o _ e n=>u.free b o e n (by simp)) (fun b o _ e=>u.there b o e (by simp)) u.tups u.frzs u.tbls (fun m' hm=>by
  obtain⟨o',es',ep',ho',r'⟩:=hm
  rw[ho] at ho';cases ho'
  exact⟨_,es',ep',hL,r'⟩) hok I.bare
theorem Inv.call {g':Array GenState}{t':Nat}{d':Drawn}{ch:List Addr} (I:Inv X pins σ H s) (u:Un (frs X.stack) ch H H' s.heap h') (hok:HOk X.prog X.w H' h') (hg:AllBare g')
 (hch:∀b∈ch,(b∈X.ex∨X.s₀.heap.objs.size≤b)∧b≠X.env.locals∧(∀x c,X.env.cells.lookup x=some c→c≠b)∧∀p∈X.pn++pins,p.1≠b):
 Inv X pins σ H' {s with heap:=h',gens:=g',drawn:=d',toks:=t'}:=by
 obtain⟨m,⟨o,es,ep,ho,r⟩,_⟩:=id I.loc
 obtain⟨sl,hL⟩:=u.any ho I.free fun z=>(hch _ z).2.1 rfl
 exact I.step (ch:=ch) hch (fun b o hL hb hc e n=>u.keep b o e n (fun z=>(q0l.mp (I.stkSub b z)).elim hL hb) hc) (fun b o _ _ hc e n=>u.any e n hc) (fun b o hc e n=>u.free b o e n hc) (fun b o hc e=>u.there b o e hc) u.tups u.frzs u.tbls (fun m' hm=>by
  obtain⟨o',es',ep',ho',r'⟩:=hm
  rw[ho] at ho';cases ho'
  exact⟨_,es',ep',hL,r'⟩) hok hg
theorem Inv.turned {t':Nat}{it:Addr} (I:Inv X pins σ H s) (k:∀b o,b≠it→s.heap.get? b=some o→h'.get? b=some o) (hn:H it=none) (hL:it≠X.env.locals)
 (h1:it∈X.ex∨X.s₀.heap.objs.size≤it) (h2:∀x c,X.env.cells.lookup x=some c→c≠it) (h3:∀p∈X.pn++pins,p.1≠it):Inv X pins σ H {s with heap:=h',toks:=t'}:=by
 have nit:∀b u,H b=some u→b≠it:=fun b u e z=>by rw[z,hn] at e;cases e
 refine I.step (g':=s.gens) (d':=s.drawn) (ch:=[it]) (fun b hb=>?_) (fun b o _ _ hc e _=>k b o (fun z=>hc (by simp[z])) e) (fun b o _ _ hc e _=>⟨o.slots,k b o (fun z=>hc (by simp[z])) e⟩) (fun _ _ _ _ n=>n)
  (fun b o hc e=>⟨o,k b o (fun z=>hc (by simp[z])) e⟩) (fun _ _ e=>e) (fun _ _ _ e=>e) (fun b ps e=>⟨#[],by rw[e];simp⟩) (fun m hm=>?_) (fun b u e=>?_) I.bare
 ·have e:b=it:=by simpa using hb
  subst e
  exact⟨h1,hL,h2,h3⟩
 ·obtain⟨o,es,ep,ho,r⟩:=hm
  exact⟨o,es,ep,k _ o (Ne.symm hL) ho,r⟩
 ·refine (I.hok b u e).stay (fun c v hc q=>k c v ?_ q) (fun _ q=>q) fun _ _ q=>q
  rcases hc with z|z
  ·rw[z];exact nit b u e
  ·exact nit c _ z
theorem Inv.tok (I:Inv X pins σ H s) (t:Nat):Inv X pins σ H {s with toks:=t}:=I.un (h':=s.heap) (t':=t) Un.refl I.hok
theorem Inv.kept {t':Nat} (I:Inv X pins σ H s) (k:∀b u,s.heap.get? b=some u→h'.get? b=some u):Inv X pins σ H {s with heap:=h',toks:=t'}:=I.un (Un.kept k) (I.hok.kept k)
theorem Inv.laid {a:Addr}{o:HO}{t':Nat} (I:Inv X pins σ H s) (k:∀b u,s.heap.get? b=some u→h'.get? b=some u) (hp:s.heap.objs.size≤a) (new:ObjOk X.prog X.w (upd H a o) h' a o):
 Inv X pins σ (upd H a o) {s with heap:=h',toks:=t'}:=I.un (Un.laid k hp (I.hok.fresh hp)) (I.hok.laid k hp new)
theorem Inv.write {x e:Addr}{o:HO}{t':Nat} (I:Inv X pins σ H s) (mu:Mut (H x)) (he:e=x∨H e=some (.own x)) (k:∀b u,b≠e→s.heap.get? b=some u→h'.get? b=some u) (heo:∃u,h'.get? e=some u)
 (new:ObjOk X.prog X.w (upd H x o) h' x o):Inv X pins σ (upd H x o) {s with heap:=h',toks:=t'}:=I.un (Un.write mu he k heo) (I.hok.write mu he k heo new)
theorem Inv.pins_of {pins':List (Addr×Obj)} (I:Inv X pins σ H s) (h:∀p∈pins',s.heap.get? p.1=some p.2∧H p.1=none∧p.1≠X.env.locals∧p.1∉X.fs∧∀v,p.2.data≠ .cell v):Inv X pins' σ H s:=
 ⟨I.ok,I.os,I.bare,I.base,I.loc,I.cell,I.free,I.freeC,fun p hp=>(q0s.mp hp).elim (fun z=>I.pin p (q0C _ z)) (h p),I.hok,I.len⟩
theorem z8j {N:List Str} (hN:N.Nodup) {i j:Nat}{x:Str} (a:N[i]? =some x) (b:N[j]? =some x):i=j:=by
 obtain⟨h1,e1⟩:=q0E.mp a
 obtain⟨h2,e2⟩:=q0E.mp b
 exact (List.getElem_inj hN).mp (e1.trans e2.symm)
theorem z6j {M:Model}{A:Around}{E:Value→Shared→Prop}{i:Nat}{x:Str}{v:V}{u:Value}{Q:Unit→Shared→Prop} (I:Inv X pins σ H s) (hN:X.N.Nodup) (hi:X.N[i]? =some x) (hx:Loc X.env.scope x) (r:RelV v u)
 (h:∀s',Inv X pins (σ.set i (some v)) H s'→(∃a,Heap.SameBut a s.heap s'.heap∧(a=X.env.locals∨X.env.cells.lookup x=some a))→Q () s') (hf:X.fn x=true∨X.env.scope.names.lookup x=some .local :=by first|exact .inl rfl|exact .inr rfl|assumption):wpAny M A (storeName X.env x u) Q E s:=by
 obtain⟨m,hn,hl⟩:=id I.loc
 have hcls:(X.env.scope.kind== .class || (X.env.scope.kind== .module &&X.env.locals != X.env.globals))=false:=by rw[I.ok.kind];rfl
 have hiσ:i<σ.length:=by rw[I.len];exact (q0E.mp hi).1
 have cne:=I.cne
 have tracked:∀{a:Addr}{h':Heap},(∃o,s.heap.get? a=some o∧H a=none)→Heap.SameBut a s.heap h'→HOk X.prog X.w H h':=fun {a h'} ha hs b ob e=>by
  obtain⟨_,_,hfree⟩:=ha
  refine (I.hok b ob e).stay (fun c w' hc q=>(hs.2 c ?_).trans q) (fun _ q=>q) fun _ _ q=>q
  rintro rfl
  rcases hc with rfl|hc
  ·rw[hfree] at e;cases e
  ·rw[hfree] at hc;cases hc
 rcases hx with hk|hk
 ·refine wpAny_storeName_local hk hn (fun h' hn' hs=>?_) hcls
  obtain⟨oL,_,_,hoL,_⟩:=id hn
  refine h _ ⟨I.ok,I.os,I.bare,⟨fun b o e n hb hx=>?_,fun b o e n hb hx=>?_,I.base.free,fun b o e hx=>?_,I.base.tups,I.base.frzs,I.base.tbls⟩,⟨_,hn',fun j y v' e1 e2 e3=>?_⟩,fun y c e=>?_,I.free,I.freeC,fun p hp=>?_,tracked ⟨oL,hoL,I.free⟩ hs,by simpa using I.len⟩ ⟨_,hs,.inl rfl⟩
  ·exact (hs.2 b (q0r (q0K (q0p e) I.ok.above))).trans (I.base.keep b o e n hb hx)
  ·obtain⟨sl,e1⟩:=I.base.slot b o e n hb hx
   exact⟨sl,(hs.2 b (q0r (q0K (q0p e) I.ok.above))).trans e1⟩
  ·obtain⟨o',e1⟩:=I.base.there b o e hx
   exact⟨o',(hs.2 b (q0r (q0K (q0p e) I.ok.above))).trans e1⟩
  ·by_cases hj:j=i
   ·subst hj
    rw[hi] at e1;cases e1
    rw[List.getElem?_set_self hiσ] at e2
    cases e2
    exact⟨u,r,.inl ⟨hk,by simp⟩⟩
   ·rw[q1J (Ne.symm hj)] at e2
    obtain⟨u',r',q⟩:=hl j y v' e1 e2 e3
    refine⟨u',r',?_⟩
    rcases q with⟨k,e⟩|⟨k,c,e,z⟩
    ·refine .inl ⟨k,?_⟩
     have:y≠x:=fun e=>hj (z8j hN e1 (e▸hi))
     simp[this,e]
    ·exact .inr ⟨k,c,e,z.sameBut hs (cne y c e)⟩
  ·obtain⟨w',z⟩:=I.cell y c e
   exact⟨w',z.sameBut hs (cne y c e)⟩
  ·obtain⟨e,n,ne,nf,d⟩:=I.pin p hp
   exact⟨(hs.2 p.1 ne).trans e,n,ne,nf,d⟩
 ·have hfn:X.fn x=true:=by
   rcases hf with z|z
   ·exact z
   ·rw[z] at hk;cases hk
  obtain⟨c,hc⟩:=I.ok.has x (.inl hk)
  obtain⟨w',z⟩:=I.cell x c hc
  refine wpAny_storeName_cell I.ok.kind hk hc z (fun h' hc' hs=>?_)
  obtain⟨oc,hoc,hocd⟩:=id z
  refine h {s with heap:=h'} ⟨I.ok,I.os,I.bare,⟨fun b o e n hb hx=>?_,fun b o e n hb hx=>?_,I.base.free,fun b o e hx=>?_,I.base.tups,I.base.frzs,I.base.tbls⟩,⟨m,hn.sameBut hs (Ne.symm (cne x c hc)),fun j y v' e1 e2 e3=>?_⟩,fun y c' e=>?_,I.free,I.freeC,fun p hp=>?_,tracked ⟨oc,hoc,I.freeC x c hc⟩ hs,by simpa using I.len⟩ ⟨c,hs,.inr hc⟩
  ·exact (hs.2 b (q0r (q0K (q0p e) (I.ok.cab x c hfn hc)))).trans (I.base.keep b o e n hb hx)
  ·obtain⟨sl,e1⟩:=I.base.slot b o e n hb hx
   exact⟨sl,(hs.2 b (q0r (q0K (q0p e) (I.ok.cab x c hfn hc)))).trans e1⟩
  ·obtain⟨o',e1⟩:=I.base.there b o e hx
   exact⟨o',(hs.2 b (q0r (q0K (q0p e) (I.ok.cab x c hfn hc)))).trans e1⟩
  ·by_cases hj:j=i
   ·subst hj
    rw[hi] at e1;cases e1
    rw[List.getElem?_set_self hiσ] at e2
    cases e2
    exact⟨u,r,.inr ⟨.inl hk,c,hc,hc'⟩⟩
   ·rw[q1J (Ne.symm hj)] at e2
    obtain⟨u',r',q⟩:=hl j y v' e1 e2 e3
    refine⟨u',r',?_⟩
    rcases q with q|⟨k,c',e,z'⟩
    ·exact .inl q
    ·refine .inr ⟨k,c',e,z'.sameBut hs ?_⟩
     rintro rfl
     exact hj (z8j hN e1 (I.ok.inj _ _ _ e hc▸hi))
  ·by_cases hcc:c'=c
   ·subst hcc;exact⟨_,hc'⟩
   ·obtain⟨w2,z2⟩:=I.cell y c' e
    exact⟨w2,z2.sameBut hs hcc⟩
  ·obtain⟨e,n,ne,nf,d⟩:=I.pin p hp
   refine⟨(hs.2 p.1 ?_).trans e,n,ne,nf,d⟩
   intro q
   rw[q,hoc] at e
   have q':oc=p.2:=Option.some.inj e
   exact d w' (by rw[←q'];exact hocd)
theorem z3Z {M:Model}{A:Around}{E:Value→Shared→Prop}{i:Nat}{x:Str}{v:V}{u:Value}{Q:Unit→Shared→Prop} (I:Inv X pins σ H s) (hN:X.N.Nodup) (hi:X.N[i]? =some x) (hx:Loc X.env.scope x) (r:RelV v u)
 (h:∀s',Inv X pins (σ.set i (some v)) H s'→Q () s') (hf:X.fn x=true∨X.env.scope.names.lookup x=some .local :=by first|exact .inl rfl|exact .inr rfl|assumption):wpAny M A (storeName X.env x u) Q E s:=
 z6j I hN hi hx r (fun s' I' _=>h s' I') hf
theorem Inv.call' {s':Shared}{ch:List Addr} (I:Inv X pins σ H s) (ho:s'.os=s.os) (u:Un (frs X.stack) ch H H' s.heap s'.heap) (hok:HOk X.prog X.w H' s'.heap) (hg:AllBare s'.gens)
 (hch:∀b∈ch,(b∈X.ex∨X.s₀.heap.objs.size≤b)∧b≠X.env.locals∧(∀x c,X.env.cells.lookup x=some c→c≠b)∧∀p∈X.pn++pins,p.1≠b):Inv X pins σ H' s':=by
 obtain⟨h',g',d',t',o'⟩:=s'
 have e:o'=s.os:=ho
 subst e
 exact I.call (g':=g') (t':=t') (d':=d') u hok hg hch
end
abbrev XK:=Value→Option Addr→Hp→Prop
abbrev St:=List (Option V)
abbrev VK:=V→Hp→Prop
abbrev TE:=St→Hp→VK→Prop
abbrev TT:=St→Hp→(Bool→Hp→Prop)→Prop
abbrev TA:=St→Hp→(List V→Hp→Prop)→Prop
structure y3V where
 nx:St→Hp→Prop
 rt:VK
 bk:St→Hp→Prop:=fun _ _=>False
 ct:St→Hp→Prop:=fun _ _=>False
abbrev TS:=y3V→St→Hp→Prop
def EP (X:Cx) (pins:List (Addr×Obj)) (σ:St) (Q:VK) (u:Value) (s':Shared):Prop:=∃v H',Inv X pins σ H' s'∧RelV v u∧Q v H'
def TP (X:Cx) (pins:List (Addr×Obj)) (σ:St) (Q:Bool→Hp→Prop) (b:Bool) (s':Shared):Prop:=∃H',Inv X pins σ H' s'∧Q b H'
def AP (X:Cx) (pins:List (Addr×Obj)) (σ:St) (Q:List V→Hp→Prop) (us:List Value) (s':Shared):Prop:=∃vs H',Inv X pins σ H' s'∧Vals vs us∧Q vs H'
def SP (X:Cx) (pins:List (Addr×Obj)) (D:y3V) (f:Flow) (s':Shared):Prop:=
 match f with
 | .next =>∃σ' H',Inv X pins σ' H' s'∧D.nx σ' H'
 | .brk =>∃σ' H',Inv X pins σ' H' s'∧D.bk σ' H'
 | .cont =>∃σ' H',Inv X pins σ' H' s'∧D.ct σ' H'
 | .ret u=>∃v σ' H',Inv X pins σ' H' s'∧RelV v u∧D.rt v H'
def PE (X:Cx) (e:Expr) (t:TE):Prop:=
 ∀(pins:List (Addr×Obj)) (s:Shared) (σ:St) (H:Hp) (Q:VK),Inv X pins σ H s→t σ H Q→wpAny (model X.prog X.w) X.A (eval e X.env) (EP X pins σ Q) X.xe s
def PT (X:Cx) (e:Expr) (t:TT):Prop:=
 ∀(pins:List (Addr×Obj)) (s:Shared) (σ:St) (H:Hp) (Q:Bool→Hp→Prop),Inv X pins σ H s→t σ H Q→wpAny (model X.prog X.w) X.A (isTrue e X.env (eval e X.env)) (TP X pins σ Q) X.xe s
def PW (X:Cx) (e:Expr) (t:TT):Prop:=
 ∀(whole:Sem Value) (pins:List (Addr×Obj)) (s:Shared) (σ:St) (H:Hp) (Q:Bool→Hp→Prop),Inv X pins σ H s→t σ H Q→wpAny (model X.prog X.w) X.A (isTrue e X.env whole) (TP X pins σ Q) X.xe s
theorem PW.pt {X:Cx}{e:Expr}{t:TT} (h:PW X e t):PT X e t:=h _
def PA (X:Cx) (es:List Expr) (t:TA):Prop:=
 ∀(pos:Pos) (pins:List (Addr×Obj)) (s:Shared) (σ:St) (H:Hp) (Q:List V→Hp→Prop),Inv X pins σ H s→t σ H Q→wpAny (model X.prog X.w) X.A (spliced (backTo pos (starEach es X.env))) (AP X pins σ Q) X.xe s
def PS (X:Cx) (st:Stmt) (t:TS):Prop:=
 ∀(pins:List (Addr×Obj)) (s:Shared) (σ:St) (H:Hp) (D:y3V),Inv X pins σ H s→t D σ H→wpAny (model X.prog X.w) X.A (exec st X.env) (SP X pins D) X.xe s
def PSs (X:Cx) (st:List Stmt) (t:TS):Prop:=
 ∀(pins:List (Addr×Obj)) (s:Shared) (σ:St) (H:Hp) (D:y3V),Inv X pins σ H s→t D σ H→wpAny (model X.prog X.w) X.A (execs st X.env) (SP X pins D) X.xe s
theorem thn {α:Type}{t:Sem α}{Q Q':α→Shared→Prop}{M:Model}{A:Around}{E:Value→Shared→Prop}{s:Shared} (h:wpAny M A t Q E s) (hQ:∀a s,Q a s→Q' a s):wpAny M A t Q' E s:=wpAny_mono h hQ fun _ _ x=>x
end L2
namespace L2
open PySem PySem.Spec PyProof.Rows
section
variable {X:Cx}
def tVar (i:Nat):TE:=fun σ H Q=>∃v,σ[i]? =some (some v)∧Q v H
def tC (v:V):TE:=fun _ H Q=>Q v H
theorem y5x {i:Nat}{x:Str}{pos:Pos} (hN:X.N[i]? =some x) (hv:Vis X.env.scope x) (hd:(x==("__debug__":Str))=false:=by decide) (hcd:(x==("__classdict__":Str))=false:=by decide):PE X (.Name x pos) (tVar i):=by
 intro pins s σ H Q I h
 obtain⟨v,e,h⟩:=h
 obtain⟨m,hn,hl⟩:=I.loc
 obtain⟨u,r,l⟩:=hl i x v hN e hv
 have fin:EP X pins σ Q u s:=⟨v,H,I,r,h⟩
 rcases l with⟨hk,hm⟩|⟨hk,c,hc,hcell⟩
 ·exact wpAny_Name (wpAny_loadName_local I.ok.kind hk hn hm fin) hd
 ·rcases hk with hk|hk
  ·exact wpAny_Name (wpAny_loadName_cell I.ok.kind hk hc hcell fin) hd
  ·exact wpAny_Name (wpAny_loadName_free I.ok.kind hk hc hcell fin hcd) hd
theorem z0e {i j pos}:PE X (.Constant (.int i) j pos) (tC (.int i)):=fun _ _ _ H _ I h=>wpAny_Constant_int ⟨.int i,H,I.tok _,⟨_,rfl⟩,h⟩
theorem z4u {b j pos}:PE X (.Constant (.bool b) j pos) (tC (.bl b)):=fun _ _ _ H _ I h=>Constant_bool ⟨.bl b,H,I,rfl,h⟩
theorem z8c {j pos}:PE X (.Constant .none j pos) (tC .non):=fun _ _ _ H _ I h=>Constant_none ⟨.non,H,I,rfl,h⟩
def Gl (X:Cx) (x:Str):Prop:=X.env.kindOf x=some .globalImplicit
theorem y4J {E:Value→Shared→Prop}{pins:List (Addr×Obj)}{s:Shared}{σ:St}{H:Hp}{x:Str}{u:Value}{pos:Pos}{Q:Value→Shared→Prop} (I:Inv X pins σ H s) (hg:Gl X x) (hm:X.mg x=some u) (h:Q u s)
 (hd:(x==("__debug__":Str))=false:=by decide):wpAny (model X.prog X.w) X.A (eval (.Name x pos) X.env) Q E s:=
 Calls.Name_function_global I.ok.kind hg (Calls.loadGlobal_global (by rw[I.ok.glob];exact I.mod.glob.keeps I.bk) hm h) hd
theorem z3P {E:Value→Shared→Prop}{pins:List (Addr×Obj)}{s:Shared}{σ:St}{H:Hp}{x:Str}{u:Value}{pos:Pos}{Q:Value→Shared→Prop} (I:Inv X pins σ H s) (hg:Gl X x) (hm:X.mg x=none) (hv:bootBuiltins x=some u) (h:Q u s)
 (hn:x≠"__name__":=by decide) (hd:(x==("__debug__":Str))=false:=by decide):wpAny (model X.prog X.w) X.A (eval (.Name x pos) X.env) Q E s:=by
 obtain⟨mb,h1,h2⟩:=I.mod.blt
 exact Calls.Name_function_global I.ok.kind hg (Calls.loadGlobal_builtin (by rw[I.ok.glob];exact I.mod.glob.keeps I.bk) hm (by rw[I.ok.blt];exact h1.keeps I.bk) ((h2 x hn).trans hv) h) hd
theorem z2Y {x:Str}{v:V}{u:Value}{pos:Pos} (hg:Gl X x) (hm:X.mg x=none) (hv:bootBuiltins x=some u) (r:RelV v u) (hn:x≠"__name__":=by decide) (hd:(x==("__debug__":Str))=false:=by decide):PE X (.Name x pos) (tC v):=
 fun _ _ _ H _ I h=>z3P I hg hm hv ⟨v,H,I,r,h⟩ hn hd
variable {a b:Expr}{ta tb:TE}{pos:Pos}
def PC (X:Cx) (op:CmpOp) (a b:Expr) (t:TE):Prop:=
 ∀(pins:List (Addr×Obj)) (s:Shared) (σ:St) (H:Hp) (Q:VK),Inv X pins σ H s→t σ H Q→
  wpAny (model X.prog X.w) X.A (eval a X.env) (fun v s₁=>wpAny (model X.prog X.w) X.A (eval b X.env) (fun u s₂=>wpAny (model X.prog X.w) X.A (compareOp op v u) (EP X pins σ Q) X.xe s₂) X.xe s₁) X.xe s
theorem y2D (b:Expr) {op:CmpOp} (h:op≠ .In) (h2:op≠ .NotIn):behindInMarks op b=false:=by
 have e1:(op==CmpOp.In)=false:=by cases op<;>first|rfl|exact absurd rfl h
 have e2:(op==CmpOp.NotIn)=false:=by cases op<;>first|rfl|exact absurd rfl h2
 cases b<;>simp[behindInMarks,e1,e2]
def tIsN (ta:TE):TE:=fun σ H Q=>ta σ H fun x H1=>Q (.bl (decide (x= .non))) H1
def tNotN (ta:TE):TE:=fun σ H Q=>ta σ H fun x H1=>Q (.bl (!decide (x= .non))) H1
theorem RelV.none_iff {x:V}{v:Value} (r:RelV x v):(v==Value.none)=decide (x= .non):=by
 cases x with
 |non=>cases r;rfl
 |bl _=>cases r;rfl
 |int _=>obtain⟨t,rfl⟩:=r;rfl
 |str _=>obtain⟨t,rfl⟩:=r;rfl
 |byt _=>obtain⟨t,rfl⟩:=r;rfl
 |flt _=>obtain⟨t,rfl⟩:=r;rfl
 |ref _=>cases r;rfl
 |ty _=>cases r;rfl
theorem y3x {j pos'} (ha:PE X a ta):PC X .Is a (.Constant .none j pos') (tIsN ta):=by
 intro pins s σ H Q I h
 refine thn (ha pins s σ H _ I h) fun v s1 ⟨x,H1,I1,r1,q1⟩=>?_
 exact Constant_none (is_none_gen ⟨.bl _,H1,I1,by rw[r1.none_iff];rfl,q1⟩)
theorem y0r {j pos'} (ha:PE X a ta):PC X .IsNot a (.Constant .none j pos') (tNotN ta):=by
 intro pins s σ H Q I h
 refine thn (ha pins s σ H _ I h) fun v s1 ⟨x,H1,I1,r1,q1⟩=>?_
 exact Constant_none (isnot_none_gen ⟨.bl _,H1,I1,by rw[r1.none_iff];rfl,q1⟩)
def tB (t:TE):TT:=fun σ H Q=>t σ H fun x H1=>∃c,x= .bl c∧Q c H1
theorem z7W {op:CmpOp}{t:TE} (h:PC X op a b t) (h1:behindInMarks op b=false:=by first|exact y2D _ (by decide) (by decide)|rfl):PT X (.Compare a [op] [b] pos) (tB t):=by
 intro pins s σ H Q I hw
 refine wpAny_isTrue_Compare1 (thn (h pins s σ H _ I hw) fun v s1 h1=>thn h1 fun u s2 h2=>thn h2 fun c s3 ⟨x,H1,I1,r1,q1⟩=>?_) h1
 obtain⟨d,rfl,q⟩:=q1
 cases r1
 exact wpAny_truthy_bool ⟨H1,I1,q⟩
theorem z2n {e:Expr}{t:TE} (h:PE X e t) (he:∀whole,isTrue e X.env whole=(do let v ←whole;standAt e.pos;holding [v] (truthy v)):=by intro _;rfl):PT X e (tB t):=by
 intro pins s σ H Q I hw
 refine isTrue_plain (thn (h pins s σ H _ I hw) fun v s1 ⟨x,H1,I1,r1,q1⟩=>?_) (he _)
 obtain⟨d,rfl,q⟩:=q1
 cases r1
 exact wpAny_truthy_bool ⟨H1,I1,q⟩
variable {tA tB':TT}{rest:List Expr}
def tAnd (t u:TT):TT:=fun σ H Q=>t σ H fun c H1=>if c=true then u σ H1 Q else Q false H1
def tOr (t u:TT):TT:=fun σ H Q=>t σ H fun c H1=>if c=true then Q true H1 else u σ H1 Q
def tNot (t:TT):TT:=fun σ H Q=>t σ H fun c H1=>Q (!c) H1
theorem y4q (ha:PT X a tA):PW X (.BoolOp .And [a] pos) tA:=by
 intro wh pins s σ H Q I h
 refine isTrue_and (thn (ha pins s σ H Q I h) fun c s1 e=>?_)
 cases c with
 |true=>exact isTrue_and_nil e
 |false=>exact e
theorem z6u (ha:PT X a tA):PW X (.BoolOp .Or [a] pos) tA:=by
 intro wh pins s σ H Q I h
 refine isTrue_or (thn (ha pins s σ H Q I h) fun c s1 e=>?_)
 cases c with
 |false=>exact isTrue_or_nil e
 |true=>exact e
theorem y5q (ha:PT X a tA) (hb:PW X (.BoolOp .And (b::rest) pos) tB'):PW X (.BoolOp .And (a::b::rest) pos) (tAnd tA tB'):=by
 intro wh pins s σ H Q I h
 refine isTrue_and (thn (ha pins s σ H _ I h) fun c s1 ⟨H1,I1,q1⟩=>?_)
 cases c with
 |true=>exact hb wh pins s1 σ H1 Q I1 q1
 |false=>exact⟨H1,I1,q1⟩
theorem z4K (ha:PT X a tA) (hb:PW X (.BoolOp .Or (b::rest) pos) tB'):PW X (.BoolOp .Or (a::b::rest) pos) (tOr tA tB'):=by
 intro wh pins s σ H Q I h
 refine isTrue_or (thn (ha pins s σ H _ I h) fun c s1 ⟨H1,I1,q1⟩=>?_)
 cases c with
 |true=>exact⟨H1,I1,q1⟩
 |false=>exact hb wh pins s1 σ H1 Q I1 q1
theorem z2t (ha:PT X a tA):PT X (.UnaryOp .Not a pos) (tNot tA):=by
 intro pins s σ H Q I h
 exact isTrue_not (ha pins s σ H (fun c H1=>Q (!c) H1) I h)
def tAndV (ta tb:TE):TE:=fun σ H Q=>ta σ H fun x H1=>∃c,x= .bl c∧if c=true then tb σ H1 Q else Q (.bl false) H1
def tNotV (ta:TE):TE:=fun σ H Q=>ta σ H fun x H1=>∃c,x= .bl c∧Q (.bl (!c)) H1
theorem y3v {op}{t:TE} (h:PE X a t):PE X (.BoolOp op [a] pos) t:=fun pins s σ H Q I hw=>BoolOp_one (h pins s σ H Q I hw)
theorem y3w (ha:PE X a ta) (hb:PE X (.BoolOp .And (b::rest) pos) tb):PE X (.BoolOp .And (a::b::rest) pos) (tAndV ta tb):=by
 intro pins s σ H Q I h
 refine BoolOp_and (thn (ha pins s σ H _ I h) fun v s1 ⟨x,H1,I1,r1,q1⟩=>?_)
 obtain⟨c,rfl,q1⟩:=q1
 cases r1
 refine wpAny_truthy_bool ?_
 cases c with
 |true=>exact hb pins s1 σ H1 Q I1 q1
 |false=>exact⟨.bl false,H1,I1,rfl,q1⟩
theorem y5y (ha:PE X a ta):PE X (.UnaryOp .Not a pos) (tNotV ta):=by
 intro pins s σ H Q I h
 refine UnaryOp_ (thn (ha pins s σ H _ I h) fun v s1 ⟨x,H1,I1,r1,q1⟩=>?_)
 obtain⟨c,rfl,q1⟩:=q1
 cases r1
 exact not_of (wpAny_truthy_bool ⟨.bl (!c),H1,I1,rfl,q1⟩)
def tIf (t:TT) (ta tb:TE):TE:=fun σ H Q=>t σ H fun c H1=>if c=true then ta σ H1 Q else tb σ H1 Q
theorem z8d {c:Expr} (hc:PT X c tA) (ha:PE X a ta) (hb:PE X b tb):PE X (.IfExp c a b pos) (tIf tA ta tb):=by
 intro pins s σ H Q I h
 refine wpAny_IfExp (thn (hc pins s σ H _ I h) fun d s1 ⟨H1,I1,q1⟩=>?_)
 cases d with
 |true=>exact ha pins s1 σ H1 Q I1 q1
 |false=>exact hb pins s1 σ H1 Q I1 q1
end
end L2
namespace L2
open PySem PySem.Spec PyProof.Rows
def SqL (K:PySem.W.Frag) (H:Hp) (a:Addr) (xs:List V):Prop:=
 Rd H a (.lst xs)∨
    ∃(o:Obj) (its:Array Value) (n:Nat),K.lookup a=some o∧o.cls= .type "list"∧o.dict=none∧o.data= .seq its n∧its.size≤sizeLine∧Vals xs its.toList
def SqT (K:PySem.W.Frag) (H:Hp) (a:Addr) (xs:List V):Prop:=
 Rd H a (.tup xs)∨
    ∃(o:Obj) (its:Array Value) (n:Nat),K.lookup a=some o∧o.cls= .type "tuple"∧o.data= .seq its n∧its.size≤sizeLine∧Vals xs its.toList
def absV:Value→Option V
 | .none =>some .non
 | .bool b=>some (.bl b)
 | .int i _=>some (.int i)
 | .str x _=>some (.str x)
 | .bytes b _=>some (.byt b)
 | .float b _=>some (.flt b)
 | .ref a=>some (.ref a)
 | .type n=>some (.ty n)
 |_=>none
theorem RelV.abs {x:V}{u:Value} (r:RelV x u):absV u=some x:=by
 cases x with
 |non=>cases r;rfl
 |bl _=>cases r;rfl
 |int _=>obtain⟨t,rfl⟩:=r;rfl
 |str _=>obtain⟨t,rfl⟩:=r;rfl
 |byt _=>obtain⟨t,rfl⟩:=r;rfl
 |flt _=>obtain⟨t,rfl⟩:=r;rfl
 |ref _=>cases r;rfl
 |ty _=>cases r;rfl
theorem RelV.inj {x y:V}{u:Value} (r:RelV x u) (q:RelV y u):x=y:=Option.some.inj (r.abs.symm.trans q.abs)
theorem Vals.inj:∀{xs ys:List V}{us:List Value},Vals xs us→Vals ys us→xs=ys
 |_,_,_,.nil,.nil =>rfl
 |_,_,_,.cons r t,.cons r' t'=>by rw[r.inj r',Vals.inj t t']
section
variable {X:Cx}{pins:List (Addr×Obj)}{σ:St}{H:Hp}{s:Shared}{a:Addr}{xs ys:List V}
theorem SqL.of {K:PySem.W.Frag} (h:H a=some (.lst xs)):SqL K H a xs:= .inl (.inl h)
theorem SqT.of {K:PySem.W.Frag} (h:H a=some (.tup xs)):SqT K H a xs:= .inl (.inl h)
theorem Inv.list (I:Inv X pins σ H s) (h:SqL X.K H a xs):∃its:List Value,Vals xs its∧PlainL s.heap a its.toArray∧xs.length≤sizeLine:=by
 rcases h with h|⟨o,its,n,hk,hc,hd,hs,hz,r⟩
 ·obtain⟨z,its,n,r,e⟩:=h.ok I.hok
  exact⟨its,r,⟨_,n,e,rfl,rfl,rfl⟩,z⟩
 ·refine⟨its.toList,r,⟨o,n,I.kIn a o hk,hc,hd,by simpa using hs⟩,?_⟩
  have e:=r.length
  simp only[q1d] at e
  lia
theorem Inv.tuple (I:Inv X pins σ H s) (h:SqT X.K H a xs):∃its:List Value,Vals xs its∧IsTup s.heap a its.toArray∧xs.length≤sizeLine:=by
 rcases h with h|⟨o,its,n,hk,hc,hs,hz,r⟩
 ·obtain⟨z,its,r,p⟩:=h.ok I.hok
  exact⟨its,r,p,z⟩
 ·refine⟨its.toList,r,⟨o,I.kIn a o hk,hc,n,by simpa using hs⟩,?_⟩
  have e:=r.length
  simp only[q1d] at e
  lia
theorem Inv.list_inj (I:Inv X pins σ H s) (h:SqL X.K H a xs) (h':SqL X.K H a ys):xs=ys:=by
 obtain⟨its,r,⟨o,n,e,_,_,d⟩,_⟩:=I.list h
 obtain⟨its',r',⟨o',n',e',_,_,d'⟩,_⟩:=I.list h'
 rw[e] at e';cases e'
 rw[d] at d'
 injection d' with d1 _
 have:its=its':=by simpa using congrArg Array.toList d1
 subst this
 exact r.inj r'
theorem Inv.tuple_inj (I:Inv X pins σ H s) (h:SqT X.K H a xs) (h':SqT X.K H a ys):xs=ys:=by
 obtain⟨its,r,⟨o,e,_,n,d⟩,_⟩:=I.tuple h
 obtain⟨its',r',⟨o',e',_,n',d'⟩,_⟩:=I.tuple h'
 rw[e] at e';cases e'
 rw[d] at d'
 injection d' with d1 _
 have:its=its':=by simpa using congrArg Array.toList d1
 subst this
 exact r.inj r'
end
abbrev Cx.wish (X:Cx) (E:Value→Shared→Prop):Cx:={X with xe:=E}
abbrev Cx.nox (X:Cx):Cx:=X.wish fun _ _=>False
theorem Cx.Ok.wish {X:Cx} (ok:X.Ok) (E:Value→Shared→Prop):(X.wish E).Ok :=
 ⟨ok.mod,ok.kind,ok.glob,ok.blt,ok.above,ok.inj,ok.has,ok.cab,ok.hd,ok.frames,ok.stk,ok.exf,ok.bs,ok.bsz,ok.noex,ok.exfs,ok.funs,ok.frf⟩
theorem Cx.Ok.unwish {X:Cx}{E:Value→Shared→Prop} (ok:(X.wish E).Ok):X.Ok:=
 ⟨ok.mod,ok.kind,ok.glob,ok.blt,ok.above,ok.inj,ok.has,ok.cab,ok.hd,ok.frames,ok.stk,ok.exf,ok.bs,ok.bsz,ok.noex,ok.exfs,ok.funs,ok.frf⟩
section
variable {X:Cx}{pins:List (Addr×Obj)}{σ:St}{H:Hp}{s:Shared}{E:Value→Shared→Prop}
theorem Inv.wish (I:Inv X pins σ H s) (E:Value→Shared→Prop):Inv (X.wish E) pins σ H s:=⟨I.ok.wish E,I.os,I.bare,I.base,I.loc,I.cell,I.free,I.freeC,I.pin,I.hok,I.len⟩
theorem Inv.unwish (I:Inv (X.wish E) pins σ H s):Inv X pins σ H s:=⟨I.ok.unwish,I.os,I.bare,I.base,I.loc,I.cell,I.free,I.freeC,I.pin,I.hok,I.len⟩
theorem SP.unwish {D:y3V}{f:Flow}{s':Shared} (h:SP (X.wish E) pins D f s'):SP X pins D f s':=by
 cases f with
 |next=>obtain⟨σ',H',I,q⟩:=h;exact⟨σ',H',I.unwish,q⟩
 |brk=>obtain⟨σ',H',I,q⟩:=h;exact⟨σ',H',I.unwish,q⟩
 |cont=>obtain⟨σ',H',I,q⟩:=h;exact⟨σ',H',I.unwish,q⟩
 |ret u=>obtain⟨v,σ',H',I,r,q⟩:=h;exact⟨v,σ',H',I.unwish,r,q⟩
theorem PSs.nox {st:List Stmt}{t:TS} (h:PSs X.nox st t):PSs X st t:=fun pins s σ H D I hw=>
 wpAny_mono (h pins s σ H D (I.wish _) hw) (fun _ _ q=>q.unwish) fun _ _ z=>False.elim z
end
section
variable {X:Cx}{st:Stmt}{rest:List Stmt}{t u:TS}{e:Expr}{te:TE}{pos:Pos}
def tNext:TS:=fun D σ H=>D.nx σ H
def tSeq (t u:TS):TS:=fun D σ H=>t {D with nx:=u D} σ H
theorem z0C:PSs X [] tNext:=fun _ _ σ H _ I h=>wpAny_execs_nil ⟨σ,H,I,h⟩
theorem z0b (h1:PS X st t) (h2:PSs X rest u):PSs X (st::rest) (tSeq t u):=by
 intro pins s σ H D I h
 refine wpAny_execs_cons (thn (h1 pins s σ H {D with nx:=u D} I h) fun f s1 q=>?_)
 cases f with
 |next=>
  obtain⟨σ',H',I',q⟩:=q
  exact h2 pins s1 σ' H' D I' q
 |ret v=>exact q
 |brk=>exact q
 |cont=>exact q
theorem z0h (h1:PS X st t):PSs X [st] t:=by
 intro pins s σ H D I h
 refine wpAny_execs_cons (thn (h1 pins s σ H D I h) fun f s1 q=>?_)
 cases f with
 |next=>exact wpAny_execs_nil q
 |ret v=>exact q
 |brk=>exact q
 |cont=>exact q
theorem Inv.quiet {pins:List (Addr×Obj)}{σ:St}{H:Hp}{s:Shared} (I:Inv X pins σ H s):interactive X.env=false:=by simp[interactive,I.ok.kind]
def tDrop (te:TE):TS:=fun D σ H=>te σ H fun _ H1=>D.nx σ H1
theorem z2X (he:PE X e te) (hs:swapsWith e none pos.line X.env=pure false:=by rfl):PS X (.Expr e pos) (tDrop te):=by
 intro pins s σ H D I h
 exact wpAny_Expr_any (thn (he pins s σ H _ I h) fun v s1 ⟨x,H1,I1,r1,q1⟩=>⟨σ,H1,I1,q1⟩) I.quiet hs
def tRet (te:TE):TS:=fun D σ H=>te σ H D.rt
theorem z0A (he:PE X e te):PS X (.Return (some e) pos) (tRet te):=by
 intro pins s σ H D I h
 exact wpAny_Return_some (thn (he pins s σ H _ I h) fun v s1 ⟨x,H1,I1,r1,q1⟩=>⟨x,σ,H1,I1,r1,q1⟩)
def tIfS (c:TT) (t u:TS):TS:=fun D σ H=>c σ H fun b H1=>if b=true then t D σ H1 else u D σ H1
theorem z1c {c:Expr}{a b:List Stmt}{tc:TT} (hc:PT X c tc) (ha:PSs X a t) (hb:PSs X b u):PS X (.If c a b pos) (tIfS tc t u):=by
 intro pins s σ H D I h
 refine wpAny_If (thn (hc pins s σ H _ I h) fun d s1 ⟨H1,I1,q1⟩=>?_)
 cases d with
 |true=>exact ha pins s1 σ H1 D I1 q1
 |false=>exact hb pins s1 σ H1 D I1 q1
def y5e:TS:=fun _ _ _=>False
theorem y2p:PS X st y5e:=fun _ _ _ _ _ _ h=>h.elim
end
abbrev TG:=V→St→Hp→(St→Hp→Prop)→Prop
abbrev TGs:=List V→St→Hp→(St→Hp→Prop)→Prop
def PG (X:Cx) (target:Expr) (t:TG):Prop:=
 ∀(pins:List (Addr×Obj)) (s:Shared) (σ:St) (H:Hp) (v:V) (u:Value) (Q:St→Hp→Prop),Inv X pins σ H s→RelV v u→t v σ H Q→
  wpAny (model X.prog X.w) X.A (assign target X.env u) (fun _ s'=>∃σ' H',Inv X pins σ' H' s'∧Q σ' H') X.xe s
def PGs (X:Cx) (ts:List Expr) (t:TGs):Prop:=
 ∀(pins:List (Addr×Obj)) (s:Shared) (σ:St) (H:Hp) (vs:List V) (us:List Value) (Q:St→Hp→Prop),Inv X pins σ H s→Vals vs us→t vs σ H Q→
  wpAny (model X.prog X.w) X.A (assignInOrder ((assignEach ts X.env).map (·.2)) us) (fun _ s'=>∃σ' H',Inv X pins σ' H' s'∧Q σ' H') X.xe s
abbrev TSet:=V→V→V→Hp→(Hp→Prop)→Prop
def PSet (X:Cx) (t:TSet):Prop:=
 ∀(pins:List (Addr×Obj)) (s:Shared) (σ:St) (H:Hp) (o i v:V) (ov iv u:Value) (Q:Hp→Prop),Inv X pins σ H s→RelV o ov→RelV i iv→RelV v u→t o i v H Q→
  wpAny (model X.prog X.w) X.A (setItem ov iv u) (fun _ s'=>∃H',Inv X pins σ H' s'∧Q H') X.xe s
section
variable {X:Cx}{pos:Pos}
def z9t (i:Nat):TG:=fun v σ H Q=>Q (σ.set i (some v)) H
theorem z0j {i:Nat}{x:Str} (hN:X.N.Nodup) (hi:X.N[i]? =some x) (hx:Loc X.env.scope x) (hf:X.fn x=true∨X.env.scope.names.lookup x=some .local :=by first|exact .inl rfl|exact .inr rfl|assumption):PG X (.Name x pos) (z9t i):=by
 intro pins s σ H v u Q I r h
 exact wpAny_assign_Name (z3Z I hN hi hx r (fun s' I'=>⟨_,H,I',h⟩) hf)
def gNil:TGs:=fun vs σ H Q=>vs=[]∧Q σ H
def gCons (t:TG) (u:TGs):TGs:=fun vs σ H Q=>∃v r,vs=v::r∧t v σ H fun σ' H'=>u r σ' H' Q
theorem z1l:PGs X [] gNil:=by
 intro pins s σ H vs us Q I r h
 obtain⟨e,h⟩:=h
 subst e
 cases r
 exact assignInOrder_nil ⟨σ,H,I,h⟩
theorem z0B {e:Expr}{es:List Expr}{t:TG}{u:TGs} (h1:PG X e t) (h2:PGs X es u)
 (hs:(assignEach (e::es) X.env).map (·.2)=assign e X.env::(assignEach es X.env).map (·.2):=by rfl):PGs X (e::es) (gCons t u):=by
 intro pins s σ H vs us Q I r h
 obtain⟨v,vr,e1,h⟩:=h
 subst e1
 cases r with
 |cons r rr=>
  rw[hs]
  refine assignInOrder_cons (thn (h1 pins s σ H _ _ _ I r h) fun _ s1 ⟨σ1,H1,I1,q1⟩=>?_)
  exact h2 pins s1 σ1 H1 _ _ Q I1 rr q1
def gTup (K:PySem.W.Frag) (n:Nat) (t:TGs):TG:=fun v σ H Q=>∃a xs,v= .ref a∧SqT K H a xs∧xs.length=n∧t xs σ H Q
theorem y5w {es:List Expr}{k:Nat}{t:TGs}{n:Nat} (hc:X.calm=true) (h:PGs X es t)
 (hn:(assignEach es X.env).length =n:=by rfl) (hst:(assignEach es X.env).findIdx? (·.1)=none:=by rfl):PG X (.Tuple es k pos) (gTup X.K n t):=by
 intro pins s σ H v u Q I r hw
 obtain⟨a,xs,e1,hq,hl,hw⟩:=hw
 subst e1
 cases r
 obtain⟨its,rv,ht,hz⟩:=I.tuple hq
 refine assign_Tuple_tuple (I.ok.hd hc) ht (by simp[hn,←hl,rv.length]) hst fun h' hx=>?_
 have I1:Inv X pins σ H {s with heap:=h'}:=I.kept (t':=s.toks) fun b o e=>hx b o (q0r (q0p e)) e
 exact h pins _ σ H xs _ Q I1 (by simpa using rv) hw
def gSub (to ti:TE) (t:TSet):TG:=fun v σ H Q=>to σ H fun o H1=>ti σ H1 fun i H2=>t o i v H2 fun H3=>Q σ H3
theorem z3f {o i:Expr}{to ti:TE}{t:TSet} (ho:PE X o to) (hi:PE X i ti) (hs:PSet X t)
 (ha:∀v,assign (.Subscript o i pos) X.env v=(do
  let ov ←holding [v] (eval o X.env)
  let iv ←holding [v,ov] (eval i X.env)
  standAt pos
  holding [v,ov,iv] (setItem ov iv v)
  release [v,ov,iv] []):=by intro _;rfl):PG X (.Subscript o i pos) (gSub to ti t):=by
 intro pins s σ H v u Q I r h
 rw[ha]
 refine wpAny_bind (wpAny_holding (thn (ho pins s σ H _ I h) fun ov s1 ⟨x,H1,I1,r1,q1⟩=>?_))
 refine wpAny_bind (wpAny_holding (thn (hi pins s1 σ H1 _ I1 q1) fun iv s2 ⟨y,H2,I2,r2,q2⟩=>?_))
 refine wpAny_bind (wpAny_standAt (wpAny_bind (wpAny_holding (thn (hs pins s2 σ H2 x y v ov iv u _ I2 r1 r2 r q2) fun _ s3 ⟨H3,I3,q3⟩=>?_))))
 exact wpAny_release ⟨σ,H3,I3,q3⟩
def tAsg (te:TE) (g:TG):TS:=fun D σ H=>te σ H fun x H1=>g x σ H1 D.nx
theorem z2u {tg e:Expr}{te:TE}{g:TG} (he:PE X e te) (hg:PG X tg g) (hs:swapsWithSole [tg] e pos.line X.env=pure false:=by rfl) (hw:swappedStores [tg] e X.env=pure none:=by rfl)
 (h1:(assignEach [tg] X.env).map (·.2)=[assign tg X.env]:=by rfl):PS X (.Assign [tg] e pos) (tAsg te g):=by
 intro pins s σ H D I h
 refine wpAny_Assign_stores (thn (he pins s σ H _ I h) fun v s1 ⟨x,H1,I1,r1,q1⟩=>?_) hs hw
 rw[h1]
 exact thn (hg pins s1 σ H1 x v _ I1 r1 q1) fun _ s2 q=>q
theorem z0n {i:Nat}{x:Str}{e:Expr}{te:TE}{pos':Pos} (hN:X.N.Nodup) (hi:X.N[i]? =some x) (hx:Loc X.env.scope x) (he:PE X e te) (hs:swapsWith e (some (.Name x pos')) pos.line X.env=pure false:=by rfl) (hf:X.fn x=true∨X.env.scope.names.lookup x=some .local :=by first|exact .inl rfl|exact .inr rfl|assumption):
 PS X (.Assign [.Name x pos'] e pos) (tAsg te (z9t i)):=by
 intro pins s σ H D I h
 refine wpAny_Assign_Name (thn (he pins s σ H _ I h) fun v s1 ⟨y,H1,I1,r1,q1⟩=>?_) hs
 exact z3Z I1 hN hi hx r1 (fun s2 I2=>⟨_,H1,I2,q1⟩) hf
def tPar (i j:Nat) (ta:TA):TS:=fun D σ H=>ta σ H fun vs H1=>∃v w,vs=[v,w]∧D.nx ((σ.set i (some v)).set j (some w)) H1
theorem y5r {i j:Nat}{x y:Str}{a b:Expr}{ta:TA}{px py pt:Pos} {kt k2 pt2} (hc:X.calm=true) (hN:X.N.Nodup) (hi:X.N[i]? =some x) (hj:X.N[j]? =some y) (hij:i≠j)
 (hx:X.env.scope.names.lookup x=some .local) (hy:X.env.scope.names.lookup y=some .local) (ha:PA X [a,b] ta)
 (hw:swappedStores [.Tuple [.Name x px,.Name y py] kt pt] (.Tuple [a,b] k2 pt2) X.env=pure (some [x,y]))
 (hs:swapsWithSole [.Tuple [.Name x px,.Name y py] kt pt] (.Tuple [a,b] k2 pt2) pos.line X.env=pure false:=by rfl):
 PS X (.Assign [.Tuple [.Name x px,.Name y py] kt pt] (.Tuple [a,b] k2 pt2) pos) (tPar i j ta):=by
 intro pins s σ H D I h
 rw[exec_Assign_arm]
 refine wpAny_bind (wpAny_standAt ?_)
 rw[hs]
 refine wpAny_bind (wpAny_pure ?_)
 rw[if_neg (by decide)]
 refine wpAny_bind (Tuple_ (thn (ha _ pins s σ H _ I h) fun us s1 ⟨vs,H1,I1,r1,q1⟩=>?_))
 obtain⟨v,w,e1,q1⟩:=q1
 subst e1
 obtain⟨u1,u2,rfl,rv,rw'⟩:∃u1 u2,us=[u1,u2]∧RelV v u1∧RelV w u2:=by
  cases r1 with
  |cons p q=>
   cases q with
   |cons p' q'=>
    cases q'
    exact⟨_,_,rfl,p,p'⟩
 refine wpAny_newObj_type ?_ (by show 2≤sizeLine;decide)
 have I2:Inv X pins σ H1 {s1 with heap:=s1.heap.push {cls:= .type "tuple",data:= .seq [u1,u2].toArray}}:=I1.kept (t':=s1.toks) fun b o e=>q0d _ e
 rw[hw]
 refine wpAny_bind (wpAny_pure ?_)
 show wpAny (model X.prog X.w) X.A (do rule "assign.swapped-stores";let items ←unpackItems (.ref s1.heap.objs.size) 2 none;assignInOrder [fun v=>bindName X.env y v,fun v=>bindName X.env x v] items.reverse;pure Flow.next) _ _ _
 refine wpAny_bind (wpAny_rule (wpAny_bind (unpackItems_tuple (items:= #[u1,u2]) (I.ok.hd hc) (IsTup.new s1.heap _) fun h' hx'=>?_)))
 have I3:=I2.kept (h':=h') (t':=s1.toks) fun b o e=>hx' b o (q0r (q0p e)) e
 show wpAny _ _ (assignInOrder [fun v=>bindName X.env y v,fun v=>bindName X.env x v] [u2,u1]>>= fun _=>pure Flow.next) _ _ _
 refine wpAny_bind (assignInOrder_cons (wpAny_bindName (z3Z I3 hN hj (.inl hy) rw' (fun s2 I4=>?_) (.inr hy))))
 refine assignInOrder_cons (wpAny_bindName (z3Z I4 hN hi (.inl hx) rv (fun s3 I5=>assignInOrder_nil (wpAny_pure ?_)) (.inr hx)))
 rw[List.set_comm _ _ (Ne.symm hij)] at I5
 exact⟨_,H1,I5,q1⟩
end
section
variable {X:Cx}{pos:Pos}
def y3k (c:TT) (tb:TS):TS:=fun D σ H=>∃W:Nat→St→Hp→Prop,(∃m,W m σ H)∧∀m σ H,W m σ H→
 c σ H fun b H1=>if b=true then ∃N:St→Hp→Prop,(∀σ' H',N σ' H'→∃m',m'<m∧W m' σ' H')∧tb {D with nx:=N,ct:=N,bk:=D.nx} σ H1 else D.nx σ H1
theorem z7X {c:Expr}{body:List Stmt}{tc:TT}{tb:TS} (hp:PassesOwn (model X.prog X.w) X.A X.env X.xe) (hc:PT X c tc) (hb:PSs X body tb):PS X (.While c body [] pos) (y3k tc tb):=by
 intro pins s σ H D I h
 obtain⟨W,⟨m0,w0⟩,turn⟩:=h
 refine wpAny_While (codeAny_whileLoop (fun n s'=>∃σ' H',Inv X pins σ' H' s'∧W n σ' H') ?_ m0 ⟨σ,H,I,w0⟩)
 rintro n s1 ⟨σ1,H1,I1,w1⟩
 refine wpAny_passesOwn hp (thn (hc pins s1 σ1 H1 _ I1 (turn n σ1 H1 w1)) fun b s2 ⟨H2,I2,q2⟩=>?_)
 cases b with
 |true=>
  obtain⟨N,hN,q2⟩:=q2
  rw[if_pos rfl]
  refine wpAny_passesOwn hp (thn (hb pins s2 σ1 H2 _ I2 q2) fun f s3 q3=>?_)
  cases f with
  |next=>
   obtain⟨σ3,H3,I3,n3⟩:=q3
   obtain⟨m',hm,w3⟩:=hN σ3 H3 n3
   exact⟨m',hm,σ3,H3,I3,w3⟩
  |cont=>
   obtain⟨σ3,H3,I3,n3⟩:=q3
   obtain⟨m',hm,w3⟩:=hN σ3 H3 n3
   exact⟨m',hm,σ3,H3,I3,w3⟩
  |brk=>exact q3
  |ret v=>exact q3
 |false=>
  rw[if_neg q0B]
  exact wpAny_execs_nil ⟨σ1,H2,I2,q2⟩
end
structure It where
 go:Nat→Hp→Prop
 yld:Nat→Hp→V→Hp→Prop
 stop:Nat→Hp→Prop
def y1Q (X:Cx) (pins:List (Addr×Obj)) (H:Hp) (b:Addr):Prop:=
 H b=none∧b≠X.env.locals∧b∉X.fs∧(b∈X.ex∨X.s₀.heap.objs.size≤b)∧(∀x c,X.env.cells.lookup x=some c→c≠b)∧∀p∈X.pn++pins,p.1≠b
theorem Inv.fpOk {X:Cx}{pins:List (Addr×Obj)}{σ:St}{H H':Hp}{s:Shared}{b:Addr} (I:Inv X pins σ H s) (hb:s.heap.objs.size≤b) (hn:H' b=none):y1Q X pins H' b:=by
 refine⟨hn,Nat.ne_of_gt (q0K I.lt hb),I.nofs hb,.inr (q0o I.sz hb),fun x c e z=>?_,fun p hp z=>?_⟩
 ·obtain⟨v,q⟩:=I.cell x c e
  exact absurd (q0K q.lt (by rw[z];exact hb)) (q1Q _)
 ·exact absurd (q0K (q0p (I.pin p hp).1) (by rw[z];exact hb)) (q1Q _)
structure y3T (P:Program) (w:World) (K:PySem.W.Frag) (tg:Expr) (J:It) (fp:List Addr) (it:Addr) (tn:Nat→Heap→Prop):Prop where
 mem:it∈fp
 obj:∀i h,tn i h→∀b∈fp,∃o,h.get? b=some o∧∀v,o.data≠ .cell v
 keep:∀i h h',tn i h→(∀b∈fp,∀o,h.get? b=some o→h'.get? b=some o)→tn i h'
 item:∀(X:Cx),X.prog=P→X.w=w→X.K=K→X.calm=true→∀(i:Nat) (pins:List (Addr×Obj)) (s:Shared) (σ:St) (H:Hp) (E:Value→Shared→Prop),Inv X pins σ H s→(∀b∈fp,y1Q X pins H b)→tn i s.heap→J.go i H→
  wpAny (model P w) X.A (pyNext (.ref it)) (fun r s1=>∃u,r=some u∧
   wpAny (model P w) X.A (letOwnedTupleGo tg (.ref it) u) (fun _ s2=>∃x H',Inv X pins σ H' s2∧RelV x u∧J.yld i H x H'∧tn (i+1) s2.heap∧∀b∈fp,H' b=none) E s1) E s
 done:∀(X:Cx),X.prog=P→X.w=w→X.K=K→X.calm=true→∀(i:Nat) (pins:List (Addr×Obj)) (s:Shared) (σ:St) (H:Hp) (E:Value→Shared→Prop),Inv X pins σ H s→(∀b∈fp,y1Q X pins H b)→tn i s.heap→J.stop i H→
  wpAny (model P w) X.A (pyNext (.ref it)) (fun r s1=>r=none∧Inv X pins σ H s1) E s
 self:∀(A:Around) (i:Nat) (s:Shared) (Q:Value→Shared→Prop) (E:Value→Shared→Prop),tn i s.heap→Q (.ref it) s→wpAny (model P w) A (pyIter (.ref it)) Q E s
abbrev TI:=St→Hp→(It→Hp→Prop)→Prop
def PIE (X:Cx) (pins:List (Addr×Obj)) (σ:St) (tg:Expr) (R:It→Hp→Prop) (itv:Value) (s2:Shared):Prop:=
 ∃(it:Addr) (fp:List Addr) (tn:Nat→Heap→Prop) (J:It) (H':Hp),itv= .ref it∧Inv X pins σ H' s2∧y3T X.prog X.w X.K tg J fp it tn∧tn 0 s2.heap∧(∀b∈fp,y1Q X pins H' b)∧R J H'
def PI (X:Cx) (tg iter:Expr) (wi:TI):Prop:=
 ∀(pins:List (Addr×Obj)) (s:Shared) (σ:St) (H:Hp) (R:It→Hp→Prop),Inv X pins σ H s→wi σ H R→
  wpAny (model X.prog X.w) X.A (eval iter X.env) (fun v s1=>wpAny (model X.prog X.w) X.A (pyIter v) (PIE X pins σ tg R) X.xe s1) X.xe s
theorem y2R {M:Model}{A:Around}{E:Value→Shared→Prop}{s:Shared}{tg:Expr}{it:Addr}{u:Value}{o:Obj}{n:String}{vs:Array Value}{Q:Unit→Shared→Prop} (ho:s.heap.get? it=some o) (hc:o.cls= .type n) (hd:o.data= .fields vs)
 (hn:["enumerate","zip","dict_itemiterator","dict_reverseitemiterator","odict_iterator","itertools.zip_longest","itertools.pairwise"].contains n=false) (hQ:Q () s):wpAny M A (letOwnedTupleGo tg (.ref it) u) Q E s:=by
 unfold letOwnedTupleGo
 cases tg<;>first
  |exact wpAny_pure hQ
  |(cases u<;>first
       |exact wpAny_pure hQ
       |(refine wpAny_bind (wpAny_load ho ?_)
         rw[hc,hd]
         show wpAny M A (if (["enumerate","zip","dict_itemiterator","dict_reverseitemiterator","odict_iterator","itertools.zip_longest","itertools.pairwise"].contains n&&vs[0]? ==some (rawInt _))=true then _ else _) Q E s
         rw[if_neg (by intro h;rw[hn,Bool.false_and] at h;cases h)]
         exact wpAny_pure hQ))
def Itl (K:PySem.W.Frag) (a:Addr):It:=
 ⟨fun i H=>∃xs x,SqL K H a xs∧xs[i]? =some x,fun i H x H'=>H'=H∧∀xs,SqL K H a xs→xs[i]? =some x,fun i H=>∃xs,SqL K H a xs∧xs.length≤i⟩
def Itt (K:PySem.W.Frag) (a:Addr):It:=
 ⟨fun i H=>∃xs x,SqT K H a xs∧xs[i]? =some x,fun i H x H'=>H'=H∧∀xs,SqT K H a xs→xs[i]? =some x,fun i H=>∃xs,SqT K H a xs∧xs.length≤i⟩
def Itr (lo:Int) (n:Nat):It:=⟨fun i _=>i<n,fun i H x H'=>H'=H∧x= .int (lo+i),fun i _=>n≤i⟩
theorem z6f {P:Program}{w:World}{K:PySem.W.Frag}{tg:Expr} (a it:Addr):y3T P w K tg (Itl K a) [it] it (fun i h=>h.IsListIter it a i) where
 mem:=by simp
 obj:=fun i h st b hb=>by
  have e:b=it:=by simpa using hb
  subst e
  obtain⟨o,e,c,d⟩:=st
  exact⟨o,e,fun v z=>by rw[d] at z;cases z⟩
 keep:=fun i h h' st k=>st.at fun o e=>k it (by simp) o e
 item:=by
  intro X hP hw hK hc i pins s σ H E I hf st hg
  subst hP hw hK
  obtain⟨xs,x,hq,hx⟩:=hg
  obtain⟨its,rv,p,hz⟩:=I.list hq
  obtain⟨u,hu,ru⟩:=rv.get hx
  obtain⟨f0,f1,f2,f3,f4,f5⟩:=hf it (by simp)
  refine wpAny_pyNext_list_item st p.isList (x:=u) (by simpa using hu) fun h' st' sb=>?_
  have I1:Inv X pins σ H {s with heap:=h'}:=I.turned (t':=s.toks) (fun b o hb e=>(sb.2 b hb).trans e) f0 f1 f3 f4 f5
  obtain⟨o,e,c,d⟩:=id st'
  exact⟨u,rfl,y2R (s:={s with heap:=h'}) e c d (by decide) ⟨x,H,I1,ru,⟨rfl,fun ys hy=>by rw[I.list_inj hy hq];exact hx⟩,st',fun b hb=>(hf b hb).1⟩⟩
 done:=by
  intro X hP hw hK hc i pins s σ H E I hf st hg
  subst hP hw hK
  obtain⟨xs,hq,hx⟩:=hg
  obtain⟨its,rv,p,hz⟩:=I.list hq
  obtain⟨f0,f1,f2,f3,f4,f5⟩:=hf it (by simp)
  have hl:=rv.length
  exact wpAny_pyNext_list_end (I.ok.hd hc) st p.isList (by simp;lia) fun h' eb=>⟨rfl,I.turned (t':=s.toks) (fun b o hb e=>eb b o hb e) f0 f1 f3 f4 f5⟩
 self:=fun _ _ _ _ _ st h=>wpAny_pyIter_listiter st h
theorem z4T {P:Program}{w:World}{K:PySem.W.Frag}{tg:Expr} (a it:Addr):y3T P w K tg (Itt K a) [it] it (fun i h=>h.IsTupleIter it a i) where
 mem:=by simp
 obj:=fun i h st b hb=>by
  have e:b=it:=by simpa using hb
  subst e
  obtain⟨o,e,c,d⟩:=st
  exact⟨o,e,fun v z=>by rw[d] at z;cases z⟩
 keep:=fun i h h' st k=>st.at fun o e=>k it (by simp) o e
 item:=by
  intro X hP hw hK hc i pins s σ H E I hf st hg
  subst hP hw hK
  obtain⟨xs,x,hq,hx⟩:=hg
  obtain⟨its,rv,p,hz⟩:=I.tuple hq
  obtain⟨u,hu,ru⟩:=rv.get hx
  obtain⟨f0,f1,f2,f3,f4,f5⟩:=hf it (by simp)
  refine wpAny_pyNext_tuple_item st (show s.heap.IsTuple a its.toArray from p) (x:=u) (by simpa using hu) fun h' st' sb=>?_
  have I1:Inv X pins σ H {s with heap:=h'}:=I.turned (t':=s.toks) (fun b o hb e=>(sb.2 b hb).trans e) f0 f1 f3 f4 f5
  obtain⟨o,e,c,d⟩:=id st'
  exact⟨u,rfl,y2R (s:={s with heap:=h'}) e c d (by decide) ⟨x,H,I1,ru,⟨rfl,fun ys hy=>by rw[I.tuple_inj hy hq];exact hx⟩,st',fun b hb=>(hf b hb).1⟩⟩
 done:=by
  intro X hP hw hK hc i pins s σ H E I hf st hg
  subst hP hw hK
  obtain⟨xs,hq,hx⟩:=hg
  obtain⟨its,rv,p,hz⟩:=I.tuple hq
  obtain⟨f0,f1,f2,f3,f4,f5⟩:=hf it (by simp)
  have hl:=rv.length
  exact wpAny_pyNext_tuple_end (I.ok.hd hc) st (show s.heap.IsTuple a its.toArray from p) (by simp;lia) fun h' eb=>⟨rfl,I.turned (t':=s.toks) (fun b o hb e=>eb b o hb e) f0 f1 f3 f4 f5⟩
 self:=fun _ _ _ _ _ st h=>wpAny_pyIter_tupleiter st h
theorem z8P {P:Program}{w:World}{K:PySem.W.Frag}{tg:Expr} (it:Addr) (lo:Int) (n:Nat):y3T P w K tg (Itr lo n) [it] it (fun i h=>IsRangeIter h it (lo+(i:Nat)*1) ((n:Int) - (i:Nat)) 1) where
 mem:=by simp
 obj:=fun i h st b hb=>by
  have e:b=it:=by simpa using hb
  subst e
  exact⟨_,st,fun v z=>by
    have z':Data.fields _=Data.cell v:=z
    cases z'⟩
 keep:=fun i h h' st k=>k it (by simp) _ st
 item:=by
  intro X hP hw hK hc i pins s σ H E I hf st hg
  subst hP hw hK
  obtain⟨f0,f1,f2,f3,f4,f5⟩:=hf it (by simp)
  have W:=Walks.range (prog:=X.prog) (w:=X.w) (I.ok.hd hc) it lo 1 n
  refine W.item i s _ _ hg st fun v h' tk hv st' kk=>?_
  obtain⟨t,rfl⟩:=hv
  have I1:Inv X pins σ H {s with heap:=h',toks:=tk}:=I.turned (fun b o hb e=>kk b o (by simpa using hb) e) f0 f1 f3 f4 f5
  refine⟨_,rfl,y2R (s:={s with heap:=h',toks:=tk}) (n:="range_iterator") st' rfl rfl (by decide) ⟨.int (lo+i),H,I1,⟨t,?_⟩,⟨rfl,rfl⟩,st',fun b hb=>(hf b hb).1⟩⟩
  rw[Int.mul_one]
 done:=by
  intro X hP hw hK hc i pins s σ H E I hf st hg
  subst hP hw hK
  obtain⟨f0,f1,f2,f3,f4,f5⟩:=hf it (by simp)
  exact wpAny_pyNext_range_end (I.ok.hd hc) st (by have:n≤i:=hg;lia) fun h' eb=>⟨rfl,I.turned (t':=s.toks) (fun b o hb e=>eb b o hb e) f0 f1 f3 f4 f5⟩
 self:=fun _ _ _ _ _ st h=>wpAny_pyIter_rangeiter st h
end L2
namespace L2
open PySem PySem.Spec PyProof.Rows
section
variable {X:Cx}{tg:Expr}
def y5U (K:PySem.W.Frag) (tl:TE):TI:=fun σ H R=>tl σ H fun x H1=>∃a,x= .ref a∧(∃xs,SqL K H1 a xs)∧R (Itl K a) H1
def iTup (K:PySem.W.Frag) (tl:TE):TI:=fun σ H R=>tl σ H fun x H1=>∃a,x= .ref a∧(∃xs,SqT K H1 a xs)∧R (Itt K a) H1
theorem y4r {l:Expr}{tl:TE} (hl:PE X l tl):PI X tg l (y5U X.K tl):=by
 intro pins s σ H R I h
 refine thn (hl pins s σ H _ I h) fun v s1 ⟨x,H1,I1,r1,q1⟩=>?_
 obtain⟨a,e,⟨xs,hq⟩,q⟩:=q1
 subst e
 cases r1
 obtain⟨its,rv,p,hz⟩:=I1.list hq
 refine wpAny_pyIter_list p.isList ?_
 refine⟨s1.heap.objs.size,[s1.heap.objs.size],_,_,H1,rfl,I1.kept (t':=s1.toks) fun b o e=>q0d _ e,z6f a _,⟨_,q0q _ rfl,rfl,rfl⟩,fun b hb=>?_,q⟩
 have e:b=s1.heap.objs.size:=by simpa using hb
 subst e
 exact I1.fpOk (q0e _) (I1.hok.fresh (q0e _))
theorem y5u {l:Expr}{tl:TE} (hl:PE X l tl):PI X tg l (iTup X.K tl):=by
 intro pins s σ H R I h
 refine thn (hl pins s σ H _ I h) fun v s1 ⟨x,H1,I1,r1,q1⟩=>?_
 obtain⟨a,e,⟨xs,hq⟩,q⟩:=q1
 subst e
 cases r1
 obtain⟨its,rv,p,hz⟩:=I1.tuple hq
 refine wpAny_pyIter_tuple (show s1.heap.IsTuple a its.toArray from p) ?_
 refine⟨s1.heap.objs.size,[s1.heap.objs.size],_,_,H1,rfl,I1.kept (t':=s1.toks) fun b o e=>q0d _ e,z4T a _,⟨_,q0q _ rfl,rfl,rfl⟩,fun b hb=>?_,q⟩
 have e:b=s1.heap.objs.size:=by simpa using hb
 subst e
 exact I1.fpOk (q0e _) (I1.hok.fresh (q0e _))
theorem y2o {pins:List (Addr×Obj)}{σ:St}{H:Hp}{s:Shared}{R:It→Hp→Prop}{E:Value→Shared→Prop}{lo hi:Int}{t u v:Tok}{tk:Nat} (I:Inv X pins σ H s) (h1: -(2^62)≤lo) (h2:lo<2^62) (h3: -(2^62)≤hi) (h4:hi<2^62)
 (q:R (Itr lo (hi - lo).toNat) H):wpAny (model X.prog X.w) X.A (pyIter (.ref s.heap.objs.size)) (PIE X pins σ tg R) E {s with heap:=s.heap.push {cls:= .type "range",data:= .fields #[.int lo t,.int hi u,.int 1 v]},toks:=tk}:=by
 refine wpAny_pyIter_range (IsRange.new ..) (small_one h1 h2 h3 h4) ?_
 have I1:Inv X pins σ H {s with heap:=s.heap.push {cls:= .type "range",data:= .fields #[.int lo t,.int hi u,.int 1 v]},toks:=tk}:=I.kept fun b o e=>q0d _ e
 refine⟨(s.heap.push {cls:= .type "range",data:= .fields #[.int lo t,.int hi u,.int 1 v]}).objs.size,[(s.heap.push {cls:= .type "range",data:= .fields #[.int lo t,.int hi u,.int 1 v]}).objs.size],_,_,H,rfl,
  I1.kept (t':=tk) fun b o e=>q0d _ e,z8P _ lo (hi - lo).toNat,?_,fun b hb=>?_,q⟩
 ·have e1:lo+((0:Nat):Int)*1=lo:=by simp
  have e2:(((hi - lo).toNat :Nat):Int) - ((0:Nat):Int)=Builtin.Range.rangeSize lo hi 1:=by rw[rangeSize_one];split<;>lia
  show IsRangeIter _ _ (lo+((0:Nat):Int)*1) ((((hi - lo).toNat :Nat):Int) - ((0:Nat):Int)) 1
  rw[e1,e2]
  exact q0q _ rfl
 ·have e:b=(s.heap.push {cls:= .type "range",data:= .fields #[.int lo t,.int hi u,.int 1 v]}).objs.size :=by simpa using hb
  subst e
  exact I1.fpOk (q0e _) (I1.hok.fresh (q0e _))
def iRng1 (ta:TA):TI:=fun σ H R=>ta σ H fun vs H1=>∃j:Int,vs=[.int j]∧ -(2^62)≤j∧j<2^62∧R (Itr 0 j.toNat) H1
theorem z2d {a:Expr}{ta:TA}{p pos:Pos} (hg:Gl X "range") (hm:X.mg "range"=none) (ha:PA X [a] ta) (hs:starEach [a] X.env=[(false,eval a X.env)]:=by rfl):PI X tg (.Call (.Name "range" p) [a] [] pos) (iRng1 ta):=by
 intro pins s σ H R I h
 refine Call_ (z3P I hg hm boot_range (PyProof.Rows.callWith_type1 (thn (ha pos pins s σ H _ I h) fun us s1 ⟨vs,H1,I1,r1,q1⟩=>?_) hs rfl))
 obtain⟨j,e,q1,q2,q⟩:=q1
 subst e
 cases r1 with
 |cons r rr=>
  cases rr
  obtain⟨t,rfl⟩:=r
  exact call_range_1 (y2o I1 (by lia) (by lia) q1 q2 (by simpa using q))
def tFor (wi:TI) (g:TG) (tb:TS):TS:=fun D σ H=>wi σ H fun J H1=>∃W:Nat→Nat→St→Hp→Prop,(∃m,W 0 m σ H1)∧∀i m σ H,W i m σ H→
 (J.stop i H∧D.nx σ H)∨(J.go i H∧∃N:St→Hp→Prop,(∀σ' H',N σ' H'→∃m',m'<m∧W (i+1) m' σ' H')∧∀x H',J.yld i H x H'→g x σ H' fun σ2 H2=>tb {D with nx:=N,ct:=N,bk:=D.nx} σ2 H2)
def z4Z (fp:List Addr) (h:Heap):List (Addr×Obj):=fp.filterMap fun b=>(h.get? b).map fun o=>(b,o)
theorem z1G {fp:List Addr}{h:Heap}{b:Addr}{o:Obj} (hb:b∈fp) (e:h.get? b=some o):(b,o)∈z4Z fp h:=List.mem_filterMap.mpr ⟨b,hb,by rw[e];rfl⟩
theorem y0E {fp:List Addr}{h:Heap}{p:Addr×Obj} (hp:p∈z4Z fp h):p.1∈fp∧h.get? p.1=some p.2:=by
 obtain⟨b,hb,e⟩:=List.mem_filterMap.mp hp
 cases q:h.get? b with
 |none=>rw[q] at e;cases e
 |some o=>
  rw[q] at e
  have e':(b,o)=p:=Option.some.inj e
  subst e'
  exact⟨hb,q⟩
theorem Inv.pinned {pins:List (Addr×Obj)}{σ:St}{H:Hp}{s:Shared}{fp:List Addr} (I:Inv X pins σ H s) (hf:∀b∈fp,y1Q X pins H b) (ho:∀b∈fp,∃o,s.heap.get? b=some o∧∀v,o.data≠ .cell v):Inv X (pins++z4Z fp s.heap) σ H s:=
 I.pins_of fun p hp=>(q0s.mp hp).elim (fun z=>I.pin p (q0I _ z)) fun z=>by
  obtain⟨hb,e⟩:=y0E z
  obtain⟨f0,f1,f2,_⟩:=hf p.1 hb
  obtain⟨o,e',d⟩:=ho p.1 hb
  rw[e] at e';cases e'
  exact⟨e,f0,f1,f2,d⟩
theorem Inv.unpinned {pins pl:List (Addr×Obj)}{σ:St}{H:Hp}{s:Shared} (I:Inv X (pins++pl) σ H s):Inv X pins σ H s:=I.pins_of fun p hp=>I.pin p (q0I _ (q0C _ hp))
theorem z1b {iter:Expr}{body:List Stmt}{wi:TI}{g:TG}{tb:TS}{pos:Pos} (hp:PassesOwn (model X.prog X.w) X.A X.env X.xe) (hc:X.calm=true) (hi:PI X tg iter wi) (hg:PG X tg g) (hb:PSs X body tb)
 (hs:∀x,foldedSetIterable iter X.env x=pure x:=by intro _;rfl):PS X (.For tg iter body [] pos) (tFor wi g tb):=by
 intro pins s σ H D I h
 refine wpAny_For (thn (hi pins s σ H _ I h) fun v s1 h1=>thn h1 fun itv s2 h2=>?_) hs
 obtain⟨it,fp,tn,J,H2,e,I2,T,st2,f2,W,⟨m0,w0⟩,turn⟩:=h2
 subst e
 have stat:∀{H':Hp},(∀b∈fp,H' b=none)→∀b∈fp,y1Q X pins H' b:=fun hn b hb=>⟨hn b hb,(f2 b hb).2⟩
 refine codeAny_forLoop_any (fun n s'=>∃i σ' H',Inv X pins σ' H' s'∧tn i s'.heap∧(∀b∈fp,H' b=none)∧W i n σ' H') ?_ m0 ⟨0,σ,H2,I2,st2,fun b hb=>(f2 b hb).1,w0⟩
 rintro n s3 ⟨i,σ3,H3,I3,st3,fr3,w3⟩
 rcases turn i n σ3 H3 w3 with⟨stop,qn⟩|⟨go,N,hN,step⟩
 ·refine wpAny_passesOwn hp (thn (T.done X rfl rfl rfl hc i pins s3 σ3 H3 X.xe I3 (stat fr3) st3 stop) fun r s4 ⟨hr,I4⟩=>?_)
  subst hr
  exact wpAny_execs_nil ⟨σ3,H3,I4,qn⟩
 ·refine wpAny_passesOwn hp (thn (T.item X rfl rfl rfl hc i pins s3 σ3 H3 X.xe I3 (stat fr3) st3 go) fun r s4 ⟨u,hr,h4⟩=>?_)
  subst hr
  refine wpAny_passesOwn hp (thn h4 fun _ s5 ⟨x,H5,I5,r5,y5,st5,fr5⟩=>?_)
  have I5':=I5.pinned (stat fr5) (T.obj _ _ st5)
  refine wpAny_passesOwn hp (thn (hg _ s5 σ3 H5 x u _ I5' r5 (step x H5 y5)) fun _ s6 ⟨σ6,H6,I6,q6⟩=>?_)
  refine wpAny_passesOwn hp (thn (hb _ s6 σ6 H6 _ I6 q6) fun f s7 q7=>?_)
  have again:∀{σ7:St}{H7:Hp},Inv X (pins++z4Z fp s5.heap) σ7 H7 s7→N σ7 H7→∃m,m<n∧∃i σ' H',Inv X pins σ' H' s7∧tn i s7.heap∧(∀b∈fp,H' b=none)∧W i m σ' H':=fun {σ7 H7} I7 n7=>by
   obtain⟨m',hm,w7⟩:=hN σ7 H7 n7
   refine⟨m',hm,i+1,σ7,H7,I7.unpinned,T.keep _ _ _ st5 fun b hb o e=>(I7.pin (b,o) (q0I _ (q0I _ (z1G hb e)))).1,fun b hb=>?_,w7⟩
   obtain⟨o,e,d⟩:=T.obj _ _ st5 b hb
   exact (I7.pin (b,o) (q0I _ (q0I _ (z1G hb e)))).2.1
  cases f with
  |next=>obtain⟨σ7,H7,I7,n7⟩:=q7;exact again I7 n7
  |cont=>obtain⟨σ7,H7,I7,n7⟩:=q7;exact again I7 n7
  |brk=>obtain⟨σ7,H7,I7,q7⟩:=q7;exact⟨σ7,H7,I7.unpinned,q7⟩
  |ret v=>obtain⟨x7,σ7,H7,I7,r7,q7⟩:=q7;exact⟨x7,σ7,H7,I7.unpinned,r7,q7⟩
end
theorem z7K {c:TT}{tb:TS}{D:y3V}{σ:St}{H:Hp} (Pv:St→Hp→Prop) (μ:St→Hp→Nat) (h0:Pv σ H)
 (hs:∀σ H,Pv σ H→c σ H fun b H1=>if b=true then tb {D with nx:=fun σ' H'=>Pv σ' H'∧μ σ' H'<μ σ H,ct:=fun σ' H'=>Pv σ' H'∧μ σ' H'<μ σ H,bk:=D.nx} σ H1 else D.nx σ H1)
 (mono:∀σ H Q Q',(∀b H1,Q b H1→Q' b H1)→c σ H Q→c σ H Q'):y3k c tb D σ H:=by
 refine⟨fun m σ H=>m=μ σ H∧Pv σ H,⟨_,rfl,h0⟩,?_⟩
 rintro m σ H ⟨rfl,p⟩
 refine mono σ H _ _ (fun b H1 q=>?_) (hs σ H p)
 cases b with
 |true=>exact⟨_,fun σ' H' ⟨p',l⟩=>⟨_,l,rfl,p'⟩,q⟩
 |false=>exact q
end L2
namespace L2
open PySem PySem.Spec PyProof.Rows
abbrev R2:=V→V→Hp→VK→Prop
def OpR (X:Cx) (f:Value→Value→Sem Value) (r:R2):Prop:=
 ∀(pins:List (Addr×Obj)) (s:Shared) (σ:St) (H:Hp) (x y:V) (v u:Value) (Q:VK),Inv X pins σ H s→RelV x v→RelV y u→r x y H Q→
  wpAny (model X.prog X.w) X.A (f v u) (EP X pins σ Q) X.xe s
def UnR (X:Cx) (f:Value→Sem Value) (r:V→Hp→VK→Prop):Prop:=
 ∀(pins:List (Addr×Obj)) (s:Shared) (σ:St) (H:Hp) (x:V) (v:Value) (Q:VK),Inv X pins σ H s→RelV x v→r x H Q→
  wpAny (model X.prog X.w) X.A (f v) (EP X pins σ Q) X.xe s
def z2B (X:Cx) (f:Value) (r:List V→Hp→VK→Prop):Prop:=
 ∀(pins:List (Addr×Obj)) (s:Shared) (σ:St) (H:Hp) (xs:List V) (us:List Value) (Q:VK),Inv X pins σ H s→Vals xs us→r xs H Q→
  wpAny (model X.prog X.w) X.A (call f us) (EP X pins σ Q) X.xe s
def tOp (r:R2) (ta tb:TE):TE:=fun σ H Q=>ta σ H fun x H1=>tb σ H1 fun y H2=>r x y H2 Q
def tUn (r:V→Hp→VK→Prop) (ta:TE):TE:=fun σ H Q=>ta σ H fun x H1=>r x H1 Q
def rI (C:Int→Int→Prop) (g:Int→Int→V):R2:=fun x y H Q=>∃i j,x= .int i∧y= .int j∧C i j∧Q (g i j) H
def rI0 (g:Int→Int→V):R2:=fun x y H Q=>∃i j,x= .int i∧y= .int j∧Q (g i j) H
def rU (g:Int→V):V→Hp→VK→Prop:=fun x H Q=>∃i,x= .int i∧Q (g i) H
section
variable {X:Cx}{a b c:Expr}{ta tb tc:TE}{pos:Pos}
theorem binT (ha:PE X a ta) (hb:PE X b tb) {pins:List (Addr×Obj)}{s:Shared}{σ:St}{H:Hp}{R:V→V→Hp→Prop} (I:Inv X pins σ H s)
 (h:ta σ H fun x H1=>tb σ H1 fun y H2=>R x y H2) {Q:Value→Shared→Prop}{f:Value→Value→Sem Value}
 (hf:∀v u s2 x y H2,Inv X pins σ H2 s2→RelV x v→RelV y u→R x y H2→wpAny (model X.prog X.w) X.A (f v u) Q X.xe s2):
 wpAny (model X.prog X.w) X.A (eval a X.env) (fun v s₁=>wpAny (model X.prog X.w) X.A (eval b X.env) (fun u s₂=>wpAny (model X.prog X.w) X.A (f v u) Q X.xe s₂) X.xe s₁) X.xe s:=by
 refine thn (ha pins s σ H _ I h) fun v s1 ⟨x,H1,I1,r1,q1⟩=>?_
 refine thn (hb pins s1 σ H1 _ I1 q1) fun u s2 ⟨y,H2,I2,r2,q2⟩=>?_
 exact hf v u s2 x y H2 I2 r1 r2 q2
theorem z0q {op:Operator}{r:R2} (ho:OpR X (binaryOp op) r) (ha:PE X a ta) (hb:PE X b tb):PE X (.BinOp a op b pos) (tOp r ta tb):=by
 intro pins s σ H Q I h
 exact wpAny_BinOp (binT ha hb I h fun v u s2 x y H2 I2 rx ry q=>ho pins s2 σ H2 x y v u Q I2 rx ry q)
theorem z2Q {op:UnaryOp}{r:V→Hp→VK→Prop} (ho:UnR X (unaryOp op) r) (ha:PE X a ta):PE X (.UnaryOp op a pos) (tUn r ta):=by
 intro pins s σ H Q I h
 exact UnaryOp_ (thn (ha pins s σ H _ I h) fun v s1 ⟨x,H1,I1,r1,q1⟩=>ho pins s1 σ H1 x v Q I1 r1 q1)
theorem opI {f:Value→Value→Sem Value}{C:Int→Int→Prop}{g:Int→Int→Int}
 (rule:∀(i j:Int) (t u:Tok) (s:Shared) (Q:Value→Shared→Prop) (E:Value→Shared→Prop),C i j→Q (.int (g i j) s.toks) {s with toks:=s.toks+1}→wpAny (model X.prog X.w) X.A (f (.int i t) (.int j u)) Q E s):
 OpR X f (rI C fun i j=> .int (g i j)):=by
 intro pins s σ H x y v u Q I rx ry h
 obtain⟨i,j,rfl,rfl,hc,q⟩:=h
 obtain⟨t,rfl⟩:=rx
 obtain⟨t',rfl⟩:=ry
 exact rule i j t t' s _ _ hc ⟨.int (g i j),H,I.tok _,⟨_,rfl⟩,q⟩
theorem opI0 {f:Value→Value→Sem Value}{g:Int→Int→Int}
 (rule:∀(i j:Int) (t u:Tok) (s:Shared) (Q:Value→Shared→Prop) (E:Value→Shared→Prop),Q (.int (g i j) s.toks) {s with toks:=s.toks+1}→wpAny (model X.prog X.w) X.A (f (.int i t) (.int j u)) Q E s):
 OpR X f (rI0 fun i j=> .int (g i j)):=by
 intro pins s σ H x y v u Q I rx ry h
 obtain⟨i,j,rfl,rfl,q⟩:=h
 obtain⟨t,rfl⟩:=rx
 obtain⟨t',rfl⟩:=ry
 exact rule i j t t' s _ _ ⟨.int (g i j),H,I.tok _,⟨_,rfl⟩,q⟩
theorem opB0 {f:Value→Value→Sem Value}{g:Int→Int→Bool}
 (rule:∀(i j:Int) (t u:Tok) (s:Shared) (Q:Value→Shared→Prop) (E:Value→Shared→Prop),Q (.bool (g i j)) s→wpAny (model X.prog X.w) X.A (f (.int i t) (.int j u)) Q E s):
 OpR X f (rI0 fun i j=> .bl (g i j)):=by
 intro pins s σ H x y v u Q I rx ry h
 obtain⟨i,j,rfl,rfl,q⟩:=h
 obtain⟨t,rfl⟩:=rx
 obtain⟨t',rfl⟩:=ry
 exact rule i j t t' s _ _ ⟨.bl (g i j),H,I,rfl,q⟩
def CPow (i j:Int):Prop:=0≤j∧j≤1000000∧i.natAbs<2^64
theorem z1o:OpR X (binaryOp .Add) (rI0 fun i j=> .int (i+j)):=opI0 fun _ _ _ _ _ _ _ q=>add_int q
theorem z1P:OpR X (binaryOp .Sub) (rI0 fun i j=> .int (i - j)):=opI0 fun _ _ _ _ _ _ _ q=>sub_int q
theorem y5F:OpR X (binaryOp .Mod) (rI (fun _ j=>0<j) fun i j=> .int (i%j)):=opI fun i j _ _ _ _ _ hc q=>by
 have h1:(0:Int)<j:=hc
 exact mod_int' (by lia) (by rw[Int.fmod_eq_emod_of_nonneg i (by lia)];exact q)
theorem y4x:OpR X (binaryOp .Mod) (rI (fun _ j=>j≠0) fun i j=> .int (i.fmod j)):=opI fun _ _ _ _ _ _ _ hc q=>mod_int' hc q
theorem y5D:OpR X (binaryOp .Pow) (rI CPow fun i j=> .int (i^j.toNat)):=opI fun _ _ _ _ _ _ _ hc q=>pow_int_small hc.1 hc.2.1 hc.2.2 q
theorem unI {f:Value→Sem Value}{g:Int→Int}
 (rule:∀(i:Int) (t:Tok) (s:Shared) (Q:Value→Shared→Prop) (E:Value→Shared→Prop),Q (.int (g i) s.toks) {s with toks:=s.toks+1}→wpAny (model X.prog X.w) X.A (f (.int i t)) Q E s):
 UnR X f (rU fun i=> .int (g i)):=by
 intro pins s σ H x v Q I rx h
 obtain⟨i,rfl,q⟩:=h
 obtain⟨t,rfl⟩:=rx
 exact rule i t s _ _ ⟨.int (g i),H,I.tok _,⟨_,rfl⟩,q⟩
theorem z1x:UnR X (unaryOp .USub) (rU fun i=> .int (-i)):=unI fun _ _ _ _ _ q=>neg_int q
end
def scal:V→V→Bool
 | .non,.non =>true| .non,.int _=>true| .int _,.non =>true| .non,.bl _=>true| .bl _,.non =>true| .non,.str _=>true| .str _,.non =>true
 | .int _,.int _=>true| .bl _,.bl _=>true| .str _,.str _=>true| .byt _,.byt _=>true
 | .int _,.str _=>true| .str _,.int _=>true| .bl _,.str _=>true| .str _,.bl _=>true
 |_,_=>false
def rEq:R2:=fun x y H Q=>scal x y=true∧Q (.bl (decide (x=y))) H
def rNe:R2:=fun x y H Q=>scal x y=true∧Q (.bl (!decide (x=y))) H
theorem y1t {i j:Int}:decide (V.int i=V.int j)=(i==j):=by
 rw[q1O]
 simp
theorem y3N {i j:Bool}:decide (V.bl i=V.bl j)=(i==j):=by
 rw[q1O]
 simp
theorem y1s {i j:Str}:decide (V.str i=V.str j)=(i==j):=by
 rw[q1O]
 simp
theorem y1u {i j:Array UInt8}:decide (V.byt i=V.byt j)=(i.toList==j.toList):=by
 rw[q1O]
 cases i
 cases j
 simp
section
variable {X:Cx}{a b c:Expr}{ta tb tc:TE}{pos:Pos}
theorem z0M {pins:List (Addr×Obj)}{σ:St}{H:Hp}{s:Shared}{Q:VK}{k k':Bool} (I:Inv X pins σ H s) (q:Q (.bl k) H) (e:k=k'):EP X pins σ Q (.bool k') s:=by
 subst e
 exact⟨.bl k,H,I,rfl,q⟩
theorem z4x:OpR X (compareOp .Eq) rEq:=by
 intro pins s σ H x y v u Q I rx ry h
 obtain⟨hs,q⟩:=h
 cases x with
 |non=>
  cases rx
  cases y with
  |non=>cases ry;exact PySem.EqNone.eq_none_none (z0M I q (by simp))
  |bl j=>cases ry;exact PySem.EqNone.eq_none_bool (z0M I q (by simp))
  |int j=>obtain⟨t',rfl⟩:=ry;exact PySem.EqNone.eq_none_int (z0M I q (by simp))
  |str j=>obtain⟨t',rfl⟩:=ry;exact PySem.EqNone.eq_none_str (z0M I q (by simp))
  |_=>exact absurd (show false=true from hs) Bool.false_ne_true
 |bl i=>
  cases rx
  cases y with
  |non=>cases ry;exact PySem.EqNone.eq_bool_none (z0M I q (by simp))
  |bl j=>cases ry;exact eq_bool (z0M I q y3N)
  |str j=>obtain⟨t',rfl⟩:=ry;exact PySem.EqMixed.eq_bool_str (z0M I q (by simp))
  |_=>exact absurd (show false=true from hs) Bool.false_ne_true
 |int i=>
  obtain⟨t,rfl⟩:=rx
  cases y with
  |non=>cases ry;exact PySem.EqNone.eq_int_none (z0M I q (by simp))
  |int j=>obtain⟨t',rfl⟩:=ry;exact eq_int (z0M I q y1t)
  |str j=>obtain⟨t',rfl⟩:=ry;exact PySem.EqMixed.eq_int_str (z0M I q (by simp))
  |_=>exact absurd (show false=true from hs) Bool.false_ne_true
 |str i=>
  obtain⟨t,rfl⟩:=rx
  cases y with
  |non=>cases ry;exact PySem.EqNone.eq_str_none (z0M I q (by simp))
  |bl j=>cases ry;exact PySem.EqMixed.eq_str_bool (z0M I q (by simp))
  |int j=>obtain⟨t',rfl⟩:=ry;exact PySem.EqMixed.eq_str_int (z0M I q (by simp))
  |str j=>obtain⟨t',rfl⟩:=ry;exact eq_str (z0M I q y1s)
  |_=>exact absurd (show false=true from hs) Bool.false_ne_true
 |byt i=>
  obtain⟨t,rfl⟩:=rx
  cases y with
  |byt j=>obtain⟨t',rfl⟩:=ry;exact PySem.W.eq_bytes (z0M I q y1u)
  |_=>exact absurd (show false=true from hs) Bool.false_ne_true
 |_=>cases y<;>exact absurd (show false=true from hs) Bool.false_ne_true
theorem z3E:OpR X (compareOp .NotEq) rNe:=by
 intro pins s σ H x y v u Q I rx ry h
 obtain⟨hs,q⟩:=h
 cases x with
 |non=>
  cases rx
  cases y with
  |non=>cases ry;exact PySem.EqNone.ne_none_none (z0M I q (by simp))
  |bl j=>cases ry;exact PySem.EqNone.ne_none_bool (z0M I q (by simp))
  |int j=>obtain⟨t',rfl⟩:=ry;exact PySem.EqNone.ne_none_int (z0M I q (by simp))
  |str j=>obtain⟨t',rfl⟩:=ry;exact PySem.EqNone.ne_none_str (z0M I q (by simp))
  |_=>exact absurd (show false=true from hs) Bool.false_ne_true
 |bl i=>
  cases rx
  cases y with
  |non=>cases ry;exact PySem.EqNone.ne_bool_none (z0M I q (by simp))
  |bl j=>cases ry;exact ne_bool (z0M I q (congrArg not y3N))
  |str j=>obtain⟨t',rfl⟩:=ry;exact PySem.EqMixed.ne_bool_str (z0M I q (by simp))
  |_=>exact absurd (show false=true from hs) Bool.false_ne_true
 |int i=>
  obtain⟨t,rfl⟩:=rx
  cases y with
  |non=>cases ry;exact PySem.EqNone.ne_int_none (z0M I q (by simp))
  |int j=>obtain⟨t',rfl⟩:=ry;exact ne_int (z0M I q (congrArg not y1t))
  |str j=>obtain⟨t',rfl⟩:=ry;exact PySem.EqMixed.ne_int_str (z0M I q (by simp))
  |_=>exact absurd (show false=true from hs) Bool.false_ne_true
 |str i=>
  obtain⟨t,rfl⟩:=rx
  cases y with
  |non=>cases ry;exact PySem.EqNone.ne_str_none (z0M I q (by simp))
  |bl j=>cases ry;exact PySem.EqMixed.ne_str_bool (z0M I q (by simp))
  |int j=>obtain⟨t',rfl⟩:=ry;exact PySem.EqMixed.ne_str_int (z0M I q (by simp))
  |str j=>obtain⟨t',rfl⟩:=ry;exact ne_str (z0M I q (congrArg not y1s))
  |_=>exact absurd (show false=true from hs) Bool.false_ne_true
 |byt i=>
  obtain⟨t,rfl⟩:=rx
  cases y with
  |byt j=>obtain⟨t',rfl⟩:=ry;exact PySem.W.ne_bytes (z0M I q (congrArg not y1u))
  |_=>exact absurd (show false=true from hs) Bool.false_ne_true
 |_=>cases y<;>exact absurd (show false=true from hs) Bool.false_ne_true
theorem y4y:OpR X (compareOp .Lt) (rI0 fun i j=> .bl (decide (i<j))):=opB0 fun _ _ _ _ _ _ _ q=>lt_int q
theorem op_le:OpR X (compareOp .LtE) (rI0 fun i j=> .bl (decide (i≤j))):=opB0 fun _ _ _ _ _ _ _ q=>le_int q
theorem z6y:OpR X (compareOp .Gt) (rI0 fun i j=> .bl (decide (j<i))):=opB0 fun _ _ _ _ _ _ _ q=>gt_int q
theorem z0F (b:Expr) {op:CmpOp} (h:op≠ .In :=by decide) (h2:op≠ .NotIn :=by decide):behindInMarks op b=false:=by
 have e1:(op==CmpOp.In)=false:=by cases op<;>first|rfl|exact absurd rfl h
 have e2:(op==CmpOp.NotIn)=false:=by cases op<;>first|rfl|exact absurd rfl h2
 cases b<;>simp[behindInMarks,e1,e2]
theorem z4t {op:CmpOp}{r:R2} (ho:OpR X (compareOp op) r) (ha:PE X a ta) (hb:PE X b tb) (hm:behindInMarks op b=false):PE X (.Compare a [op] [b] pos) (tOp r ta tb):=by
 intro pins s σ H Q I h
 exact wpAny_Compare1 (binT ha hb I h fun v u s2 x y H2 I2 rx ry q=>ho pins s2 σ H2 x y v u Q I2 rx ry q) hm
def tTest (t:TE):TT:=fun σ H Q=>t σ H fun x H'=>∃k,x= .bl k∧Q k H'
theorem z0x {op:CmpOp}{r:R2} (ho:OpR X (compareOp op) r) (ha:PE X a ta) (hb:PE X b tb) (hm:behindInMarks op b=false):PT X (.Compare a [op] [b] pos) (tTest (tOp r ta tb)):=by
 intro pins s σ H Q I h
 refine wpAny_isTrue_Compare1 (thn (ha pins s σ H _ I h) fun v s1 ⟨x,H1,I1,r1,q1⟩=>thn (hb pins s1 σ H1 _ I1 q1) fun u s2 ⟨y,H2,I2,r2,q2⟩=>
  thn (ho pins s2 σ H2 x y v u _ I2 r1 r2 q2) fun c s3 ⟨z,H3,I3,r3,k,e,q3⟩=>?_) hm
 subst e
 cases r3
 exact wpAny_truthy_bool ⟨H3,I3,q3⟩
theorem z8p:(sizeLine:Nat)<2^63:=by rw[sizeLine_eq];decide
theorem z6Z {x:V}{us:List Value} (r:Vals [x] us):∃u,us=[u]∧RelV x u:=by
 cases r with
 |cons r1 r2=>cases r2;exact⟨_,rfl,r1⟩
theorem y1U {x y:V}{us:List Value} (r:Vals [x,y] us):∃u w',us=[u,w']∧RelV x u∧RelV y w':=by
 cases r with
 |cons r1 r2=>
  cases r2 with
  |cons r3 r4=>cases r4;exact⟨_,_,rfl,r1,r3⟩
theorem z2O:z2B X (.builtin "abs") (fun xs H Q=>∃i,xs=[.int i]∧Q (.int (if i<0 then -i else i)) H):=by
 intro pins s σ H xs us Q I r h
 obtain⟨i,rfl,q⟩:=h
 obtain⟨u,rfl,t,rfl⟩:=z6Z r
 exact call_abs_int fun u tk=>⟨.int (if i<0 then -i else i),H,I.tok _,⟨_,rfl⟩,q⟩
theorem y1D (hc:X.calm=true):z2B X (.builtin "max") (fun xs H Q=>∃i j,xs=[.int i,.int j]∧Q (.int (if j>i then j else i)) H):=by
 intro pins s σ H xs us Q I r h
 obtain⟨i,j,rfl,q⟩:=h
 obtain⟨u,w',rfl,⟨t,rfl⟩,⟨t',rfl⟩⟩:=y1U r
 refine max_two_ints (I.ok.hd hc) fun h' tk k=>⟨_,H,I.kept k,?_,q⟩
 by_cases hj:j>i
 ·rw[if_pos hj,if_pos hj];exact⟨_,rfl⟩
 ·rw[if_neg hj,if_neg hj];exact⟨_,rfl⟩
theorem y1C (hc:X.calm=true):z2B X (.builtin "min") (fun xs H Q=>∃i j,xs=[.int i,.int j]∧Q (.int (if j<i then j else i)) H):=by
 intro pins s σ H xs us Q I r h
 obtain⟨i,j,rfl,q⟩:=h
 obtain⟨u,w',rfl,⟨t,rfl⟩,⟨t',rfl⟩⟩:=y1U r
 refine min_two_ints (I.ok.hd hc) fun h' tk k=>⟨_,H,I.kept k,?_,q⟩
 by_cases hj:j<i
 ·rw[if_pos hj,if_pos hj];exact⟨_,rfl⟩
 ·rw[if_neg hj,if_neg hj];exact⟨_,rfl⟩
end
end L2
namespace L2
open PySem PySem.Spec PyProof.Rows
structure ObjM (h:Heap) (x dx C:Addr) (mA:Str→Option Value):Prop where
 obj:h.get? x=some (PySem.W.instObj C dx)
 ns:h.Ns1 dx mA
 ne:dx≠x
theorem y0P {h:Heap}{dx:Addr}{mA:Str→Option Value} (n:h.Ns1 dx mA):∃od,h.get? dx=some od∧∀name,PySem.W.lookIn name od=some (mA name):=by
 obtain⟨o,es,ep,ho,hd,hk,_,hm⟩:=n
 refine⟨o,ho,fun name=>?_⟩
 have e:=hm name
 unfold nsFind findBy at e
 rw[←Array.find?_toList] at e
 unfold PySem.W.lookIn
 rw[hd]
 dsimp only
 split
 ·rename_i y q
  rw[q] at e
  exact congrArg some e
 ·rename_i q
  rw[q] at e
  have a:es.toList.any (·.refKey)=false:=by
   rw[List.any_eq_false]
   intro y hy
   obtain⟨z,t,hkey⟩:=hk y (Array.mem_toList_iff.mp hy)
   simp[DictEntry.refKey,hkey]
  have a':¬es.toList.any (·.refKey)=true:=by rw[a];exact q0B
  rw[if_neg a']
  exact congrArg some e
theorem ObjM.look {h:Heap}{x dx C:Addr}{mA:Str→Option Value} (I:ObjM h x dx C mA):∃od,PySem.W.InstAt h x (PySem.W.instObj C dx) C (some od)∧∀name,PySem.W.lookIn name od=some (mA name):=
 let ⟨od,ho,hl⟩:=y0P I.ns
 ⟨od,⟨I.obj,rfl,rfl,ho⟩,hl⟩
section
variable {prog:Program}{w:World}{A:Around}{E:Value→Shared→Prop}{s:Shared}{K:PySem.W.Frag}{x dx C f:Addr}{mA:Str→Option Value}{name:Str}{v:Value}
end
section
variable {P:Program}{w:World}{H H':Hp}{h h':Heap}{a C dx:Addr}{fs fs':List (Str×V)}
theorem y4M (hok:HOk P w H h) (e:H a=some (.ins C dx fs)):∃mA,ObjM h a dx C mA∧(∀f,RelO (fs.lookup f) (mA f))∧PySem.Within mA (fs.map (·.1))∧fs.length≤1000∧H dx=some (.own a):=by
 obtain⟨d,z,ne,ob,mA,n,r,q⟩:=(show ObjOk P w H h a (.ins C dx fs) from hok a _ e)
 exact⟨mA,⟨ob,n,ne⟩,r,q,z,d⟩
end
structure Cls (K:PySem.W.Frag) (C:Addr):Prop where
 pg:PySem.W.plainGet K C Str.empty=true
 hd:PySem.W.hasDictIn K C=true
 po:PySem.W.plainOver K C=true
 sa:PySem.W.findIn K (.ref C) "__setattr__"=some (some (.builtin "object.__setattr__"))
theorem Cls.get {K:PySem.W.Frag}{C:Addr} (c:Cls K C) (f:Str):PySem.W.plainGet K C f=true:=c.pg
section
variable {X:Cx}{pins:List (Addr×Obj)}{σ:St}{H:Hp}{s:Shared}{a C dx:Addr}{fs:List (Str×V)}{f:Str}{v:V}{A:Around}{E:Value→Shared→Prop}
end
section
variable {X:Cx}{o e value:Expr}{f:Str}{pos pos' tpos:Pos}{ta tv:TE}
end
section
variable {X:Cx}{pins:List (Addr×Obj)}{σ:St}{H:Hp}{s:Shared}{A:Around}{E:Value→Shared→Prop}{Q:Value→Shared→Prop}{c:Value}{b:Bool}
inductive z9B (K:PySem.W.Frag) (H:Hp):V→Value→Prop where
 |non:z9B K H .non (.type "NoneType")
 |bl (x:Bool):z9B K H (.bl x) (.type "bool")
 |int (i:Int):z9B K H (.int i) (.type "int")
 |str (x:Str):z9B K H (.str x) (.type "str")
 |flt (x:UInt64):z9B K H (.flt x) (.type "float")
 |lst {a:Addr}{xs:List V} (e:H a=some (.lst xs)):z9B K H (.ref a) (.type "list")
 |frz {a:Addr}{o:Obj}{xs:List V} (e:H a=some (.frz o (.lst xs))):z9B K H (.ref a) (.type "list")
 |tup {a:Addr}{xs:List V} (e:H a=some (.tup xs)):z9B K H (.ref a) (.type "tuple")
 |dK {a:Addr}{kvs:List (Key×V)} (e:H a=some (.dK kvs)):z9B K H (.ref a) (.type "dict")
 |dT {a:Addr}{kvs:List (List Key×V)} (e:H a=some (.dT kvs)):z9B K H (.ref a) (.type "dict")
 |ins {a C dx:Addr}{fs:List (Str×V)} (e:H a=some (.ins C dx fs)) (cl:Cls K C) (ha:PySem.W.findIn K (.ref C) "__class__"=some (some (.builtin "object.__class__")))
  (hn:PySem.W.specialIn K (.builtin "object.__class__") "__get__"=some (some (.builtin "getset_descriptor.__get__"))) (htk:PySem.W.takesIn K (.builtin "object.__class__")=some true)
  (hm:PySem.W.mroIn K C (.type "object")=some true):z9B K H (.ref a) (.ref C)
theorem y0W {x:V}{u t:Value} (I:Inv X pins σ H s) (rx:RelV x u) (ty:z9B X.K H x t) (e:PySem.W.kitOne X.K t c=some b) (h:∀tk,Q (.bool b) {s with toks:=tk}):
 wpAny (model X.prog X.w) A (call (.builtin "isinstance") [u,c]) Q E s:=by
 cases ty with
 |non=>cases (show u=Value.none from rx);exact PySem.W.kia_one PySem.W.kitx_none I.kIn True.intro e (fun z=>nomatch z) h
 |bl y=>cases (show u=Value.bool y from rx);exact PySem.W.kia_one PySem.W.kitx_bool I.kIn True.intro e (fun z=>nomatch z) h
 |int i=>obtain⟨t,q⟩:=(show ∃t,u=Value.int i t from rx);cases q;exact PySem.W.kia_one PySem.W.kitx_int I.kIn True.intro e (fun z=>nomatch z) h
 |str y=>obtain⟨t,q⟩:=(show ∃t,u=Value.str y t from rx);cases q;exact PySem.W.kia_one PySem.W.kitx_str I.kIn True.intro e (fun z=>nomatch z) h
 |flt y=>obtain⟨t,q⟩:=(show ∃t,u=Value.float y t from rx);cases q;exact PySem.W.kia_one PySem.W.kitx_float I.kIn True.intro e (fun z=>nomatch z) h
 | @lst a xs ea=>
   cases (show u=Value.ref a from rx)
   obtain⟨_,_,n,_,h1⟩:=(show ObjOk X.prog X.w H s.heap a (.lst xs) from I.hok a _ ea)
   exact q1r PySem.W.kitx_list I.kIn ⟨_,h1,rfl⟩ e (fun z=>nomatch z) h
 | @frz a ob xs ea=>
   cases (show u=Value.ref a from rx)
   obtain⟨_,_,_,n,_,h1⟩:=(show ObjOk X.prog X.w H s.heap a (.frz ob (.lst xs)) from I.hok a _ ea)
   exact q1r PySem.W.kitx_list I.kIn ⟨_,h1,rfl⟩ e (fun z=>nomatch z) h
 | @tup a xs ea=>
   cases (show u=Value.ref a from rx)
   obtain⟨_,_,_,p⟩:=(show ObjOk X.prog X.w H s.heap a (.tup xs) from I.hok a _ ea)
   obtain⟨o,h1,h2,_⟩:=p
   exact q1r PySem.W.kitx_tuple I.kIn ⟨o,h1,h2⟩ e (fun z=>nomatch z) h
 | @dK a kvs ea=>
   cases (show u=Value.ref a from rx)
   obtain⟨_,_,vs,_,p⟩:=(show ObjOk X.prog X.w H s.heap a (.dK kvs) from I.hok a _ ea)
   obtain⟨o,es,ep,h1,h2,_⟩:=p
   exact q1r PySem.W.kitx_dict I.kIn ⟨o,h1,h2.1⟩ e (fun z=>nomatch z) h
 | @dT a kvs ea=>
   cases (show u=Value.ref a from rx)
   obtain⟨_,_,xs,_,o,es,ep,h1,h2,_⟩:=(show ObjOk X.prog X.w H s.heap a (.dT kvs) from I.hok a _ ea)
   exact q1r PySem.W.kitx_dict I.kIn ⟨o,h1,h2.1⟩ e (fun z=>nomatch z) h
 | @ins a C dx fs ea cl ha hn htk hm=>
   cases (show u=Value.ref a from rx)
   obtain⟨mA,O,_⟩:=y4M I.hok ea
   obtain⟨od,J,_⟩:=O.look
   exact q1r (PySem.W.kitx_own (cl.get _) cl.hd ha hn htk hm) I.kIn J e (fun z=>nomatch z) h
end
end L2
namespace L2
open PySem PySem.Spec PyProof.Rows
structure Room (k:Nat) (A:Around):Prop where
 hd:A.handled=none
 dp:A.depth+3*k+5<recursionLimit
 un:A.units+16*k+200<cLine
theorem Room.mono {j k:Nat}{A:Around} (r:Room k A) (h:j≤k):Room j A:=⟨r.hd,by have:=r.dp;lia,by have:=r.un;lia⟩
theorem Room.deeper {k:Nat}{A:Around} (r:Room (k+1) A) (env:Env):Room k (A.deeper env):=
 ⟨r.hd,by have:=r.dp;show A.depth+1+3*k+5<_;lia,by have:=r.un;show A.units+3+16*k+200<_;lia⟩
theorem Room.depth {k:Nat}{A:Around} (r:Room k A):A.depth<recursionLimit:=by have:=r.dp;lia
theorem Room.units {k:Nat}{A:Around} (r:Room k A):A.units+64<cLine:=by have:=r.un;lia
def tNil:TA:=fun _ H Q=>Q [] H
def tCons (ta:TE) (tr:TA):TA:=fun σ H Q=>ta σ H fun x H1=>tr σ H1 fun xs H2=>Q (x::xs) H2
section
variable {X:Cx}{e:Expr}{es:List Expr}{te:TE}{t:TA}{pos:Pos}
theorem z0d:PA X [] tNil:=fun _ _ _ _ H Q I h=>Calls.spliced_nil ⟨[],H,I,.nil,h⟩
theorem z0a (ha:PE X e te) (hr:PA X es t) (hs:starEach (e::es) X.env=(false,eval e X.env)::starEach es X.env:=by rfl):PA X (e::es) (tCons te t):=by
 intro pos pins s σ H Q I h
 rw[hs]
 show wpAny _ _ (spliced ((false,eval e X.env)::backTo pos (starEach es X.env))) _ _ s
 refine Calls.spliced_cons (thn (ha pins s σ H _ I h) fun u s1 ⟨x,H1,I1,r1,q1⟩=>?_)
 exact thn (hr pos pins s1 σ H1 _ I1 q1) fun us s2 ⟨xs,H2,I2,r2,q2⟩=>⟨x::xs,H2,I2,.cons r1 r2,q2⟩
def tTup (t:TA):TE:=fun σ H Q=>t σ H fun xs H1=>xs.length≤sizeLine∧∀p,H1 p=none→Q (.ref p) (upd H1 p (.tup xs))
def tLst (t:TA):TE:=fun σ H Q=>t σ H fun xs H1=>xs.length≤sizeLine∧∀p,H1 p=none→Q (.ref p) (upd H1 p (.lst xs))
theorem z3N {x1} (h:PA X es t):PE X (.Tuple es x1 pos) (tTup t):=by
 intro pins s σ H Q I hq
 refine wpAny_Tuple_spliced (thn (h pos pins s σ H _ I hq) fun us s1 ⟨xs,H1,I1,r,z,q⟩=>⟨by rw[←r.length];exact z,?_⟩)
 have hf:H1 s1.heap.objs.size=none:=I1.hok.fresh (q0e _)
 refine⟨.ref s1.heap.objs.size,upd H1 s1.heap.objs.size (.tup xs),I1.laid (t':=s1.toks) (fun b u e=>q0d _ e) (q0e _) ?_,rfl,q _ hf⟩
 exact⟨z,us,r,⟨_,q0q _ rfl,rfl,_,rfl⟩⟩
theorem z0P (h:PA X es t):PE X (.List es pos) (tLst t):=by
 intro pins s σ H Q I hq
 refine wpAny_List_spliced (thn (h pos pins s σ H _ I hq) fun us s1 ⟨xs,H1,I1,r,z,q⟩=>⟨by rw[←r.length];exact z,?_⟩)
 have hf:H1 s1.heap.objs.size=none:=I1.hok.fresh (q0e _)
 refine⟨.ref s1.heap.objs.size,upd H1 s1.heap.objs.size (.lst xs),I1.laid (t':=s1.toks) (fun b u e=>q0d _ e) (q0e _) ?_,rfl,q _ hf⟩
 exact⟨z,us,0,r,q0q _ rfl⟩
end
abbrev Sp:=List V→Hp→VK→XK→Prop
abbrev CXT:=List Env→Hp→Shared→XK→Value→Shared→Prop
structure Env0 (P:Program) (w:World) (K:PySem.W.Frag) (mg:Str→Option Value) (base:Heap) (A:Around) (outer:List Env) (s:Shared) (H:Hp):Prop where
 frames:A.frames=some outer
 mod:Mod K mg base
 bs:∀b o,base.get? b=some o→s.heap.get? b=some o∧H b=none
 bsz:base.objs.size≤s.heap.objs.size
 funs:s.heap.FunFrames base outer
 frf:∀b∈frs outer,H b=none
 hok:HOk P w H s.heap
 bare:AllBare s.gens
def CE (outer:List Env) (P:Program) (w:World) (H:Hp) (s:Shared) (Q:VK) (u:Value) (s':Shared):Prop:=
 ∃v H',s'.os=s.os∧AllBare s'.gens∧Un (frs outer) [] H H' s.heap s'.heap∧HOk P w H' s'.heap∧RelV v u∧Q v H'
def CR (CX:CXT) (outer:List Env) (P:Program) (w:World) (H:Hp) (s:Shared) (Q:VK) (E:XK) (r:Result) (s':Shared):Prop:=
 match r with
 | .ok (.ret u)=>CE outer P w H s Q u s'
 | .ok _=>False
 | .error e=>CX outer H s E e s'
structure FnOk (P:Program) (w:World) (K:PySem.W.Frag) (mg:Str→Option Value) (base:Heap) (CX:CXT) (k:Nat) (f:Addr) (fd:FuncData) (ps:List Str) (sp:Sp):Prop where
 len:∀vs H Q E,sp vs H Q E→vs.length=ps.length
 run:∀(A:Around) (outer:List Env) (s:Shared) (H:Hp) (args:Args) (us:List Value) (vs:List V) (Q:VK) (E:XK),Room k A→Env0 P w K mg base A outer s H→BindsTo s fd args (ps.zip us)→Vals vs us→sp vs H Q E→
  codeAny (model P w) A (.call (.ref f) args) (CR CX outer P w H s Q E) s
theorem FnOk.mono {P:Program}{w:World}{K:PySem.W.Frag}{mg:Str→Option Value}{base:Heap}{CX:CXT}{j k:Nat}{f:Addr}{fd:FuncData}{ps:List Str}{sp:Sp} (F:FnOk P w K mg base CX j f fd ps sp) (h:j≤k):
 FnOk P w K mg base CX k f fd ps sp:=⟨F.len,fun A outer s H args us vs Q E hr=>F.run A outer s H args us vs Q E (hr.mono h)⟩
section
variable {X:Cx}{pins:List (Addr×Obj)}{σ:St}{H:Hp}{s s':Shared}
theorem Inv.env0 (I:Inv X pins σ H s):Env0 X.prog X.w X.K X.mg X.base X.A X.stack s H:=
 ⟨I.ok.frames,I.ok.mod,I.bs,q0o I.ok.bsz I.sz,I.stack,I.stkFree,I.hok,I.bare⟩
theorem Inv.after {Q:VK}{u:Value} (I:Inv X pins σ H s) (h:CE X.stack X.prog X.w H s Q u s'):EP X pins σ Q u s':=by
 obtain⟨v,H',os,bare,un,hok,r,q⟩:=h
 obtain⟨hh,g,d,t,os'⟩:=s'
 obtain rfl:os'=s.os:=os
 exact⟨v,H',I.call (h':=hh) (g':=g) (d':=d) (t':=t) (ch:=[]) un hok bare (fun b z=>absurd z (by simp)),r,q⟩
end
def y5g (sp:Sp) (dvs:List V) (E:XK) (t:TA):TE:=fun σ H Q=>t σ H fun vs H1=>sp (vs++dvs) H1 Q E
def Binds (K:PySem.W.Frag) (fd:FuncData) (ps:List Str) (ds:List Value):Prop:=
 ∀(s:Shared) (us:List Value),K.In s.heap→(us++ds).length =ps.length→BindsTo s fd ⟨us,[]⟩ (ps.zip (us++ds))
theorem Binds.all {K:PySem.W.Frag}{fd:FuncData}{ps:List Str} (h:∀us:List Value,us.length=ps.length→bindArgs fd ⟨us,[]⟩=pure (ps.zip us)):Binds K fd ps []:=fun s us _ hl=>by
 rw[q1N] at hl ⊢
 exact .of_eq (h us hl)
def y1P (CX:CXT) (X:Cx) (E:XK):Prop:=∀(pins:List (Addr×Obj)) (σ:St) (H:Hp) (s:Shared) (e:Value) (s':Shared),Inv X pins σ H s→CX X.stack H s E e s'→X.xe e s'
section
variable {X:Cx}{CX:CXT}{k:Nat}{f C:Addr}{fd:FuncData}{ps:List Str}{sp:Sp}{dvs:List V}{ds:List Value}{E:XK}{x m:Str}{p pos apos:Pos}{e o:Expr}{es:List Expr}{ta:TE}{t:TA}
theorem y5o {pins:List (Addr×Obj)}{σ:St}{H:Hp}{s:Shared}{Q:VK}{us:List Value}{vs:List V} (F:FnOk X.prog X.w X.K X.mg X.base CX k f fd ps sp) (hr:Room k X.A) (hb:Binds X.K fd ps ds) (hd:Vals dvs ds) (hx:y1P CX X E)
 (I:Inv X pins σ H s) (r:Vals vs us) (h:sp (vs++dvs) H Q E):wpAny (model X.prog X.w) X.A (call (.ref f) us) (EP X pins σ Q) X.xe s:=by
 have r2:Vals (vs++dvs) (us++ds):=r.append hd
 have hl:(us++ds).length =ps.length:=by rw[←r2.length];exact F.len _ _ _ _ h
 refine wpAny_call (codeAny_mono (F.run X.A X.stack s H ⟨us,[]⟩ (us++ds) (vs++dvs) Q E hr I.env0 (hb s us I.kIn hl) r2 h) fun r s' hq=>?_)
 cases r with
 |error e=>exact hx pins σ H s e s' I hq
 |ok fl=>
  cases fl with
  |ret u=>exact I.after hq
  |next=>exact False.elim hq
  |brk=>exact False.elim hq
  |cont=>exact False.elim hq
theorem y4t (F:FnOk X.prog X.w X.K X.mg X.base CX k f fd ps sp) (hr:Room k X.A) (hg:Gl X x) (hm:X.mg x=some (.ref f)) (hk:PySem.W.keepIn X.K (.ref f)=true) (hb:Binds X.K fd ps ds) (hd:Vals dvs ds) (hx:y1P CX X E)
 (ha:PA X (e::es) t) (hdb:(x==("__debug__":Str))=false:=by decide) (he:starEach (e::es) X.env=(false,eval e X.env)::starEach es X.env:=by rfl) (hpl:(backTo pos (starEach es X.env)).any (·.1)=false:=by rfl):
 PE X (.Call (.Name x p) (e::es) [] pos) (y5g sp dvs E t):=by
 intro pins s σ H Q I h
 refine wpAny_Call_Name_kw (y4J I hg hm ?_ hdb)
 refine PySem.W.callWith_K (h₀:=X.base) I.ok.mod.kin hk (thn (ha pos pins s σ H _ I h) fun us s1 ⟨vs,H1,I1,r,q⟩=>⟨I1.kIn,?_⟩) he hpl
 exact y5o F hr hb hd hx I1 r q
end
section
variable {X:Cx}{CX:CXT}{k:Nat}{f C:Addr}{fd:FuncData}{ps ks:List Str}{sp:Sp}{E:XK}{x m:Str}{p pos apos kpos:Pos}{e o:Expr}{es:List Expr}{kws:List Keyword}{te ta:TE}{t tk:TA}{nm:Option Str}
variable {g:List Value→List Value→List Value}{gV:List V→List V→List V}
end
structure z0z (N P:List Str) (sc:Scope):Prop where
 kind:sc.kind= .function
 co:sc.isCoroutine=false
 gen:sc.isGenerator=false
 nd:N.Nodup
 pre:N.take P.length=P
 par:∀x∈P,sc.names.lookup x=some .local ∨sc.names.lookup x=some .cell
 nofree:∀y∈sc.names,y.2≠ .free
theorem z6Q {kindOf:Str→Option NameKind}{x:Str}:∀{binds:List (Str×Value)}{m:Str→Option Value},(∀v,(x,v)∉binds)→bindL kindOf binds m x=m x
 |[],_,_=>rfl
 |(n,v)::r,m,h=>by
  unfold bindL
  rw[z6Q fun w hw=>h w (q0i _ hw)]
  split
  ·have:x≠n:=by rintro rfl;exact h v q0j
   simp[this]
  ·rfl
theorem z6S {kindOf:Str→Option NameKind}{x:Str}:∀{binds:List (Str×Value)}{m:Str→Option Value},(∀v,(x,v)∉binds)→bindC kindOf binds m x=m x
 |[],_,_=>rfl
 |(n,v)::r,m,h=>by
  unfold bindC
  rw[z6S fun w hw=>h w (q0i _ hw)]
  split
  ·rfl
  ·have:x≠n:=by rintro rfl;exact h v q0j
   simp[this]
theorem z6R {kindOf:Str→Option NameKind}{x:Str}{v:Value}:∀{P:List Str}{vs:List Value}{i:Nat}{m:Str→Option Value},P.Nodup→P[i]? =some x→vs[i]? =some v→kindOf x=some .local →
 bindL kindOf (P.zip vs) m x=some v
 |[],_,_,_,_,h,_,_=>by simp at h
 |_::_,[],_,_,_,_,h,_=>by simp at h
 |p::P,w::vs,0,m,nd,h1,h2,hk=>by
  simp at h1 h2;subst h1;subst h2
  show bindL kindOf ((p,w)::P.zip vs) m p=_
  unfold bindL
  rw[z6Q fun v hv=>(List.nodup_cons.mp nd).1 (q1C hv).1,if_pos hk]
  simp
 |p::P,w::vs,i+1,m,nd,h1,h2,hk=>by
  show bindL kindOf ((p,w)::P.zip vs) m x=_
  unfold bindL
  exact z6R (i:=i) (List.nodup_cons.mp nd).2 (by simpa using h1) (by simpa using h2) hk
theorem z6T {kindOf:Str→Option NameKind}{x:Str}{v:Value}:∀{P:List Str}{vs:List Value}{i:Nat}{m:Str→Option Value},P.Nodup→P[i]? =some x→vs[i]? =some v→kindOf x≠some .local →
 bindC kindOf (P.zip vs) m x=some v
 |[],_,_,_,_,h,_,_=>by simp at h
 |_::_,[],_,_,_,_,h,_=>by simp at h
 |p::P,w::vs,0,m,nd,h1,h2,hk=>by
  simp at h1 h2;subst h1;subst h2
  show bindC kindOf ((p,w)::P.zip vs) m p=_
  unfold bindC
  rw[z6S fun v hv=>(List.nodup_cons.mp nd).1 (q1C hv).1,if_neg hk]
  simp
 |p::P,w::vs,i+1,m,nd,h1,h2,hk=>by
  show bindC kindOf ((p,w)::P.zip vs) m x=_
  unfold bindC
  exact z6T (i:=i) (List.nodup_cons.mp nd).2 (by simpa using h1) (by simpa using h2) hk
def start (N:List Str) (vs:List V):St:=vs.map some++List.replicate (N.length - vs.length) none
def y5a (CX:CXT) (P:Program) (w:World) (K:PySem.W.Frag) (mg:Str→Option Value) (base:Heap) (N:List Str) (qual:Str) (scope:Scope) (f:Addr) (cd:Value) (A:Around) (outer:List Env) (s:Shared) (H:Hp) (E:XK):Cx where
 prog:=P
 w:=w
 K:=K
 mg:=mg
 base:=base
 A:=A.deeper (envOfC qual scope s.heap.objs.size f cd)
 N:=N
 s₀:=s
 H₀:=H
 env:=envOfC qual scope s.heap.objs.size f cd
 outer:=outer
 stack:=envOfC qual scope s.heap.objs.size f cd::outer
 ex:=[]
 calm:=true
 fn:=fun _=>true
 pn:=[]
 xe:=fun e s'=>wpAny (model P w) (A.deeper (envOfC qual scope s.heap.objs.size f cd)) (leaving (envOfC qual scope s.heap.objs.size f cd) e) (fun _ s''=>CX outer H s E e s'') (fun e' s''=>CX outer H s E e' s'') s'
theorem z8K {sc:Scope}{n:Nat}{x:Str} (h:sc.names.lookup x=some .cell):∃c,(cellsFrom n sc.names []).lookup x=some c:=by
 have q:=PySem.W.cellsFrom_some sc.names n [] (.inl h)
 exact Option.isSome_iff_exists.mp q
theorem y0Y {CX:CXT}{P:Program}{w:World}{K:PySem.W.Frag}{mg:Str→Option Value}{base:Heap}{N ps:List Str}{qual:Str}{scope:Scope}{f:Addr}{cd:Value}{A:Around}{outer:List Env}{s s1:Shared}{H:Hp}{E:XK}{us:List Value}{vs:List V}
 (S:z0z N ps scope) (hd:A.handled=none) (e0:Env0 P w K mg base A outer s H) (hl:vs.length=ps.length) (r:Vals vs us)
 (x:InCallC s s.heap.objs.size (bindL (envOfC qual scope s.heap.objs.size f cd).kindOf (ps.zip us) fun _=>none) (cellsFrom (s.heap.objs.size+1) scope.names []) (bindC (envOfC qual scope s.heap.objs.size f cd).kindOf (ps.zip us) fun _=>none) s1):
 Inv (y5a CX P w K mg base N qual scope f cd A outer s H E) [] (start N vs) H s1:=by
 have hpl:ps.length≤N.length:=by have:=congrArg List.length S.pre;rw[q0n] at this;lia
 obtain⟨h1,tk,rfl,hk⟩:=x.done
 have noA:∀b:Addr,b∉(y5a CX P w K mg base N qual scope f cd A outer s H E).ex :=fun b z=>absurd (show b∈([]:List Addr) from z) (by simp)
 refine⟨⟨e0.mod,S.kind,rfl,rfl,q0e _,fun y z c h1 h2=>?_,fun y hy=>?_,fun y c _ h=>?_,fun _=>hd,Around.frames_deeper e0.frames,.inr ⟨rfl,rfl⟩,fun b z=>absurd z (noA b),e0.bs,e0.bsz,fun b _ _=>noA b,fun b z=>absurd z (noA b),e0.funs,e0.frf⟩,
  rfl,e0.bare,Un.kept hk,⟨_,x.toInCall.ns,fun i y v h1 h2 h3=>?_⟩,fun y c h=>⟨_,x.cell y c h⟩,e0.hok.fresh (q0e _),fun y c h=>?_,fun p hp=>absurd (show p∈([]:List (Addr×Obj)) from hp) (by simp),e0.hok.kept hk,?_⟩
 ·exact name_of_addr x.apart (PySem.mem_of_lookup h1) (PySem.mem_of_lookup h2)
 ·have hy:scope.names.lookup y=some .cell ∨scope.names.lookup y=some .free :=hy
  rcases hy with hy|hy
  ·exact z8K hy
  ·exact absurd rfl (S.nofree _ (PySem.mem_of_lookup hy))
 ·exact Nat.le_of_lt (x.above y c (PySem.mem_of_lookup h))
 ·have hi:i<vs.length:=by
   unfold start at h2
   by_cases hi:i<vs.length
   ·exact hi
   ·rw[q0D (by simpa using hi)] at h2
    rw[List.getElem?_replicate] at h2
    split at h2<;>cases h2
  have ha:vs[i]? =some v:=by
   unfold start at h2
   rw[q0N (by simpa using hi),q0k] at h2
   cases e:vs[i]? with
   |none=>rw[e] at h2;cases h2
   |some a=>rw[e] at h2;cases h2;rfl
  obtain⟨u,hu,rv⟩:=r.get ha
  have hp:ps[i]? =some y:=by
   rw[←S.pre,q1K (by lia)];exact h1
  have ndP:ps.Nodup:=by rw[←S.pre];exact S.nd.sublist (List.take_sublist _ _)
  refine⟨u,rv,?_⟩
  rcases S.par y (q0u hp) with k|k
  ·exact .inl ⟨k,z6R ndP hp hu k⟩
  ·obtain⟨c,e⟩:=z8K (n:=s.heap.objs.size+1) k
   refine .inr ⟨.inl k,c,e,?_⟩
   have q:=x.cell y c e
   rw[z6T ndP hp hu (by show scope.names.lookup y≠_;rw[k];decide)] at q
   exact q
 ·exact e0.hok.fresh (Nat.le_of_lt (x.above y c (PySem.mem_of_lookup h)))
 ·unfold start
  show _=N.length
  rw[q0m,q0b,q1H]
  lia
theorem fn_of {CX:CXT}{P:Program}{w:World}{K:PySem.W.Frag}{mg:Str→Option Value}{base:Heap}{k:Nat}{f:Addr}{name qual:Str}{params:Arguments}{body:List Stmt}{scope:Scope}{dV kV doc pm cdv ct oc:Value}{an od:Option Addr}
 {osl:Array (Option Value)}{N ps:List Str}{sp:Sp} (lk:K.lookup f=some ⟨oc,od,.func (PySem.W.fnOf name qual params body scope dV kV doc pm an cdv ct),osl⟩) (hcd:PySem.W.codeIn K cdv qual=true) (S:z0z N ps scope)
 (len:∀vs H Q E,sp vs H Q E→vs.length=ps.length)
 (hbody:∀(A:Around) (outer:List Env) (s:Shared) (H:Hp) (vs:List V) (Q:VK) (E:XK),Room k (A.deeper (envOfC qual scope s.heap.objs.size f cdv))→sp vs H Q E→
  ∃t,PSs (y5a CX P w K mg base N qual scope f cdv A outer s H E) body t∧t {nx:=fun _ H'=>Q .non H',rt:=Q} (start N vs) H):
 FnOk P w K mg base CX (k+1) f (PySem.W.fnOf name qual params body scope dV kV doc pm an cdv ct) ps sp:=by
 refine⟨len,fun A outer s H args us vs Q E hr e0 hb r hsp=>?_⟩
 have hl:=len _ _ _ _ hsp
 have KX:K.In s.heap:=e0.mod.kin.keeps fun b o e=>(e0.bs b o e).1
 have lim:s.heap.NoLimit:=e0.mod.nolimit.keeps fun b o e=>(e0.bs b o e).1
 have hkind:∀y∈ps.zip us,scope.names.lookup y.1=some .local ∨(scope.names.lookup y.1=some .cell ∧((cellsFrom (s.heap.objs.size+1) scope.names []).lookup y.1).isSome =true):=fun⟨n,v⟩ hy=>by
  rcases S.par n (q1C hy).1 with q|q
  ·exact .inl q
  ·exact .inr ⟨q,PySem.W.cellsFrom_some _ _ _ (.inl q)⟩
 refine codeAny_call_function hr.depth (KX _ _ lk) rfl S.co S.gen rfl (PySem.W.codeRec_of KX hcd) (hb _ _ _ _ ?_)
 refine wpAny_newFunctionEnv_cells S.kind hkind fun env he s1 x=>?_
 subst he
 refine⟨lim.keeps x.toInCall.keep,codeAny_func ?_⟩
 obtain⟨t,ht,hq⟩:=hbody A outer s H vs Q E (hr.deeper _) hsp
 have I:Inv (y5a CX P w K mg base N qual scope f cdv A outer s H E) [] (start N vs) H s1:=y0Y S hr.hd e0 hl r x
 refine wpAny_mono (ht [] s1 (start N vs) H _ I hq) (fun fl s' hs=>?_) fun e s' hs=>hs
 have fin:∀{σ':St}{H':Hp}{v:V}{u:Value},Inv (y5a CX P w K mg base N qual scope f cdv A outer s H E) [] σ' H' s'→RelV v u→Q v H'→CE outer P w H s Q u s':=
  fun {σ' H' v u} J rv q=>⟨v,H',J.os,J.bare,J.base,J.hok,rv,q⟩
 cases fl with
 |ret u=>
  obtain⟨v,σ',H',J,rv,q⟩:=hs
  exact fin J rv q
 |next=>
  obtain⟨σ',H',J,q⟩:=hs
  exact fin (v:=V.non) (u:=Value.none) J rfl q
 |brk=>
  obtain⟨_,_,_,q⟩:=hs
  exact False.elim q
 |cont=>
  obtain⟨_,_,_,q⟩:=hs
  exact False.elim q
end L2
namespace L2
open PySem PySem.Spec PyProof.Rows
section
variable {X:Cx}{x:Str}{p pos:Pos}{e:Expr}{es:List Expr}{t:TA}{id T:String}{r:List V→Hp→VK→Prop}
def tCB (r:List V→Hp→VK→Prop) (t:TA):TE:=fun σ H Q=>t σ H fun vs H1=>r vs H1 Q
theorem z0y (hc:z2B X (.builtin id) r) (hg:Gl X x) (hm:X.mg x=none) (hv:bootBuiltins x=some (.builtin id)) (ha:PA X (e::es) t) (hn:x≠"__name__":=by decide) (hdb:(x==("__debug__":Str))=false:=by decide)
 (he:starEach (e::es) X.env=(false,eval e X.env)::starEach es X.env:=by rfl) (hpl:(backTo pos (starEach es X.env)).any (·.1)=false:=by rfl):PE X (.Call (.Name x p) (e::es) [] pos) (tCB r t):=by
 intro pins s σ H Q I h
 refine wpAny_Call_Name_kw (z3P I hg hm hv ?_ hn hdb)
 exact PyProof.Rows.callWith_builtin1 (thn (ha pos pins s σ H _ I h) fun us s1 ⟨vs,H1,I1,r1,q1⟩=>hc pins s1 σ H1 vs us Q I1 r1 q1) he hpl
theorem z1v (hc:z2B X (.type T) r) (hg:Gl X x) (hm:X.mg x=none) (hv:bootBuiltins x=some (.type T)) (ha:PA X (e::es) t) (hn:x≠"__name__":=by decide) (hdb:(x==("__debug__":Str))=false:=by decide)
 (he:starEach (e::es) X.env=(false,eval e X.env)::starEach es X.env:=by rfl) (hpl:(backTo pos (starEach es X.env)).any (·.1)=false:=by rfl):PE X (.Call (.Name x p) (e::es) [] pos) (tCB r t):=by
 intro pins s σ H Q I h
 refine wpAny_Call_Name_kw (z3P I hg hm hv ?_ hn hdb)
 exact PyProof.Rows.callWith_type1 (thn (ha pos pins s σ H _ I h) fun us s1 ⟨vs,H1,I1,r1,q1⟩=>hc pins s1 σ H1 vs us Q I1 r1 q1) he hpl
end
end L2
namespace HT
open PySem PyProof.Rows
section
open PySem.SeqAt
open PySem.AutoSeq1 (wpAny_loadPart')
open PySem.MeetsSeq PySem.MeetsSeq2 PySem.MeetsSeq3
end
section
variable {prog:Program}{w:World}{A:Around}{E:Value→Shared→Prop}{s:Shared}
theorem cat_tup {t b:Addr}{vs ws:List Value}{Q:Value→Shared→Prop} (ht:IsTup s.heap t vs.toArray) (hb:IsTup s.heap b ws.toArray) (hv:vs≠[])
 (h1:ws=[]→Q (.ref t) s) (h2:ws≠[]→Q (.ref s.heap.objs.size) {s with heap:=s.heap.push {cls:= .type "tuple",data:= .seq (vs++ws).toArray}})
 (hsz:vs.length+ws.length≤sizeLine):wpAny (model prog w) A (binaryOp .Add (.ref t) (.ref b)) Q E s:=by
 obtain⟨⟨cls,dd,data,sl⟩,ho,hc,n,hd⟩:=id ht
 obtain⟨⟨cls2,dd2,data2,sl2⟩,ho2,hc2,n2,hd2⟩:=id hb
 simp only at hc hd hc2 hd2
 subst hc hd hc2 hd2
 have e:vs.toArray++ws.toArray=(vs++ws).toArray :=by simp
 by_cases hw:ws=[]
 ·exact concat_meets ⟨_,ho,rfl⟩ ⟨_,ho2,rfl⟩ noFill_tuple_add seq_tuple_add PySem.F.slot_tuple_add PySem.F.entry_tuple_add (PySem.F.args_tuple_add_2 _ _)
   (tuple_addW1 t b vs.toArray ws.toArray n n2 dd dd2 sl sl2 (by simpa using hv) (by simp[hw])) ⟨ho,ho2,h1 hw⟩
 ·refine concat_meets ⟨_,ho,rfl⟩ ⟨_,ho2,rfl⟩ noFill_tuple_add seq_tuple_add PySem.F.slot_tuple_add PySem.F.entry_tuple_add (PySem.F.args_tuple_add_2 _ _)
   (tuple_addW2 t b vs.toArray ws.toArray n n2 dd dd2 sl sl2 (by simpa using hv) (by simpa using hw) (by rw[q0h,q0h];exact hsz)) ⟨ho,ho2,?_⟩
  rw[e]
  exact h2 hw
def sIx (n d:Nat):Option Int→Nat
 |none=>d
 |some v=>if v<0 then (v+(n:Int)).toNat else min v.toNat n
theorem sIx_none (n d:Nat):sIx n d none=d:=rfl
theorem y5m (n d:Nat) (hd:d≤n) (o:Option Int):sIx n d o≤n:=by
 cases o with
 |none=>exact hd
 |some v=>
  show (if v<0 then (v+(n:Int)).toNat else min v.toNat n)≤n
  by_cases hv:v<0
  ·rw[if_pos hv];lia
  ·rw[if_neg hv];exact Nat.min_le_right _ _
theorem y1z (v:Int) (n d:Nat):(if v<0 then max (v+(n:Int)) 0 else min v (n:Int))=((sIx n d (some v):Nat):Int):=by
 show (if v<0 then max (v+(n:Int)) 0 else min v (n:Int))=(((if v<0 then (v+(n:Int)).toNat else min v.toNat n):Nat):Int)
 by_cases hv:v<0
 ·simp only[if_pos hv];lia
 ·simp only[if_neg hv];lia
theorem z9A (lo hi:Option Int) (n:Nat):Builtin.Slice.sliceAdjust lo hi 1 (n:Int)=(((sIx n 0 lo:Nat):Int),((sIx n n hi:Nat):Int)):=by
 have h1:¬((1:Int)<0):=by lia
 unfold Builtin.Slice.sliceAdjust
 simp only[h1,if_false]
 refine Prod.ext ?_ ?_
 ·cases lo with
  |none=>rfl
  |some v=>exact y1z v n 0
 ·cases hi with
  |none=>rfl
  |some v=>exact y1z v n n
theorem z9e (i j:Nat):Builtin.Slice.slicePlaces (i:Int) (j:Int) 1=j - i:=by
 unfold Builtin.Slice.slicePlaces
 have h1:(1:Int)>0:=by lia
 simp only[h1,if_true,Int.ediv_one]
 split<;>lia
theorem z4W {v:Value}{o:Option Int}{Q:Option Int→Shared→Prop} (p:IsPart v o) (h:Q o s):wpAny (model prog w) A (Builtin.Slice.slicePartIndex v) Q E s:=by
 cases p with
 |none=>exact slicePart_none h
 |int i t=>exact slicePart_int h
theorem z3V {sl:Addr}{vl vu:Value}{lo hi:Option Int}{n:Nat}{Q:Int×Int×Nat→Shared→Prop} (hs:s.heap.IsSliceOf sl vl vu .none) (pl:IsPart vl lo) (pu:IsPart vu hi)
 (h:Q (((sIx n 0 lo:Nat):Int),1,sIx n n hi - sIx n 0 lo) s):wpAny (model prog w) A (Builtin.Slice.sliceApplied (.ref sl) (pure (n:Int))) Q E s:=by
 obtain⟨os,hos,hcs,hds⟩:=id hs
 unfold Builtin.Slice.sliceApplied Builtin.Slice.sliceFields
 refine wpAny_bind (wpAny_bind (wpAny_field hos hds (x:=vl) rfl (wpAny_bind (wpAny_field hos hds (x:=vu) rfl (wpAny_bind (wpAny_field hos hds (x:= .none) rfl (wpAny_pure ?_)))))))
 refine wpAny_bind (slicePart_none ?_)
 show wpAny _ _ (if ((1:Int)==0)=true then _ else _) _ _ s
 rw[if_neg (by decide)]
 refine wpAny_bind (z4W pl (wpAny_bind (z4W pu (wpAny_bind (wpAny_pure ?_)))))
 show wpAny _ _ (match Builtin.Slice.sliceAdjust lo hi 1 (n:Int) with|(lo,hi)=>pure (lo,(1:Int),Builtin.Slice.slicePlaces lo hi 1)) _ _ s
 rw[z9A lo hi n]
 show wpAny _ _ (pure (((sIx n 0 lo:Nat):Int),(1:Int),Builtin.Slice.slicePlaces ((sIx n 0 lo:Nat):Int) ((sIx n n hi:Nat):Int) 1)) _ _ s
 rw[z9e]
 exact wpAny_pure h
theorem y2t (xs:Array Value) (i k:Nat):((List.range k).filterMap fun (m:Nat)=>xs[((i:Int)+(m:Int)*1).toNat]?).toArray =((xs.toList.drop i).take k).toArray :=by
 have e:(fun (m:Nat)=>xs[((i:Int)+(m:Int)*1).toNat]?)=fun m=>xs[i+m]? :=by
  funext m
  have:((i:Int)+(m:Int)*1).toNat =i+m:=by lia
  rw[this]
 rw[e]
 have:=pick_run xs i k
 rw[List.filterMap_map] at this
 have e2:((fun x=>xs[x]?)∘fun x=>i+x)=fun m=>xs[i+m]? :=rfl
 rw[e2] at this
 rw[this]
theorem getItem_tuple_cut {t sl:Addr}{items:Array Value}{vl vu:Value}{lo hi:Option Int}{Q:Value→Shared→Prop} (ht:IsTup s.heap t items) (hs:s.heap.IsSliceOf sl vl vu .none) (pl:IsPart vl lo) (pu:IsPart vu hi)
 (hw:¬(sIx items.size 0 lo=0∧sIx items.size items.size hi=items.size))
 (h:Q (.ref s.heap.objs.size) {s with heap:=s.heap.push {cls:= .type "tuple",data:= .seq ((items.toList.drop (sIx items.size 0 lo)).take (sIx items.size items.size hi - sIx items.size 0 lo)).toArray}})
 (hsz:items.size≤sizeLine):wpAny (model prog w) A (getItem (.ref t) (.ref sl)) Q E s:=by
 have htake:sizeOk (.seq ((items.toList.drop (sIx items.size 0 lo)).take (sIx items.size items.size hi - sIx items.size 0 lo)).toArray):=by
  show ((items.toList.drop (sIx items.size 0 lo)).take (sIx items.size items.size hi - sIx items.size 0 lo)).toArray.size ≤sizeLine
  rw[q0h,q0n,q1R,q1d]
  lia
 have hj:sIx items.size items.size hi≤items.size:=y5m _ _ (q0e _) hi
 obtain⟨os,hos,hcs,hds⟩:=id hs
 have hTs:s.TypeIs (.ref sl) "slice":=⟨os,hos,hcs⟩
 unfold getItem
 try with_reducible refine wpAny_holding ?_
 first|refine wpAny_bind (wpAny_pure ?_)|skip
 refine wpAny_bind (wpAny_sequenceKey ht.typeIs (by decide) ?_)
 refine wpAny_bind (wpAny_callSpecial?_slot (name:=Str.ofString "__getitem__") ht.typeIs PyProof.Rows.slot_tuple_getitem
  (wpAny_call_entry PyProof.Rows.slot_tuple_getitem ht.typeIs entry_tuple_getitem ?_ (args_tuple_getitem _ _)))
 show wpAny _ _ (Builtin.Tuple.tupleItemsOf (.ref t)>>= _) _ _ s
 refine wpAny_bind (tupleItemsOf_ ht ?_)
 refine wpAny_bind (wpAny_typeOf hTs ?_)
 rw[if_pos (by decide)]
 refine wpAny_bind (z3V hs pl pu ?_)
 have hno:¬((((sIx items.size 0 lo:Nat):Int)==0&&(1:Int)==1&&(sIx items.size items.size hi - sIx items.size 0 lo)==items.size)=true):=by
  intro q
  rw[q1i,q1i] at q
  have q1:((sIx items.size 0 lo:Nat):Int)=0:=eq_of_beq q.1.1
  have q2:sIx items.size items.size hi - sIx items.size 0 lo=items.size:=eq_of_beq q.2
  exact hw ⟨by lia,by lia⟩
 show wpAny _ _ (if (((sIx items.size 0 lo:Nat):Int)==0&&(1:Int)==1&&(sIx items.size items.size hi - sIx items.size 0 lo)==items.size)=true then _ else _) _ _ s
 rw[if_neg hno,y2t]
 first
  |exact wpAny_bind (m:=Builtin.Tuple.tupleExact _) (wpAny_newObj_type (wpAny_pure ⟨_,rfl,wpAny_pure h⟩) htake)
  |exact wpAny_bind (m:=Builtin.Tuple.tupleExact _) (wpAny_newObj_type (wpAny_bind (wpAny_pure (wpAny_pure ⟨_,rfl,wpAny_pure h⟩))) htake)
  |exact wpAny_bind (wpAny_bind (m:=Builtin.Tuple.tupleExact _) (wpAny_newObj_type (wpAny_pure (wpAny_pure ⟨_,rfl,wpAny_pure h⟩)) htake))
  |exact wpAny_bind (wpAny_bind (m:=Builtin.Tuple.tupleExact _) (wpAny_newObj_type (wpAny_pure ⟨_,rfl,wpAny_pure h⟩) htake))
end
end HT
namespace L2
open PySem PySem.Spec PyProof.Rows
abbrev TO:=St→Hp→(Option Int→Hp→Prop)→Prop
def PO (X:Cx) (e:Option Expr) (t:TO):Prop:=
 ∀(pins:List (Addr×Obj)) (s:Shared) (σ:St) (H:Hp) (Q:Option Int→Hp→Prop),Inv X pins σ H s→t σ H Q→
  wpAny (model X.prog X.w) X.A (evalPart e X.env) (fun u s'=>∃o H',Inv X pins σ H' s'∧IsPart u o∧Q o H') X.xe s
def y4c:TO:=fun _ H Q=>Q none H
def tPart (t:TE):TO:=fun σ H Q=>t σ H fun x H1=>∃i,x= .int i∧Q (some i) H1
section
variable {X:Cx}{e:Expr}{te:TE}{lo hi:Option Expr}{tl th:TO}{pos p2:Pos}
theorem z2w:PO X none y4c:=by
 intro pins s σ H Q I h
 rw[evalPart_none]
 exact wpAny_pure ⟨none,H,I,.none,h⟩
theorem z2v (h:PE X e te):PO X (some e) (tPart te):=by
 intro pins s σ H Q I hw
 rw[evalPart_some]
 refine thn (h pins s σ H _ I hw) fun u s1 ⟨x,H1,I1,r1,q1⟩=>?_
 obtain⟨i,rfl,q⟩:=q1
 obtain⟨t,rfl⟩:=r1
 exact⟨some i,H1,I1,.int i t,q⟩
def SlR (X:Cx) (r:V→Option Int→Option Int→Hp→VK→Prop):Prop:=
 ∀(pins:List (Addr×Obj)) (s:Shared) (σ:St) (H:Hp) (x:V) (v vl vu:Value) (lo hi:Option Int) (sl:Addr) (Q:VK),Inv X pins σ H s→RelV x v→s.heap.IsSliceOf sl vl vu .none →IsPart vl lo→IsPart vu hi→r x lo hi H Q→
  ∃T id,typeLookup (.type T) "__getitem__"=pure (some (.builtin id))∧s.TypeIs v T∧wpAny (model X.prog X.w) X.A (getItem v (.ref sl)) (EP X pins σ Q) X.xe s
def tSl (r:V→Option Int→Option Int→Hp→VK→Prop) (te:TE) (tl th:TO):TE:=fun σ H Q=>te σ H fun x H1=>tl σ H1 fun l H2=>th σ H2 fun u H3=>r x l u H3 Q
theorem z1O {r:V→Option Int→Option Int→Hp→VK→Prop} (hr:SlR X r) (he:PE X e te) (hl:PO X lo tl) (hu:PO X hi th):PE X (.Subscript e (.Slice lo hi none p2) pos) (tSl r te tl th):=by
 intro pins s σ H Q I h
 refine Subscript_ (thn (he pins s σ H _ I h) fun v s1 ⟨x,H1,I1,r1,q1⟩=>?_)
 refine wpAny_Slice (thn (hl pins s1 σ H1 _ I1 q1) fun vl s2 ⟨l,H2,I2,pl,q2⟩=>thn (hu pins s2 σ H2 _ I2 q2) fun vu s3 ⟨u,H3,I3,pu,q3⟩=>?_)
 rw[evalPart_none]
 refine wpAny_pure ?_
 have I4:Inv X pins σ H3 {s3 with heap:=s3.heap.push {cls:= .type "slice",data:= .fields #[vl,vu,.none]}}:=I3.kept (t':=s3.toks) fun b ob q=>q0d _ q
 obtain⟨T,id,hT,ht,hg⟩:=hr pins {s3 with heap:=s3.heap.push {cls:= .type "slice",data:= .fields #[vl,vu,.none]}} σ H3 x v vl vu l u s3.heap.objs.size Q I4 r1 (Heap.IsSliceOf.new ..) pl pu q3
 show wpAny (model X.prog X.w) X.A (subscriptTail e (.Slice lo hi none p2) v (.ref s3.heap.objs.size)) (EP X pins σ Q) X.xe {s3 with heap:=s3.heap.push {cls:= .type "slice",data:= .fields #[vl,vu,.none]}}
 exact tail_any (ops:=[.ref s3.heap.objs.size,v]) ht hT hg (by with_unfolding_all rfl)
def y1R (xs:List V) (lo hi:Option Int):List V:=(xs.drop (HT.sIx xs.length 0 lo)).take (HT.sIx xs.length xs.length hi - HT.sIx xs.length 0 lo)
theorem z4G (xs:List V) (lo hi:Option Int):(y1R xs lo hi).length ≤xs.length:=by
 unfold y1R
 rw[q0n,q1R]
 lia
def rSlT (K:PySem.W.Frag):V→Option Int→Option Int→Hp→VK→Prop:=fun x lo hi H Q=>∃a xs,x= .ref a∧SqT K H a xs∧
 ¬(HT.sIx xs.length 0 lo=0∧HT.sIx xs.length xs.length hi=xs.length)∧∀p,H p=none→Q (.ref p) (upd H p (.tup (y1R xs lo hi)))
theorem y5j:SlR X (rSlT X.K):=by
 intro pins s σ H x v vl vu lo hi sl Q I rx hs pl pu h
 obtain⟨a,xs,rfl,hx,hw,q⟩:=h
 cases rx
 obtain⟨its,r,ht,hz⟩:=I.tuple hx
 have hlen:its.toArray.size=xs.length:=by rw[q0h];exact r.length.symm
 refine⟨"tuple",_,PyProof.Rows.slot_tuple_getitem.lookup,ht.typeIs,?_⟩
 refine HT.getItem_tuple_cut ht hs pl pu (by rw[hlen];exact hw) ?_ (by rw[hlen];exact hz)
 rw[hlen]
 refine⟨.ref s.heap.objs.size,_,I.laid (t':=s.toks) (o:= .tup (y1R xs lo hi)) (fun b ob q=>q0d _ q) (q0e _) ?_,rfl,q _ (I.hok.fresh (q0e _))⟩
 exact⟨q0o (z4G xs lo hi) hz,_,(r.drop (HT.sIx xs.length 0 lo)).take (HT.sIx xs.length xs.length hi - HT.sIx xs.length 0 lo),IsTup.new _ _⟩
def rCatT (K:PySem.W.Frag):R2:=fun x y H Q=>∃a b xs ys,x= .ref a∧y= .ref b∧SqT K H a xs∧SqT K H b ys∧xs≠[]∧xs.length+ys.length≤sizeLine∧
 (ys=[]→Q (.ref a) H)∧(ys≠[]→∀p,H p=none→Q (.ref p) (upd H p (.tup (xs++ys))))
theorem Vals.nil_iff {xs:List V}{us:List Value} (r:Vals xs us):us=[]↔xs=[]:=by
 cases r with
 |nil=>simp
 |cons _ _=>simp
theorem y4A:OpR X (binaryOp .Add) (rCatT X.K):=by
 intro pins s σ H x y v u Q I rx ry h
 obtain⟨a,b,xs,ys,rfl,rfl,ha,hb,hx,hz,q1,q2⟩:=h
 cases rx
 cases ry
 obtain⟨its,r1,p1,_⟩:=I.tuple ha
 obtain⟨its2,r2,p2,_⟩:=I.tuple hb
 refine HT.cat_tup p1 p2 (fun z=>hx (r1.nil_iff.mp z)) (fun z=>⟨.ref a,H,I,rfl,q1 (r2.nil_iff.mp z)⟩) (fun z=>?_) (by rw[←r1.length,←r2.length];exact hz)
 refine⟨.ref s.heap.objs.size,_,I.laid (t':=s.toks) (o:= .tup (xs++ys)) (fun b ob q=>q0d _ q) (q0e _) ?_,rfl,q2 (fun w=>z (r2.nil_iff.mpr w)) _ (I.hok.fresh (q0e _))⟩
 exact⟨by rw[q0m];exact hz,_,r1.append r2,IsTup.new _ _⟩
end
end L2
namespace L2
open PySem PySem.Spec PyProof.Rows
def ixN (n:Nat) (i:Int):Option Nat:=if 0≤i then (if i<n then some i.toNat else none) else if -(n:Int)≤i then some (i+n).toNat else none
def atI {α:Type} (xs:List α) (i:Int):Option α:=(ixN xs.length i).bind fun j=>xs[j]?
theorem y0V {n:Nat}{i:Int}{j:Nat} (h:ixN n i=some j):seqIndex? i n=some j∧j<n∧ -(n:Int)≤i∧i<n:=by
 unfold ixN at h
 by_cases h0:0≤i
 ·rw[if_pos h0] at h
  by_cases h1:i<n
  ·rw[if_pos h1] at h
   have e:i.toNat=j:=Option.some.inj h
   exact⟨by rw[seqIndex_of h0 h1,e],by lia,by lia,h1⟩
  ·rw[if_neg h1] at h;cases h
 ·rw[if_neg h0] at h
  by_cases h1: -(n:Int)≤i
  ·rw[if_pos h1] at h
   have e:(i+n).toNat =j:=Option.some.inj h
   exact⟨by rw[seqIndex_neg (by lia) h1,e],by lia,h1,by lia⟩
  ·rw[if_neg h1] at h;cases h
theorem y1K {α:Type}{xs:List α}{i:Int}{v:α} (h:atI xs i=some v):∃j,seqIndex? i xs.length=some j∧xs[j]? =some v∧j<xs.length∧ -(xs.length:Int)≤i∧i<xs.length:=by
 unfold atI at h
 cases e:ixN xs.length i with
 |none=>rw[e] at h;cases h
 |some j=>
  rw[e] at h
  obtain⟨h1,h2,h3,h4⟩:=y0V e
  exact⟨j,h1,h,h2,h3,h4⟩
theorem z2m {α:Type}{xs:List α}{j:Nat}{v:α} (h:xs[j]? =some v):atI xs (j:Int)=some v:=by
 have hj:j<xs.length:=(q0E.mp h).1
 have e:ixN xs.length (j:Int)=some j:=by
  unfold ixN
  rw[if_pos (by lia),if_pos (by lia)];simp
 unfold atI;rw[e];exact h
theorem z3q {α:Type} (xs:List α) (v:α):atI (xs++[v]) (-1)=some v:=by
 have hl:(xs++[v]).length =xs.length+1:=by simp
 have e:ixN (xs++[v]).length (-1)=some xs.length:=by
  unfold ixN
  rw[hl,if_neg (by decide),if_pos (by lia)]
  congr 1
  lia
 unfold atI
 rw[e]
 show (xs++[v])[xs.length]? =some v
 simp
def y4Z (b:Expr):Prop:=∀o i,subscripted b false o i=operate [o,i] (getItem o i)
def IxR (X:Cx) (r:R2):Prop:=
 ∀(value slice:Expr) (pins:List (Addr×Obj)) (s:Shared) (σ:St) (H:Hp) (x y:V) (v u:Value) (Q:VK),Inv X pins σ H s→RelV x v→RelV y u→r x y H Q→
  subscripted slice false v u=operate [v,u] (getItem v u)→wpAny (model X.prog X.w) X.A (subscriptTail value slice v u) (EP X pins σ Q) X.xe s
def MtR (X:Cx) (id:String) (r:V→List V→Hp→VK→Prop):Prop:=
 ∀(pins:List (Addr×Obj)) (s:Shared) (σ:St) (H:Hp) (x:V) (xs:List V) (v:Value) (us:List Value) (Q:VK),Inv X pins σ H s→RelV x v→Vals xs us→r x xs H Q→
  wpAny (model X.prog X.w) X.A (call (.builtin id) (v::us)) (EP X pins σ Q) X.xe s
section
variable {X:Cx}{a b:Expr}{ta tb:TE}{pos:Pos}
theorem IxR.or {r r':R2} (h:IxR X r) (h':IxR X r'):IxR X (fun x y H Q=>r x y H Q∨r' x y H Q):=by
 intro value slice pins s σ H x y v u Q I rx ry q hs
 rcases q with q|q
 ·exact h value slice pins s σ H x y v u Q I rx ry q hs
 ·exact h' value slice pins s σ H x y v u Q I rx ry q hs
theorem z0K {r:R2} (hr:IxR X r) (ha:PE X a ta) (hb:PE X b tb) (hs:y4Z b):PE X (.Subscript a b pos) (tOp r ta tb):=by
 intro pins s σ H Q I h
 exact Subscript_ (binT ha hb I h fun v u s2 x y H2 I2 rx ry q=>hr a b pins s2 σ H2 x y v u Q I2 rx ry q (hs _ _))
def rIxL (K:PySem.W.Frag):R2:=fun x y H Q=>∃p xs i v,x= .ref p∧y= .int i∧SqL K H p xs∧atI xs i=some v∧Q v H
def rIxT (K:PySem.W.Frag):R2:=fun x y H Q=>∃p xs i v,x= .ref p∧y= .int i∧SqT K H p xs∧atI xs i=some v∧Q v H
theorem y0U:IxR X (rIxL X.K):=by
 intro value slice pins s σ H x y v u Q I rx ry h hs
 obtain⟨p,xs,i,z,rfl,rfl,hq,he,q⟩:=h
 cases rx
 obtain⟨t,rfl⟩:=ry
 obtain⟨its,r,pl,hz⟩:=I.list hq
 obtain⟨j,h1,h2,h3,h4,h5⟩:=y1K he
 obtain⟨w,ew,rw'⟩:=r.get h2
 have hl:=r.length
 have hn:=z8p
 have fin:EP X pins σ Q w s:=⟨z,H,I,rw',q⟩
 by_cases h0:0≤i
 ·have hj:i.toNat=j:=by
   rw[seqIndex_of h0 h5] at h1
   exact Option.some.inj h1
  exact item_listR pl.isList h0 (by lia) (by rw[hj];simpa using ew) fin hs
 ·have hj:(i+(its.toArray.size:Int)).toNat =j:=by
   rw[seqIndex_neg (by lia) h4] at h1
   rw[q0h,←hl]
   exact Option.some.inj h1
  exact subscriptTail_builtinR (x:=w) pl.isList.typeIs slot_list_getitem.lookup
   (wpAny_getItem_list_neg (Q:=fun r s'=>r=w∧EP X pins σ Q r s') pl.isList (by lia) (by rw[q0h]<;>lia) (by lia) (by rw[hj];simpa using ew) ⟨rfl,fin⟩) hs
theorem y3G:IxR X (rIxT X.K):=by
 intro value slice pins s σ H x y v u Q I rx ry h hs
 obtain⟨p,xs,i,z,rfl,rfl,hq,he,q⟩:=h
 cases rx
 obtain⟨t,rfl⟩:=ry
 obtain⟨its,r,pl,hz⟩:=I.tuple hq
 obtain⟨j,h1,h2,h3,h4,h5⟩:=y1K he
 obtain⟨w,ew,rw'⟩:=r.get h2
 have hl:=r.length
 have hn:=z8p
 have fin:EP X pins σ Q w s:=⟨z,H,I,rw',q⟩
 exact subscriptTail_builtinR (x:=w) pl.typeIs slot_tuple_getitem.lookup
  (getItem_tuple (j:=j) (Q:=fun r s'=>r=w∧EP X pins σ Q r s') pl (by lia) (by lia) (by rw[q0h,←hl];exact h1) (by simpa using ew) ⟨rfl,fin⟩) hs
theorem z9q (its:List Value) (n j:Nat) (u:Value):Obj.mapSeq (·.setIfInBounds j u) {cls:= .type "list",data:= .seq its.toArray n}={cls:= .type "list",data:= .seq (its.set j u).toArray n}:=by
 simp[Obj.mapSeq]
theorem Inv.lst {pins:List (Addr×Obj)}{σ:St}{H:Hp}{s:Shared}{p:Addr}{xs:List V} (I:Inv X pins σ H s) (h:H p=some (.lst xs)):
 ∃(its:List Value) (n:Nat),Vals xs its∧s.heap.get? p=some {cls:= .type "list",data:= .seq its.toArray n}∧xs.length≤sizeLine:=by
 obtain⟨z,its,n,r,e⟩:=I.hok p _ h
 exact⟨its,n,r,e,z⟩
theorem Inv.lstUpd {pins:List (Addr×Obj)}{σ:St}{H:Hp}{s:Shared}{p:Addr}{xs ys:List V}{its its':List Value}{n n':Nat}{f:Obj→Obj} (I:Inv X pins σ H s) (h:H p=some (.lst xs))
 (ho:s.heap.get? p=some {cls:= .type "list",data:= .seq its.toArray n}) (hf:f {cls:= .type "list",data:= .seq its.toArray n}={cls:= .type "list",data:= .seq its'.toArray n'}) (r:Vals ys its') (hz:ys.length≤sizeLine) (t:Nat):
 Inv X pins σ (upd H p (.lst ys)) {s with heap:=s.heap.update p f,toks:=t}:=by
 have e:(s.heap.update p f).get? p=some {cls:= .type "list",data:= .seq its'.toArray n'}:=by
  rw[Heap.get?_update_self f ho (by rw[hf]<;>rfl),hf]
 refine I.write (x:=p) (e:=p) (by rw[h];trivial) (.inl rfl) (fun b u hb q=>(q1F _ _ (Ne.symm hb)).trans q) ⟨_,e⟩ ?_
 exact⟨hz,its',n',r,e⟩
def rSetL:V→V→V→Hp→(Hp→Prop)→Prop:=fun o i v H Q=>∃p xs k j,o= .ref p∧i= .int k∧H p=some (.lst xs)∧ixN xs.length k=some j∧Q (upd H p (.lst (xs.set j v)))
theorem z1y:PSet X rSetL:=by
 intro pins s σ H o i v ov iv u Q I ro ri rv h
 obtain⟨p,xs,k,j,rfl,rfl,hp,hj,q⟩:=h
 cases ro
 obtain⟨t,rfl⟩:=ri
 obtain⟨its,n,r,ho,hz⟩:=I.lst hp
 obtain⟨h1,h2,h3,h4⟩:=y0V hj
 have hl:=r.length
 have hn:=z8p
 have I':Inv X pins σ (upd H p (.lst (xs.set j v))) {s with heap:=s.heap.update p (Obj.mapSeq (·.setIfInBounds j u))}:=
  I.lstUpd hp ho (z9q its n j u) (r.set rv j) (by rw[List.length_set];exact hz) s.toks
 by_cases h0:0≤k
 ·have hk:k.toNat=j:=by
   rw[seqIndex_of h0 h4] at h1
   exact Option.some.inj h1
  exact PySem.W.ki_setAt ho h0 (by lia) (by rw[q0h,←hl];exact h4) (by rw[hk];exact⟨_,I',q⟩)
 ·have hk:(k+(its.toArray.size:Int)).toNat =j:=by
   rw[seqIndex_neg (by lia) h3] at h1
   rw[q0h,←hl]
   exact Option.some.inj h1
  exact PySem.W.ki_setBack ho (by lia) (by rw[q0h,←hl];exact h3) (by lia) (by rw[hk];exact⟨_,I',q⟩)
theorem z6n (lo hi:Option Int) (n:Nat):(sliceBounds lo hi none n).1 =((HT.sIx n 0 lo:Nat):Int)∧(sliceBounds lo hi none n).2.1 =((HT.sIx n n hi:Nat):Int)∧(sliceBounds lo hi none n).2.2 =1:=by
 refine⟨?_,?_,rfl⟩
 ·cases lo with
  |none=>simp[sliceBounds,HT.sIx]
  |some i=>
   simp only[sliceBounds,HT.sIx,Option.getD_none,show (1:Int)>0 by decide,if_true]
   by_cases h:i<0
   ·simp only[h,if_true]<;>lia
   ·simp only[h,if_false]<;>lia
 ·cases hi with
  |none=>simp[sliceBounds,HT.sIx]
  |some i=>
   simp only[sliceBounds,HT.sIx,Option.getD_none,show (1:Int)>0 by decide,if_true]
   by_cases h:i<0
   ·simp only[h,if_true]<;>lia
   ·simp only[h,if_false]<;>lia
theorem z5w (its:List Value) (lo hi:Option Int):slicePick its.toArray lo hi none=((its.drop (HT.sIx its.length 0 lo)).take (HT.sIx its.length its.length hi - HT.sIx its.length 0 lo)).toArray :=by
 obtain⟨h1,h2,h3⟩:=z6n lo hi its.toArray.size
 unfold slicePick
 rw[h1,h2,h3]
 simp only[sliceRange_one,pick_run,q0h]<;>rfl
def rSlL (K:PySem.W.Frag):V→Option Int→Option Int→Hp→VK→Prop:=fun x lo hi H Q=>∃a xs,x= .ref a∧SqL K H a xs∧∀p,H p=none→Q (.ref p) (upd H p (.lst (y1R xs lo hi)))
theorem y4f:SlR X (rSlL X.K):=by
 intro pins s σ H x v vl vu lo hi sl Q I rx hs pl pu h
 obtain⟨a,xs,rfl,hx,q⟩:=h
 cases rx
 obtain⟨its,r,ht,hz⟩:=I.list hx
 have hlen:=r.length
 refine⟨"list",_,slot_list_getitem.lookup,ht.isList.typeIs,?_⟩
 refine wpAny_getItem_list_slice ht.isList hs pl pu .none (by simp) ?_ (by rw[q0h]<;>lia)
 rw[z5w,←hlen]
 refine⟨.ref s.heap.objs.size,_,I.laid (t':=s.toks) (o:= .lst (y1R xs lo hi)) (fun b ob q=>q0d _ q) (q0e _) ?_,rfl,q _ (I.hok.fresh (q0e _))⟩
 exact⟨q0o (z4G xs lo hi) hz,_,0,(r.drop (HT.sIx xs.length 0 lo)).take (HT.sIx xs.length xs.length hi - HT.sIx xs.length 0 lo),q0q _ rfl⟩
def z5P:V→Bool
 | .non =>true
 | .bl _=>true
 | .int _=>true
 | .str _=>true
 |_=>false
def eqV:V→V→Bool
 | .non,.non =>true
 | .bl a,.bl b=>a==b
 | .bl a,.int b=>(if a then 1 else 0)==b
 | .int a,.bl b=>a==(if b then 1 else 0)
 | .int a,.int b=>a==b
 | .str a,.str b=>a==b
 |_,_=>false
theorem y6c {A:Around}{s:Shared}{y x:V}{u v:Value} (ry:RelV y u) (rx:RelV x v) (fy:z5P y=true) (fx:z5P x=true):SeqAt.EqAt A s u v (eqV y x):=by
 cases y with
 |non=>
  cases ry
  cases x with
  |non=>cases rx;exact SeqAt.EqAt.same _
  |bl b=>cases rx;exact SeqAt.EqAt.none_bool b
  |int b=>obtain⟨t,rfl⟩:=rx;exact SeqAt.EqAt.none_int b t
  |str b=>obtain⟨t,rfl⟩:=rx;exact SeqAt.EqAt.none_str b t
  |_=>exact absurd (show false=true from fx) Bool.false_ne_true
 |bl a=>
  cases ry
  cases x with
  |non=>cases rx;exact SeqAt.EqAt.bool_none a
  |bl b=>cases rx;exact SeqAt.EqAt.bool_bool a b
  |int b=>obtain⟨t,rfl⟩:=rx;exact SeqAt.EqAt.bool_int a b t
  |str b=>obtain⟨t,rfl⟩:=rx;exact SeqAt.EqAt.bool_str a b t
  |_=>exact absurd (show false=true from fx) Bool.false_ne_true
 |int a=>
  obtain⟨t',rfl⟩:=ry
  cases x with
  |non=>cases rx;exact SeqAt.EqAt.int_none a t'
  |bl b=>cases rx;exact SeqAt.EqAt.int_bool a t' b
  |int b=>obtain⟨t,rfl⟩:=rx;exact SeqAt.EqAt.int_int a t' b t
  |str b=>obtain⟨t,rfl⟩:=rx;exact SeqAt.EqAt.int_str a t' b t
  |_=>exact absurd (show false=true from fx) Bool.false_ne_true
 |str a=>
  obtain⟨t',rfl⟩:=ry
  cases x with
  |non=>cases rx;exact SeqAt.EqAt.str_none a t'
  |bl b=>cases rx;exact SeqAt.EqAt.str_bool a t' b
  |int b=>obtain⟨t,rfl⟩:=rx;exact SeqAt.EqAt.str_int a t' b t
  |str b=>obtain⟨t,rfl⟩:=rx;exact SeqAt.EqAt.str_str a t' b t
  |_=>exact absurd (show false=true from fx) Bool.false_ne_true
 |_=>exact absurd (show false=true from fy) Bool.false_ne_true
def eqU (x:V) (u:Value):Bool:=match u with
 | .none =>eqV .non x
 | .bool b=>eqV (.bl b) x
 | .int i _=>eqV (.int i) x
 | .str z _=>eqV (.str z) x
 |_=>false
theorem y3L {x y:V}{u:Value} (r:RelV y u) (f:z5P y=true):eqU x u=eqV y x:=by
 cases y with
 |non=>cases r;rfl
 |bl b=>cases r;rfl
 |int i=>obtain⟨t,rfl⟩:=r;rfl
 |str z=>obtain⟨t,rfl⟩:=r;rfl
 |_=>exact absurd (show false=true from f) Bool.false_ne_true
theorem z7H {x:V}:∀{xs:List V}{us:List Value},Vals xs us→xs.all z5P=true→us.any (eqU x)=xs.any fun y=>eqV y x
 |_,_,.nil,_=>rfl
 |y::xs,u::us,.cons r t,f=>by
  rw[List.all_cons,q1i] at f
  rw[List.any_cons,List.any_cons,y3L r f.1,z7H t f.2]
theorem z5H {A:Around}{s:Shared}{x:V}{v:Value} (rx:RelV x v) (fx:z5P x=true):∀{xs:List V}{us:List Value},Vals xs us→xs.all z5P=true→∀u∈us,SeqAt.EqAt A s u v (eqU x u)
 |_,_,.nil,_=>fun u hu=>by cases hu
 |y::xs,u::us,.cons r t,f=>fun u' hu=>by
  rw[List.all_cons,q1i] at f
  rcases q0l.mp hu with rfl|hu
  ·rw[y3L r f.1];exact y6c r rx f.1 fx
  ·exact z5H rx fx t f.2 u' hu
def inV (x:V) (xs:List V):Bool:=xs.any fun y=>eqV y x
def rIn (K:PySem.W.Frag) (neg:Bool):R2:=fun x y H Q=>∃p xs,y= .ref p∧(SqL K H p xs∨SqT K H p xs)∧z5P x=true∧xs.all z5P=true∧Q (.bl (if neg then !inV x xs else inV x xs)) H
theorem z6x:OpR X (compareOp .NotIn) (rIn X.K true):=by
 intro pins s σ H x y v u Q I rx ry h
 obtain⟨p,xs,rfl,hq,fx,fs,q⟩:=h
 cases ry
 rcases hq with hq|hq
 ·obtain⟨its,r,pl,hz⟩:=I.list hq
  refine SeqAt.notIn_listAt (eqU x) pl.isList (fun w hw=>z5H rx fx r fs w (by simpa using hw)) ⟨.bl _,H,I,rfl,?_⟩
  rw[show its.toArray.any (eqU x)=its.any (eqU x) by simp,z7H r fs]
  exact q
 ·obtain⟨its,r,pl,hz⟩:=I.tuple hq
  refine SeqAt.notIn_tupleAt (eqU x) pl (fun w hw=>z5H rx fx r fs w (by simpa using hw)) ⟨.bl _,H,I,rfl,?_⟩
  rw[show its.toArray.any (eqU x)=its.any (eqU x) by simp,z7H r fs]
  exact q
theorem z6N:z2B X (.builtin "len") (fun xs H Q=>∃p ys,xs=[.ref p]∧(SqL X.K H p ys∨SqT X.K H p ys)∧Q (.int ys.length) H):=by
 intro pins s σ H xs us Q I r h
 obtain⟨p,ys,rfl,hq,q⟩:=h
 obtain⟨u,rfl,rx⟩:=z6Z r
 cases rx
 have hn:=z8p
 rcases hq with hq|hq
 ·obtain⟨its,r',pl,hz⟩:=I.list hq
  have hlen:=r'.length
  exact Calls.call_len_list pl.isList (by simp only[q0h]<;>lia) ⟨.int ys.length,H,I.tok _,⟨s.toks+1,by rw[q0h,hlen]⟩,q⟩
 ·obtain⟨its,r',pl,hz⟩:=I.tuple hq
  have hlen:=r'.length
  exact len_tuple pl (by simp only[q0h]<;>lia) ⟨.int ys.length,H,I.tok _,⟨s.toks+1,by rw[q0h,hlen]⟩,q⟩
theorem z6M:z2B X (.type "list") (fun xs H Q=>∃p ys,xs=[.ref p]∧(SqL X.K H p ys∨SqT X.K H p ys)∧∀l,H l=none→Q (.ref l) (upd H l (.lst ys))):=by
 intro pins s σ H xs us Q I r h
 obtain⟨p,ys,rfl,hq,q⟩:=h
 obtain⟨u,rfl,rx⟩:=z6Z r
 cases rx
 have fin:∀(its:List Value),Vals ys its→ys.length≤sizeLine→∀(h':Heap) (c':Nat),(∀b o',s.heap.get? b=some o'→h'.get? b=some o')→
  h'.get? s.heap.objs.size=some {cls:= .type "list",dict:=none,data:= .seq its.toArray c',slots:= #[]}→EP X pins σ Q (.ref s.heap.objs.size) {s with heap:=h'}:=fun its r' hz h' c' kp e=>
  ⟨.ref s.heap.objs.size,_,I.laid (t':=s.toks) kp (q0e _) (show ObjOk X.prog X.w _ h' _ (.lst ys) from⟨hz,its,c',r',e⟩),rfl,q _ (I.hok.fresh (q0e _))⟩
 rcases hq with hq|hq
 ·obtain⟨its,r',pl,hz⟩:=I.list hq
  have hlen:=r'.length
  obtain⟨o,ho,hc,n,hd⟩:=pl.isList
  exact call_list_seq p (.inl rfl) ho hc hd (fun h' c' kp e=>fin its r' hz h' c' kp e) (by simp only[q0h]<;>lia)
 ·obtain⟨its,r',pl,hz⟩:=I.tuple hq
  have hlen:=r'.length
  obtain⟨o,ho,hc,n,hd⟩:=pl
  exact call_list_seq p (.inr rfl) ho hc hd (fun h' c' kp e=>fin its r' hz h' c' kp e) (by simp only[q0h]<;>lia)
theorem z5T:z2B X (.type "tuple") (fun xs H Q=>∃p ys,xs=[.ref p]∧((SqL X.K H p ys∧∀l,H l=none→Q (.ref l) (upd H l (.tup ys)))∨(SqT X.K H p ys∧Q (.ref p) H))):=by
 intro pins s σ H xs us Q I r h
 obtain⟨p,ys,rfl,h⟩:=h
 obtain⟨u,rfl,rx⟩:=z6Z r
 cases rx
 rcases h with⟨hq,q⟩|⟨hq,q⟩
 ·obtain⟨its,r',pl,hz⟩:=I.list hq
  have hlen:=r'.length
  refine call_tuple_list pl.isList (fun h' kp=>?_) (by simp only[q0h]<;>lia)
  have I1:Inv X pins σ H {s with heap:=h'}:=I.kept (t':=s.toks) kp
  have I2:Inv X pins σ (upd H h'.objs.size (.tup ys)) {s with heap:=h'.push {cls:= .type "tuple",data:= .seq its.toArray}}:=
   I1.laid (t':=s.toks) (fun b o e=>q0d _ e) (q0e _) (show ObjOk X.prog X.w _ _ _ (.tup ys) from⟨hz,its,r',IsTup.new _ _⟩)
  exact⟨.ref h'.objs.size,_,I2,rfl,q _ (I1.hok.fresh (q0e _))⟩
 ·obtain⟨its,r',pl,hz⟩:=I.tuple hq
  exact call_tuple_same pl ⟨.ref p,H,I,rfl,q⟩
def tyV (K:PySem.W.Frag) (T:String) (x:V) (H:Hp):Prop:=match x with
 | .str _=>T="str"
 | .int _=>T="int"
 | .ref p=>(T="list"∧∃xs,SqL K H p xs)∨(T="tuple"∧∃o,K.lookup p=some o∧o.cls= .type "tuple"∧o.dict=none)∨
  (T="dict"∧((∃kvs,H p=some (.dK kvs))∨∃kvs,H p=some (.dT kvs)))∨(T="set"∧∃S n,H p=some (.set S n))
 |_=>False
theorem y3i {pins:List (Addr×Obj)}{σ:St}{H:Hp}{s:Shared}{T:String}{x:V}{v:Value} (I:Inv X pins σ H s) (r:RelV x v) (ty:tyV X.K T x H):
 s.TypeIs v T∧∀a,v= .ref a→∃ob,s.heap.get? a=some ob∧ob.dict=none:=by
 cases x with
 |str z=>
  obtain⟨t,rfl⟩:=r
  cases (show T="str" from ty)
  exact⟨typeIs_str s z t,fun _ e=>nomatch e⟩
 |int i=>
  obtain⟨t,rfl⟩:=r
  cases (show T="int" from ty)
  exact⟨typeIs_int s i t,fun _ e=>nomatch e⟩
 |ref p=>
  cases r
  rcases ty with⟨rfl,xs,hq⟩|⟨rfl,o,hk,hc,hd⟩|⟨rfl,hk⟩|⟨rfl,S,n,hk⟩
  ·obtain⟨its,_,pl,_⟩:=I.list hq
   refine⟨pl.isList.typeIs,fun a e=>?_⟩
   cases e
   obtain⟨o,n,e,c,hd,_⟩:=pl
   exact⟨o,e,hd⟩
  ·refine⟨⟨o,I.kIn p o hk,hc⟩,fun a e=>?_⟩
   cases e
   exact⟨o,I.kIn _ o hk,hd⟩
  ·have z:∃o,s.heap.get? p=some o∧o.ExactDict:=by
      rcases hk with⟨kvs,hk⟩|⟨kvs,hk⟩
      ·obtain⟨_,_,_,_,o,_,_,e,ex,_⟩:=I.hok p _ hk
       exact⟨o,e,ex⟩
      ·obtain⟨_,_,_,_,o,_,_,e,ex,_⟩:=I.hok p _ hk
       exact⟨o,e,ex⟩
   obtain⟨o,e,ex⟩:=z
   refine⟨⟨o,e,ex.1⟩,fun a e2=>?_⟩
   cases e2
   exact⟨o,e,ex.2.1⟩
  ·obtain⟨o,_,_,_,e,ex,_⟩:=I.hok p _ hk
   refine⟨⟨o,e,ex.1⟩,fun a e2=>?_⟩
   cases e2
   exact⟨o,e,ex.2.1⟩
 |_=>exact False.elim ty
def tBM0 (K:PySem.W.Frag) (T:String) (r:V→List V→Hp→VK→Prop) (to:TE):TE:=fun σ H Q=>to σ H fun x H1=>tyV K T x H1∧r x [] H1 Q
def tBM (K:PySem.W.Frag) (T:String) (r:V→List V→Hp→VK→Prop) (to:TE) (t:TA):TE:=fun σ H Q=>to σ H fun x H1=>tyV K T x H1∧t σ H1 fun xs H2=>r x xs H2 Q
variable {o e:Expr}{es:List Expr}{to:TE}{t:TA}{name:Str}{apos cpos:Pos}{T id:String}{r:V→List V→Hp→VK→Prop}
theorem y5z (pa:PlainAttrs T) (slot:Slot T name id) (hty:typeOf (.builtin id)=pure (.type "method_descriptor")) (hm:MtR X id r) (ho:PE X o to)
 (hbase:attributeBase o name X.env (eval o X.env)=eval o X.env:=by rfl) (hline:(apos.endLine==cpos.line)=true:=by rfl):PE X (.Call (.Attribute o name apos) [] [] cpos) (tBM0 X.K T r to):=by
 intro pins s σ H Q I h
 refine wpAny_Call_method0_late hbase hline (thn (ho pins s σ H _ I h) fun v s1 ⟨x,H1,I1,r1,ty,q1⟩=>?_)
 obtain⟨h1,h2⟩:=y3i I1 r1 ty
 exact⟨T,id,pa,slot,hty,h1,h2,Calls.callWith_builtin rfl (PySem.evalArgs_none (hm pins s1 σ H1 x [] v [] Q I1 r1 .nil q1))⟩
theorem z9f (pa:PlainAttrs T) (slot:Slot T name id) (hty:typeOf (.builtin id)=pure (.type "method_descriptor")) (hm:MtR X id r) (ho:PE X o to) (ha:PA X (e::es) t)
 (hbase:attributeBase o name X.env (eval o X.env)=eval o X.env:=by rfl)
 (hfew:((backTo cpos (starEach (e::es) X.env)).all (fun x=> !x.1)&&(backToKw cpos (keywordEach [] X.env)).all (fun x=>x.1.isSome)
  &&decide ((e::es).length +([]:List Keyword).length +(if ([]:List Keyword).isEmpty then 0 else 1)<30))=true:=by rfl)
 (hline:(apos.endLine==cpos.line)=true:=by rfl) (hs:starEach (e::es) X.env=(false,eval e X.env)::starEach es X.env:=by rfl) (hplain:(backTo cpos (starEach es X.env)).any (·.1)=false:=by rfl):
 PE X (.Call (.Attribute o name apos) (e::es) [] cpos) (tBM X.K T r to t):=by
 intro pins s σ H Q I h
 refine wpAny_Call_method_late hbase hfew hline rfl (thn (ho pins s σ H _ I h) fun v s1 ⟨x,H1,I1,r1,ty,q1⟩=>?_)
 obtain⟨h1,h2⟩:=y3i I1 r1 ty
 refine⟨T,id,pa,slot,hty,h1,h2,?_⟩
 have hA:=ha cpos pins s1 σ H1 _ I1 q1
 rw[hs] at hA ⊢
 refine Calls.callWith_builtin (by show (false || (backTo cpos (starEach es X.env)).any (·.1))=false;rw[hplain]<;>rfl) (Calls.evalArgs_plain ?_)
 exact thn hA fun us s2 ⟨vs,H2,I2,r2,q2⟩=>hm pins s2 σ H2 x vs v us Q I2 r1 r2 q2
end
end L2
namespace L2
open PySem PySem.Spec PyProof.Rows
def MtM (X:Cx) (id:String) (r:V→List V→Hp→VK→Prop):Prop:=
 ∀(pins:List (Addr×Obj)) (s:Shared) (σ:St) (H:Hp) (x:V) (xs:List V) (v:Value) (us:List Value) (Q:VK),Inv X pins σ H s→RelV x v→Vals xs us→r x xs H Q→
  wpAny (model X.prog X.w) X.A (call (.builtin id) (v::us)) (EP X pins σ Q) X.xe s
theorem Vals.one:∀{x:V}{us:List Value},Vals [x] us→∃u,us=[u]∧RelV x u
 |_,_,.cons r .nil =>⟨_,rfl,r⟩
theorem Vals.zero:∀{us:List Value},Vals [] us→us=[]
 |_,.nil =>rfl
theorem Vals.rep {xs:List V}{us:List Value} (h:Vals xs us):∀k:Nat,Vals (List.replicate k xs).flatten (List.replicate k us).flatten
 |0=> .nil
 |k+1=>by
  rw[q0X,q0X,q1M,q1M]
  exact Vals.append h (Vals.rep h k)
theorem z6K (its:List Value):∀(k:Nat) (acc:List Value),
 List.foldl (fun x1 x2=>x1++x2) acc.toArray (List.replicate k its.toArray)=(acc++(List.replicate k its).flatten).toArray
 |0,acc=>by simp
 |k+1,acc=>by
  have e:acc.toArray++its.toArray=(acc++its).toArray :=by simp
  have e2:(acc++its)++(List.replicate k its).flatten =acc++(List.replicate (k+1) its).flatten :=by
   rw[q0X,q1M,q1B]
  rw[←e2,←z6K its k (acc++its),←e,q0X,List.foldl_cons]
section
variable {X:Cx}{pins:List (Addr×Obj)}{σ:St}{H:Hp}{s:Shared}{l b:Addr}{xs ys zs:List V}
theorem Inv.lset {its its':List Value}{n:Nat}{f:Array Value→Array Value}{t':Nat} (I:Inv X pins σ H s) (hH:H l=some (.lst xs))
 (e:s.heap.get? l=some {cls:= .type "list",data:= .seq its.toArray n}) (hf:f its.toArray=its'.toArray) (hv:Vals ys its') (hz:ys.length≤sizeLine):
 Inv X pins σ (upd H l (.lst ys)) {s with heap:=s.heap.update l (Obj.mapSeq f),toks:=t'}:=by
 have q:=PySem.IsL.update e f
 rw[hf] at q
 refine I.write (x:=l) (e:=l) (by rw[hH];exact trivial) (.inl rfl) (fun b' u hb hu=>(q1F s.heap (Obj.mapSeq f) (Ne.symm hb)).trans hu) ⟨_,q⟩ ?_
 exact⟨hz,its',_,hv,q⟩
theorem Inv.lnew {its:List Value}{t':Nat} (I:Inv X pins σ H s) (hv:Vals ys its) (hz:ys.length≤sizeLine):
 Inv X pins σ (upd H s.heap.objs.size (.lst ys)) {s with heap:=s.heap.push {cls:= .type "list",data:= .seq its.toArray},toks:=t'}:=
 I.laid (fun _ _ q=>q0d _ q) (q0e _) ⟨hz,its,0,hv,q0q _ rfl⟩
theorem Inv.fresh (I:Inv X pins σ H s):H s.heap.objs.size=none:=I.hok.fresh (q0e _)
theorem Inv.lstM (I:Inv X pins σ H s) (hH:H l=some (.lst xs)):xs.length≤sizeLine∧∃(its:List Value) (n:Nat),Vals xs its∧xs.length=its.length∧s.heap.get? l=some {cls:= .type "list",data:= .seq its.toArray n}:=by
 obtain⟨z,its,n,r,e⟩:=I.hok l _ hH
 exact⟨z,its,n,r,r.length,e⟩
theorem y2C {n:Nat} (h:n≤sizeLine):Builtin.List.listTooLong n=false:=by
 unfold Builtin.List.listTooLong
 exact decide_eq_false (by lia)
end
section
variable {X:Cx}
def y4p:V→List V→Hp→VK→Prop:=fun x vs H Q=>∃l xs y,x= .ref l∧vs=[y]∧H l=some (.lst xs)∧xs.length<sizeLine∧Q .non (upd H l (.lst (xs++[y])))
theorem z1K:MtM X "list.append" y4p:=by
 intro pins s σ H x vs v us Q I rx rv h
 obtain⟨l,xs,y,rfl,rfl,hH,hz,q⟩:=h
 cases rx
 obtain⟨u,rfl,ru⟩:=rv.one
 obtain⟨z,its,n,r,hl,e⟩:=I.lstM hH
 refine call_meets F.slot_list_append ⟨_,e,rfl⟩ F.entry_list_append (F.args_list_append_2 _ _) (PySem.list_append l its.toArray n u (by rw[q0h];lia)) ⟨e,?_⟩
 refine⟨.non,_,I.lset (its':=its++[u]) hH e (by simp) (r.append (.cons ru .nil)) ?_,rfl,q⟩
 rw[q0m,q1m]
 lia
def y5p:V→List V→Hp→VK→Prop:=fun x vs H Q=>∃l xs,x= .ref l∧vs=[]∧H l=some (.lst xs)∧Q .non (upd H l (.lst []))
theorem y2E:MtM X "list.clear" y5p:=by
 intro pins s σ H x vs v us Q I rx rv h
 obtain⟨l,xs,rfl,rfl,hH,q⟩:=h
 cases rx
 have hus:=rv.zero
 subst hus
 obtain⟨z,its,n,r,hl,e⟩:=I.lstM hH
 refine call_meets F.slot_list_clear ⟨_,e,rfl⟩ F.entry_list_clear (F.args_list_clear_1 _) (AutoSeq1.list_clear_list_0 l its.toArray n (by rw[q0h];lia)) ⟨e,?_⟩
 exact⟨.non,_,I.lset (its':=[]) (ys:=[]) hH e rfl .nil (q0S _),rfl,q⟩
def rCat:R2:=fun x y H Q=>∃l b xs zs,x= .ref l∧y= .ref b∧H l=some (.lst xs)∧H b=some (.lst zs)∧xs.length+zs.length≤sizeLine∧∀p,H p=none→Q (.ref p) (upd H p (.lst (xs++zs)))
theorem z4y:OpR X (binaryOp .Add) rCat:=by
 intro pins s σ H x y v u Q I rx ry h
 obtain⟨l,b,xs,zs,rfl,rfl,hH,hB,hz,q⟩:=h
 cases rx
 cases ry
 obtain⟨z,its,n,r,hl,e⟩:=I.lstM hH
 obtain⟨z2,its2,n2,r2,hl2,e2⟩:=I.lstM hB
 refine PySem.P.add_list e e2 ?_ (by rw[q0h,q0h];lia)
 have ea:its.toArray++its2.toArray=(its++its2).toArray :=by simp
 rw[ea]
 exact⟨.ref _,_,I.lnew (t':=s.toks) (r.append r2) (by rw[q0m];lia),rfl,q _ I.fresh⟩
def rRep:R2:=fun x y H Q=>∃l k xs,x= .ref l∧y= .int k∧H l=some (.lst xs)∧ -(2^63)≤k∧k<2^63∧xs.length*k.toNat≤sizeLine∧
 ∀p,H p=none→Q (.ref p) (upd H p (.lst (List.replicate k.toNat xs).flatten))
theorem y4I {α:Type} (xs:List α) (k:Nat):(List.replicate k xs).flatten.length =k*xs.length:=by
 induction k with
 |zero=>simp
 |succ k ih=>rw[List.replicate_succ,List.flatten_cons,List.length_append,ih,Nat.succ_mul,Nat.add_comm]
theorem z8g:OpR X (binaryOp .Mult) rRep:=by
 intro pins s σ H x y v u Q I rx ry h
 obtain⟨l,k,xs,rfl,rfl,hH,h1,h2,hz,q⟩:=h
 cases rx
 obtain⟨t,rfl⟩:=ry
 obtain⟨z,its,n,r,hl,e⟩:=I.lstM hH
 have hlen:its.toArray.size*k.toNat≤sizeLine:=by rw[q0h,←hl];exact hz
 have hcap:¬its.toArray.size*k.toNat>(2^63 - 1)/8:=by
  have:(sizeLine:Nat)≤(2^63 - 1)/8:=by decide
  lia
 have hfit:¬(!Builtin.List.listFitsIndex k)=true:=by
  rw[fitsIndex_both h1 h2]
  exact q0B
 have hlong:¬Builtin.List.listTooLong (its.toArray.size*k.toNat)=true:=by
  rw[y2C hlen]
  exact q0B
 have hnew:List.foldl (fun x1 x2=>x1++x2) #[] (List.replicate (if its.toArray.isEmpty=true then 0 else k.toNat) its.toArray)=(List.replicate k.toNat its).flatten.toArray :=by
  have f0:∀m:Nat,List.foldl (fun x1 x2=>x1++x2) #[] (List.replicate m its.toArray)=(List.replicate m its).flatten.toArray :=fun m=>by
   have:=z6K its m []
   rw[List.nil_append] at this
   exact this
  rw[f0]
  cases its with
  |nil=>simp
  |cons a r'=>rw[if_neg (by simp)]
 refine wpAny_binaryOp_repeat_ref (T:="list") (U:="int") (by decide) ⟨_,e,rfl⟩ (fun s'=>typeIs_int s' k t) noFill_list_mul F.fills_int_mul F.slot_int_rmul repeat_list F.slot_int_index.lookup
  (call_meets F.slot_int_rmul (typeIs_int s k t) F.entry_int_rmul (F.args_int_rmul_2 _ _) (int___rmul___int_list k t l its.toArray n)
   ⟨e,rfl,⟨_,e,rfl⟩,call_meets F.slot_list_mul ⟨_,e,rfl⟩ F.entry_list_mul (F.args_list_mul_2 _ _) (AutoListH.list___mul___list_int_3 l its.toArray n k t hfit hcap hlong) ⟨e,?_⟩⟩)
 rw[hnew]
 exact⟨.ref _,_,I.lnew (t':=s.toks) (r.rep k.toNat) (by rw[y4I,Nat.mul_comm];exact hz),rfl,q _ I.fresh⟩
end
section
variable {prog:Program}{w:World}{A:Around}{E:Value→Shared→Prop}{s:Shared}
end
section
variable {X:Cx}
end
end L2
namespace Att
open PySem PySem.W PySem.Calls PyProof.Rows
theorem z4D {P:Params}{h:Heap}:∀(ns:List Int) (vs:List Value),WellAll P h vs (ns.map WData.int)→IntsAre vs ns:=by
 intro ns
 induction ns with
 |nil=>
  intro vs w
  rw[List.map_nil] at w
  cases w
  exact .nil
 |cons n ns ih=>
  intro vs w
  rw[q0t] at w
  cases w with
  |cons a b=>
   cases a
   exact .cons _ _ (ih _ b)
theorem z9Z {l:OpenLaw}{n:Nat} (hn:l.most=some n) {P:Params}{h:Heap}{args:List WData}{vals:List Value}
 (hpre:l.row.toRowW.claim.pre args=true) (hwl:WellAll P h vals args):
 ∃a vs ns,vals=[Value.ref a]∧args=[WData.list (ns.map WData.int)]∧h.get? a=some {cls:= .type "list",data:= .seq vs.toArray}∧IntsAre vs ns∧ns.length≤n:=by
 have hsh:WShape.hasAll [] args [.list .int]=true:=(pre_splitW hpre).1
 have hc:l.pre.holds [] {args:=args}=true:=(pre_splitW hpre).2
 obtain⟨d,r,rfl,h1,h2⟩:=hasAllW_cons hsh
 obtain rfl:=hasAllW_nil h2
 obtain⟨xs,rfl,h3⟩:=hasW_list h1
 obtain⟨ns,rfl⟩:=items_int h3
 have hlen:ns.length≤n:=by
  unfold OpenLaw.pre at hc
  have h4:(WTm.not (.lt (.lit (.int (n:Int))) (.len (.arg 0)))).holds [] {args:=[.list (ns.map .int)]}=true:=by
   have h4:=(holds_andW hc).1
   rw[hn] at h4
   exact h4
  have h5:=condW_of h4 (w_not (w_lt w_lit (w_len_list (w_arg rfl))))
  rw[q0b] at h5
  refine Nat.le_of_not_lt fun q=>?_
  have q':(n:Int)<((ns.length:Nat):Int):=by lia
  first
   |(rw[decide_eq_true q'] at h5;exact absurd h5 (by decide))
   |(simp at h5;lia)
 cases hwl with
 |cons w1 w2=>
  cases w2
  cases w1 with
  |list ho hall=>exact⟨_,_,ns,rfl,rfl,ho,z4D ns _ hall,hlen⟩
theorem y0l (l:OpenLaw) (args:List WData):l.row.toRowW.claim.post args (.bool true) args=true:=
 postW_of (r:=l.row.toRowW) (X:=(true==true))
  (show WShape.has [] (.bool true) .bool =true by first|rfl|decide|simp[WShape.has,WShape.arms,WShape.armsAll])
  (show (WTm.eq .res (.lit (.bool true))).value [] {args:=args,res:=some (.bool true),after:=args}=some (.bool (true==true)) from w_eq_bool (w_res rfl) w_lit) rfl
theorem attach_call {l:OpenLaw}{n:Nat}{q:Program}{loose:List Str}{XP:(Str→Option Value)→Heap→Prop}{YP:World→Heap→Prop}{d:DefRec}
 (hn:l.most=some n) (hdf:d.params.defaults=[])
 (call:∀(w:World) (s₀ s₁:Shared) (mg mb:Str→Option Value) (fa:Addr) (o:Obj) (pm cd doc:Value) (a:Addr) (vs:List Value) (ns:List Int),
  Ground q loose [] XP w s₀ mg mb s₁.heap→YP w s₁.heap→
  s₁.heap.get? fa=some o→o.data= .func (docDef d.name d.params d.body d.scope pm cd doc)→s₁.heap.CodeRec cd d.name→mg d.name=some (.ref fa)→
  s₁.heap.get? a=some {cls:= .type "list",data:= .seq vs.toArray}→IntsAre vs ns→ns.length≤n→s₁.gens= #[]→
  codeAny (model l.prog w) callerA (.call (.ref fa) ⟨[.ref a],[]⟩) (fun r s'=>r= .ok (.ret (.bool true))∧OldK s₁.heap s'.heap∧s'.os=s₁.os∧AllBare s'.gens) s₁):
 WalkO q loose XP YP l.row.toRowW d [] (fun f vs=>PySem.call f vs):=by
 intro w s₀ s₁ mg mb G Y fa o pm cd doc dV kV ho hd hcd hD hmg hg args vals as hpre hlay hrd hwl hlo
 obtain rfl:dV= .none :=Dflts.none hD hdf
 obtain rfl:kV= .none :=Dflts.noKw hD
 obtain⟨a,vs,ns,rfl,rfl,hobj,hints,hlen⟩:=z9Z hn hpre hwl
 refine enter_call (codeAny_mono (call w s₀ s₁ mg mb fa o pm cd doc a vs ns G Y ho (fd_plain hd) hcd hmg hobj hints hlen hg) fun r s' hq=>?_)
 obtain⟨rfl,h2,h3,h4⟩:=hq
 exact⟨.inl ⟨.bool true,.bool true,[],rfl,fun _=>rfl,.bool true,y0l l _,fun _=>⟨List.Pairwise.nil,fun _ hm=>(nomatch hm)⟩⟩,h2,h3,h4⟩
section
variable {prog:Program}{w:World}{A:Around}{E:Value→Shared→Prop}{s:Shared}{K:Frag}
end
end Att
namespace L2
open PySem PySem.Spec PyProof.Rows
theorem z6c:∀{vs:List Value}{ns:List Int},IntsAre vs ns→Vals (ns.map V.int) vs
 |_,_,.nil => .nil
 |_,_,.cons n t h=> .cons ⟨t,rfl⟩ (z6c h)
def Only (H:Hp):Prop:=∀b,H b=none∨∃o xs,H b=some (.frz o (.lst xs))
theorem y2L {P:Program}{w:World}{K:PySem.W.Frag}{mg mb:Str→Option Value}{CX:CXT}{k:Nat}{fa a:Addr}{fd:FuncData}{x:Str}{sp:Sp}{s₁:Shared}{vs:List Value}{ns:List Int}
 (KX:K.In s₁.heap) (hns:s₁.heap.Ns mainGlobals mg) (hb:s₁.heap.Ns builtinsNs mb) (hbb:∀x:Str,x≠"__name__"→mb x=bootBuiltins x) (hlim:s₁.heap.NoLimit) (hg:s₁.gens= #[])
 (ha:s₁.heap.get? a=some {cls:= .type "list",data:= .seq vs.toArray}) (hi:IntsAre vs ns) (hl:ns.length≤sizeLine) (hr:Room k callerA)
 (F:∀base:Heap,K.In base→base.Ns mainGlobals mg→FnOk P w K mg base CX k fa fd [x] sp) (hbind:∀(s:Shared) (u:Value),BindsTo s fd ⟨[u],[]⟩ [(x,u)])
 (hsp:∀H:Hp,Only H→SqL K H a (ns.map V.int)→sp [.ref a] H (fun v _=>v= .bl true) fun _ _ _=>False)
 (hCX:∀H e s',CX [] H s₁ (fun _ _ _=>False) e s'→False):
 codeAny (model P w) callerA (.call (.ref fa) ⟨[.ref a],[]⟩) (fun r s'=>r= .ok (.ret (.bool true))∧OldK s₁.heap s'.heap∧s'.os=s₁.os∧AllBare s'.gens) s₁:=by
 have rv:=z6c hi
 have lenV:=hi.length
 have core:∀H:Hp,Only H→SqL K H a (ns.map V.int)→HOk P w H s₁.heap→(∀b,H b≠none→b=a)→(H a≠none→K.lookup a=none)→
  codeAny (model P w) callerA (.call (.ref fa) ⟨[.ref a],[]⟩) (fun r s'=>r= .ok (.ret (.bool true))∧OldK s₁.heap s'.heap∧s'.os=s₁.os∧AllBare s'.gens) s₁:=by
  intro H hO hS hok hA hK
  have base_of:∀{b:Addr}{o:Obj},s₁.heap.get? b=some o→H b=none→(y2Q s₁.heap H).get? b=some o:=fun e n=>y2P e n
  have noA:∀{b:Addr}{o:Obj}{es:Array DictEntry}{ep:Nat},s₁.heap.get? b=some o→o.data= .dict es ep→H b=none:=fun {b o es ep} e d=>by
   cases q:H b with
   |none=>rfl
   |some u=>
    have e':b=a:=hA b (by rw[q];simp)
    subst e'
    rw[ha] at e;cases e
    have d':Data.seq vs.toArray _=Data.dict es ep:=d
    cases d'
  have nsK:∀{b:Addr}{m:Str→Option Value},s₁.heap.Ns b m→(y2Q s₁.heap H).Ns b m:=fun {b m} ⟨o,es,ep,e,d,r⟩=>⟨o,es,ep,base_of e (noA e d),d,r⟩
  have hKb:K.In (y2Q s₁.heap H):=fun b o e=>base_of (KX b o e) (by
   cases q:H b with
   |none=>rfl
   |some u=>
    have e':b=a:=hA b (by rw[q];simp)
    subst e'
    rw[hK (by rw[q];simp)] at e;cases e)
  have hM:Mod K mg (y2Q s₁.heap H):=⟨hKb,nsK hns,⟨mb,nsK hb,hbb⟩,let ⟨mc,h1,h2⟩:=hlim;⟨mc,nsK h1,h2⟩⟩
  have e0:Env0 P w K mg (y2Q s₁.heap H) callerA [] s₁ H:=⟨rfl,hM,fun b o e=>y4C e,Nat.le_of_eq (y1d _ _),trivial,fun b hb=>absurd (show b∈([]:List Addr) from hb) (by simp),hok,.of_eq hg⟩
  refine codeAny_mono ((F _ hKb (nsK hns)).run callerA [] s₁ H ⟨[.ref a],[]⟩ [.ref a] [.ref a] _ _ hr e0 (hbind s₁ (.ref a)) (.cons rfl .nil) (hsp H hO hS)) fun r s' h=>?_
  cases r with
  |error e=>exact (hCX H e s' h).elim
  |ok fl=>
   cases fl with
   |next=>exact False.elim h
   |brk=>exact False.elim h
   |cont=>exact False.elim h
   |ret u=>
    obtain⟨v,H',os,bare,un,hok',r',q⟩:=h
    have q':v= .bl true:=q
    subst q'
    obtain rfl:u=Value.bool true:=r'
    refine⟨rfl,OldK.of_keep fun b o e=>?_,os,bare⟩
    cases q:H b with
    |none=>exact un.keep b o e q (by intro z;exact absurd (show b∈([]:List Addr) from z) (by simp)) (by simp)
    |some u=>
     rcases hO b with z|⟨ob,xs,z⟩
     ·rw[q] at z;cases z
     ·have z2:=un.frzs b ob _ z
      obtain⟨e1,_⟩:=hok b _ z
      obtain⟨e2,_⟩:=hok' b _ z2
      rw[e] at e1;cases e1
      exact e2
 cases hk:K.lookup a with
 |some o=>
  have e:=KX a o hk
  rw[ha] at e
  cases e
  refine core (fun _=>none) (fun _=> .inl rfl) (.inr ⟨_,vs.toArray,_,hk,rfl,rfl,rfl,by rw[q0h,lenV];exact hl,by simpa using rv⟩) (fun b u z=>by have z':(none:Option HO)=some u:=z;cases z') (fun b z=>absurd rfl z) fun z=>absurd rfl z
 |none=>
  refine core (fun b=>if b=a then some (.frz {cls:= .type "list",data:= .seq vs.toArray} (.lst (ns.map V.int))) else none) (fun b=>?_) (.inl (.inr ⟨{cls:= .type "list",data:= .seq vs.toArray},if_pos rfl⟩)) (fun b u z=>?_) (fun b z=>?_) fun _=>hk
  ·by_cases hb:b=a
   ·exact .inr ⟨_,_,if_pos hb⟩
   ·exact .inl (if_neg hb)
  ·by_cases hb:b=a
   ·have z':=(if_pos hb).symm.trans z
    cases z'
    subst hb
    exact⟨ha,by rw[q0b];exact hl,vs,_,rv,ha⟩
   ·have z':=(if_neg hb).symm.trans z
    cases z'
  ·by_cases hb:b=a
   ·exact hb
   ·exact absurd (if_neg hb) z
end L2
namespace L2
open PySem PySem.Spec PyProof.Rows
theorem walk_of {l:PySem.W.OpenLaw}{n k:Nat}{q:Program}{loose:List Str}{XP:(Str→Option Value)→Heap→Prop}{YP:World→Heap→Prop}{d:DefRec}{K:Params→PySem.W.Frag}{CX:World→CXT}{sp:World→Sp}{x:Str}
 (hn:l.most=some n) (hn2:n≤sizeLine) (hdf:d.params.defaults=[]) (hr:Room k callerA)
 (hY:∀(w:World) (h:Heap),YP w h→(K w.params).In h)
 (F:∀(w:World) (mg:Str→Option Value) (fa:Addr) (h:Heap),(K w.params).In h→h.Ns mainGlobals mg→mg d.name=some (.ref fa)→
  ∃fd:FuncData,(∀(s:Shared) (u:Value),BindsTo s fd ⟨[u],[]⟩ [(x,u)])∧
   ∀base:Heap,(K w.params).In base→base.Ns mainGlobals mg→FnOk l.prog w (K w.params) mg base (CX w) k fa fd [x] (sp w))
 (hsp:∀(w:World) (H:Hp) (a:Addr) (ns:List Int),ns.length≤n→Only H→SqL (K w.params) H a (ns.map V.int)→sp w [.ref a] H (fun v _=>v= .bl true) fun _ _ _=>False)
 (hCX:∀(w:World) (H:Hp) (s:Shared) (e:Value) (s':Shared),CX w [] H s (fun _ _ _=>False) e s'→False):
 PySem.W.WalkO q loose XP YP l.row.toRowW d [] (fun f vs=>PySem.call f vs):=by
 refine Att.attach_call hn hdf fun w s₀ s₁ mg mb fa o pm cd doc a vs ns G Y ho hd hcd hmg hobj hints hlen hg=>?_
 have KX:=hY w _ Y
 obtain⟨fd,hb,hF⟩:=F w mg fa _ KX G.T.g hmg
 exact y2L KX G.T.g G.T.b G.T.builtins G.T.nolimit hg hobj hints (q0o hlen hn2) hr hF hb (fun H hO hS=>hsp w H a ns hlen hO hS) fun H e s'=>hCX w H s₁ e s'
end L2
namespace L2
open PySem PySem.Spec PyProof.Rows
def z0w (s:Stmt):Arguments:=match s with
 | .FunctionDef _ a _ _ _ _ _ _ _ _=>a
 |_=>{posonlyargs:=[],args:=[],vararg:=none,kwonlyargs:=[],kw_defaults:=[],kwarg:=none,defaults:=[]}
def z0t (s:Stmt):List Stmt:=match s with
 | .FunctionDef _ _ b _ _ _ _ _ _ _=>b
 |_=>[]
def z0g (s:Stmt):Scope:=match s with
 | .FunctionDef _ _ _ _ _ _ sc _ _ _=>sc
 |_=>{kind:= .function,names:=[],isGenerator:=false,isCoroutine:=false}
abbrev CX0:CXT:=fun _ _ _ _ _ _=>False
abbrev E0:XK:=fun _ _ _=>False
theorem pass0 {X:Cx}:y1P CX0 X E0:=fun _ _ _ _ _ _ _ h=>h.elim
structure Fun (K:PySem.W.Frag) (x qual:Str) (st:Stmt) (f:Addr) (fd:FuncData):Prop where
 ex:∃(oc:Value) (od:Option Addr) (kV doc pm:Value) (an:Option Addr) (cdv ct:Value) (osl:Array (Option Value)),
  fd=PySem.W.fnOf x qual (z0w st) (z0t st) (z0g st) .none kV doc pm an cdv ct∧K.lookup f=some ⟨oc,od,.func fd,osl⟩∧PySem.W.codeIn K cdv qual=true
 kp:PySem.W.keepIn K (.ref f)=true
section
variable {P:Program}{w:World}{K:PySem.W.Frag}{mg:Str→Option Value}{base:Heap}
theorem Fun.ok {x qual:Str}{st:Stmt}{f:Addr}{fd:FuncData}{N ps:List Str}{k:Nat}{sp:Sp} (F:Fun K x qual st f fd) (S:z0z N ps (z0g st)) (len:∀vs H Q E,sp vs H Q E→vs.length=ps.length)
 (hbody:∀(cdv:Value) (A:Around) (outer:List Env) (s:Shared) (H:Hp) (vs:List V) (Q:VK) (E:XK),Room k (A.deeper (envOfC qual (z0g st) s.heap.objs.size f cdv))→sp vs H Q E→
  ∃t,PSs (y5a CX0 P w K mg base N qual (z0g st) f cdv A outer s H E).nox (z0t st) t∧t {nx:=fun _ H'=>Q .non H',rt:=Q} (start N vs) H):FnOk P w K mg base CX0 (k+1) f fd ps sp:=by
 obtain⟨oc,od,kV,doc,pm,an,cdv,ct,osl,rfl,lk,hcd⟩:=F.ex
 refine fn_of lk hcd S len fun A outer s H vs Q E hr hsp=>?_
 obtain⟨t,h,q⟩:=hbody cdv A outer s H vs Q E hr hsp
 exact⟨t,h.nox,q⟩
theorem Fun.binds {x qual:Str}{st:Stmt}{f:Addr}{fd:FuncData}{ps:List Str} (F:Fun K x qual st f fd)
 (h:∀(kV doc pm:Value) (an:Option Addr) (cdv ct:Value) (us:List Value),us.length=ps.length→bindArgs (PySem.W.fnOf x qual (z0w st) (z0t st) (z0g st) .none kV doc pm an cdv ct) ⟨us,[]⟩=pure (ps.zip us)):Binds K fd ps []:=by
 obtain⟨oc,od,kV,doc,pm,an,cdv,ct,osl,rfl,lk,hcd⟩:=F.ex
 exact .all (h kV doc pm an cdv ct)
theorem z0J {x qual:Str}{st:Stmt}{f:Addr}{oc:Value}{od an:Option Addr}{osl:Array (Option Value)}{kV doc pm cdv ct:Value} (l:K.lookup f=some ⟨oc,od,.func (PySem.W.fnOf x qual (z0w st) (z0t st) (z0g st) .none kV doc pm an cdv ct),osl⟩)
 (c:PySem.W.codeIn K cdv qual=true) (k:PySem.W.keepIn K (.ref f)=true):Fun K x qual st f (PySem.W.fnOf x qual (z0w st) (z0t st) (z0g st) .none kV doc pm an cdv ct):=⟨⟨oc,od,kV,doc,pm,an,cdv,ct,osl,rfl,l,c⟩,k⟩
end
section
variable {X:Cx}
theorem pv (i:Nat) {x:Str}{pos:Pos} (hN:X.N[i]? =some x:=by rfl) (hv:Vis X.env.scope x:=by first|exact Or.inl rfl|exact Or.inr (Or.inl rfl)|exact Or.inr (Or.inr rfl)) (hd:(x==("__debug__":Str))=false:=by decide)
 (hcd:(x==("__classdict__":Str))=false:=by decide):PE X (.Name x pos) (tVar i):=y5x hN hv hd hcd
end
theorem z3r {A B:Prop} (h:B):if false=true then A else B:=by
 rw[if_neg q0B]
 exact h
theorem z7x {A B:Prop} (h:A):if true=true then A else B:=by
 rw[if_pos rfl]
 exact h
theorem z5g {c A B:Prop} [Decidable c] (h1:c→A) (h2:¬c→B):if c then A else B:=by
 by_cases h:c
 ·rw[if_pos h]
  exact h1 h
 ·rw[if_neg h]
  exact h2 h
theorem z7y {c A B:Prop} [Decidable c] (hc:c) (h:B):if (!decide c)=true then A else B:=by
 rw[decide_eq_true hc]
 exact z3r h
def Same (H H':Hp):Prop:=∀b o,H b=some o→H' b=some o
theorem Same.refl (H:Hp):Same H H:=fun _ _ h=>h
theorem Same.trans {H H1 H2:Hp} (a:Same H H1) (b:Same H1 H2):Same H H2:=fun c o h=>b c o (a c o h)
theorem Same.free {H H':Hp} (e:Same H H') {l:Addr} (h:H' l=Option.none):H l=Option.none:=by
 cases q:H l with
 |none=>rfl
 |some o=>
  rw[e l o q] at h
  cases h
end L2
namespace L2
open PySem PySem.Spec PyProof.Rows
section
variable {X:Cx}{pins:List (Addr×Obj)}{σ:St}{H:Hp}{s:Shared}{h':Heap}
theorem Inv.turnedLaid {fp:List Addr}{a:Addr}{o:HO}{t':Nat} (I:Inv X pins σ H s) (hf:∀b∈fp,y1Q X pins H b) (k:∀b ob,b∉fp→s.heap.get? b=some ob→h'.get? b=some ob)
 (hp:s.heap.objs.size≤a) (new:ObjOk X.prog X.w (upd H a o) h' a o):Inv X pins σ (upd H a o) {s with heap:=h',toks:=t'}:=by
 have hn:H a=none:=I.hok.fresh hp
 have nit:∀b u,H b=some u→b∉fp:=fun b u e z=>by rw[(hf b z).1] at e;cases e
 refine I.step (g':=s.gens) (d':=s.drawn) (ch:=fp) (fun b hb=>?_) (fun b ob _ _ hc e _=>k b ob hc e) (fun b ob _ _ hc e _=>⟨ob.slots,k b ob hc e⟩) (fun b ob hc e n=>?_)
  (fun b ob hc e=>⟨ob,k b ob hc e⟩) (fun b xs q=>by rw[z0m (z0i q hn)];exact q) (fun b u xs q=>by rw[z0m (z0i q hn)];exact q)
  (fun b ps q=>⟨#[],by rw[z0m (z0i q hn),q];simp⟩) (fun m hm=>?_) (fun b u e=>?_) I.bare
 ·obtain⟨f0,f1,f2,f3,f4,f5⟩:=hf b hb
  exact⟨f3,f1,f4,f5⟩
 ·rw[z0m (q0r (q0K (q0p e) hp))];exact n
 ·obtain⟨ob,es,ep,ho,r⟩:=hm
  exact⟨ob,es,ep,k _ ob (fun z=>(hf _ z).2.1 rfl) ho,r⟩
 ·by_cases hb:b=a
  ·subst hb;rw[z0c] at e;cases e;exact new
  ·rw[z0m hb] at e
   refine (I.hok b u e).stay (fun c v hc q=>k c v ?_ q) (fun c q=>by rw[z0m (z0i q hn)];exact q) fun c xs q=>by rw[z0m (z0i q hn)];exact q
   rcases hc with z|z
   ·rw[z];exact nit b u e
   ·exact nit c _ z
theorem Inv.turnedAll {fp:List Addr}{t':Nat} (I:Inv X pins σ H s) (hf:∀b∈fp,y1Q X pins H b) (k:∀b ob,b∉fp→s.heap.get? b=some ob→h'.get? b=some ob):Inv X pins σ H {s with heap:=h',toks:=t'}:=by
 have nit:∀b u,H b=some u→b∉fp:=fun b u e z=>by rw[(hf b z).1] at e;cases e
 refine I.step (g':=s.gens) (d':=s.drawn) (ch:=fp) (fun b hb=>?_) (fun b ob _ _ hc e _=>k b ob hc e) (fun b ob _ _ hc e _=>⟨ob.slots,k b ob hc e⟩) (fun b ob hc e n=>n)
  (fun b ob hc e=>⟨ob,k b ob hc e⟩) (fun b xs q=>q) (fun b u xs q=>q) (fun b ps q=>⟨#[],by rw[q];simp⟩) (fun m hm=>?_) (fun b u e=>?_) I.bare
 ·obtain⟨f0,f1,f2,f3,f4,f5⟩:=hf b hb
  exact⟨f3,f1,f4,f5⟩
 ·obtain⟨ob,es,ep,ho,r⟩:=hm
  exact⟨ob,es,ep,k _ ob (fun z=>(hf _ z).2.1 rfl) ho,r⟩
 ·refine (I.hok b u e).stay (fun c v hc q=>k c v ?_ q) (fun c q=>q) fun c xs q=>q
  rcases hc with z|z
  ·rw[z];exact nit b u e
  ·exact nit c _ z
end
def Ite (K:PySem.W.Frag) (a:Addr):It:=
 ⟨fun i H=>∃xs x,SqL K H a xs∧xs[i]? =some x,
  fun i H x H'=>∃p v,x= .ref p∧H p=none∧(∀xs,SqL K H a xs→xs[i]? =some v)∧H'=upd H p (.tup [.int i,v]),
  fun i H=>∃xs,SqL K H a xs∧xs.length≤i⟩
theorem z9J {P:Program}{w:World}{K:PySem.W.Frag}{elts:List Expr}{k:Nat}{pos:Pos} (a e it:Addr) (hne:e≠it):
 y3T P w K (.Tuple elts k pos) (Ite K a) [e,it] e (fun i h=>(∃old,IsEnum h e it ((i:Nat):Int) old)∧h.IsListIter it a i) where
 mem:=by simp
 obj:=fun i h st b hb=>by
  obtain⟨⟨old,st1⟩,st2⟩:=st
  rcases q0l.mp hb with rfl|hb
  ·exact⟨_,st1,fun v z=>by
        have z':Data.fields _=Data.cell v:=z
        cases z'⟩
  ·have e':=q0g.mp hb
   subst e'
   obtain⟨o,q,c,d⟩:=st2
   exact⟨o,q,fun v z=>by rw[d] at z;cases z⟩
 keep:=fun i h h' st k=>⟨let ⟨old,q⟩:=st.1;⟨old,k e (by simp) _ q⟩,st.2.at fun o q=>k it (by simp) o q⟩
 item:=by
  intro X hP hw hK hc i pins s σ H E I hf st hg
  subst hP hw hK
  obtain⟨xs,x,hq,hx⟩:=hg
  obtain⟨its,rv,p,hz⟩:=I.list hq
  obtain⟨u,hu,ru⟩:=rv.get hx
  obtain⟨⟨old,st1⟩,st2⟩:=st
  have he:=hf e (by simp)
  have hi:=hf it (by simp)
  have hlt:e<s.heap.objs.size:=q0p st1
  have hlt2:it<s.heap.objs.size:=by obtain⟨o,q,_⟩:=st2;exact q0p q
  refine wpAny_pyNext_enum_item st1 st2 p.isList (x:=u) (by simpa using hu) hne fun h' ho' st' hT hsz kk=>?_
  refine⟨_,rfl,wpAny_letOwnedTupleGo_enum ho' fun h2 he2 hs2=>?_⟩
  have hT2:h2.get? s.heap.objs.size=some {cls:= .type "tuple",data:= .seq #[.int i s.toks,u]}:=hs2.extBut _ _ (Nat.ne_of_gt hlt) hT
  have I1:Inv X pins σ (upd H s.heap.objs.size (.tup [.int i,x])) {s with heap:=h2,toks:=s.toks+1}:=by
   refine I.turnedLaid (fp:=[e,it]) hf (fun b ob hb q=>?_) (q0e _) ?_
   ·have hb1:b≠e:=fun z=>hb (by simp[z])
    have hb2:b≠it:=fun z=>hb (by simp[z])
    exact hs2.extBut b ob hb1 (kk b ob hb1 hb2 q)
   ·exact⟨by show 2≤sizeLine;decide,[.int i s.toks,u],.cons ⟨_,rfl⟩ (.cons ru .nil),_,hT2,rfl,_,rfl⟩
  refine⟨.ref s.heap.objs.size,_,I1,rfl,⟨_,x,rfl,I.hok.fresh (q0e _),fun ys hy=>by rw[I.list_inj hy hq];exact hx,rfl⟩,⟨⟨_,by simpa using he2⟩,?_⟩,fun b hb=>?_⟩
  ·exact st'.at fun o q=>hs2.extBut it o (Ne.symm hne) q
  ·rcases q0l.mp hb with rfl|hb
   ·rw[z0m (q0r hlt)];exact he.1
   ·have e':=q0g.mp hb
    subst e'
    rw[z0m (q0r hlt2)];exact hi.1
 done:=by
  intro X hP hw hK hc i pins s σ H E I hf st hg
  subst hP hw hK
  obtain⟨xs,hq,hx⟩:=hg
  obtain⟨its,rv,p,hz⟩:=I.list hq
  obtain⟨⟨old,st1⟩,st2⟩:=st
  have hl:=rv.length
  refine wpAny_pyNext_enum_end (I.ok.hd hc) st1 st2 p.isList (by simp;lia) fun h' eb=>⟨rfl,?_⟩
  exact I.turnedAll (t':=s.toks) (fp:=[e,it]) hf fun b ob hb q=>eb b ob (fun z=>hb (by simp[z])) q
 self:=fun _ _ _ _ _ st h=>let ⟨_,q⟩:=st.1;wpAny_pyIter_enum q h
section
variable {X:Cx}
def iEnum (tl:TA):TI:=fun σ H R=>tl σ H fun vs H1=>∃a xs,vs=[.ref a]∧H1 a=some (.lst xs)∧R (Ite X.K a) H1
theorem y4s {elts:List Expr}{k:Nat}{tpos:Pos}{l:Expr}{tl:TA}{p pos:Pos} (hg:Gl X "enumerate") (hm:X.mg "enumerate"=none) (ha:PA X [l] tl) (hs:starEach [l] X.env=[(false,eval l X.env)]:=by rfl):
 PI X (.Tuple elts k tpos) (.Call (.Name "enumerate" p) [l] [] pos) (iEnum (X:=X) tl):=by
 intro pins s σ H R I h
 refine Call_ (z3P I hg hm boot_enumerate (PyProof.Rows.callWith_type1 (thn (ha pos pins s σ H _ I h) fun us s1 ⟨vs,H1,I1,r1,q1⟩=>?_) hs rfl))
 obtain⟨a,xs,e,hq,q⟩:=q1
 subst e
 cases r1 with
 |cons r rr=>
  cases rr
  cases r
  obtain⟨hz,its,n,rv,hlen,ho⟩:=I1.lstM hq
  refine call_enumerate_1 ho fun h' he hit hsz kk=>wpAny_pyIter_enum he ?_
  have I2:Inv X pins σ H1 {s1 with heap:=h'}:=I1.kept (t':=s1.toks) kk
  refine⟨_,[s1.heap.objs.size+1,s1.heap.objs.size],_,_,H1,rfl,I2,z9J a _ _ (Nat.succ_ne_self _),⟨⟨_,he⟩,hit⟩,fun b hb=>?_,q⟩
  have fr:∀c,s1.heap.objs.size≤c→H1 c=none:=fun c hc=>I1.hok.fresh hc
  rcases q0l.mp hb with rfl|hb
  ·exact I1.fpOk (Nat.le_succ _) (fr _ (Nat.le_succ _))
  ·have e':=q0g.mp hb
   subst e'
   exact I1.fpOk (q0e _) (fr _ (q0e _))
end
end L2
namespace L2
open PySem PySem.Spec PyProof.Rows
open Builtin.Int (intBits)
section
variable {X:Cx}{a b c:Expr}{ta tb tc:TE}{pos:Pos}
theorem z0L:OpR X (binaryOp .Mult) (rI IntMulOk fun i j=> .int (i*j)):=opI fun _ _ _ _ _ _ _ hc q=>mul_int q hc
def CFd (_ j:Int):Prop:=j≠0∧intBits j≤9000
theorem noPy {i j:Int} (h:CFd i j):Builtin.divisionGoesByPylong i j=false:=by
 refine PyProof.noPylong_of_log2 ?_
 have h1:=intBits_le_iff.mp h.2
 have h0:j.natAbs≠0:=by have:=h.1;lia
 exact (Nat.log2_lt h0).mpr h1
theorem z4w:OpR X (binaryOp .FloorDiv) (rI CFd fun i j=> .int (i.fdiv j)):=opI fun _ _ _ _ _ _ _ hc q=>floordiv_int hc.1 q (.inl (noPy hc))
def CFp (_ j:Int):Prop:=0<j∧intBits j≤9000
theorem z5D:OpR X (binaryOp .FloorDiv) (rI CFp fun i j=> .int (i/j)):=opI fun i j _ _ _ _ _ hc q=>by
 have h0:j≠0:=by have:=hc.1;lia
 refine floordiv_int h0 ?_ (.inl (noPy ⟨h0,hc.2⟩))
 rw[Int.fdiv_eq_ediv_of_nonneg i (q1v hc.1)]
 exact q
def CMod (_ j:Int):Prop:=0<j
theorem z0V:OpR X (binaryOp .Mod) (rI CMod fun i j=> .int (i%j)):=y5F
theorem cm {i j:Int} (h:decide (0<j)=true:=by rfl):CMod i j:=(show 0<j from of_decide_eq_true h)
theorem cf {i j:Int} (h:decide (0<j)=true:=by rfl) (h2:decide (intBits j≤9000)=true:=by rfl):CFp i j:=⟨(show 0<j from of_decide_eq_true h),(show intBits j≤9000 from of_decide_eq_true h2)⟩
theorem y0q {i j v:Int} (h:i^j.toNat=v) (ha:PE X a (tC (.int i))) (hb:PE X b (tC (.int j))) (hm:0≤j∧j≤1000000∧i.natAbs<2^64:=by decide):PE X (.BinOp a .Pow b pos) (tC (.int v)):=by
 subst h
 exact fun pins s σ H Q I q=>z0q y5D ha hb pins s σ H Q I ⟨i,j,rfl,rfl,hm,q⟩
theorem z1g:z2B X (.builtin "isinstance") (fun xs H Q=>∃x n t k,xs=[x,.ty n]∧z9B X.K H x t∧PySem.W.kitOne X.K t (.type n)=some k∧Q (.bl k) H):=by
 intro pins s σ H xs us Q I r h
 obtain⟨x,n,t,k,rfl,ty,e,q⟩:=h
 obtain⟨u,w',rfl,r1,r2⟩:=y1U r
 cases (show w'=Value.type n from r2)
 exact y0W I r1 ty e fun tk=>⟨.bl k,H,I.tok tk,rfl,q⟩
end
structure Cal (P:Program) (w:World) (K:PySem.W.Frag) (mg:Str→Option Value) (base:Heap) (n:Nat) (x:Str) (ps:List Str) (sp:Sp):Prop where
 ex:∃g gd,FnOk P w K mg base CX0 n g gd ps sp∧Binds K gd ps []∧PySem.W.keepIn K (.ref g)=true∧mg x=some (.ref g)
theorem Cal.mono {P:Program}{w:World}{K:PySem.W.Frag}{mg:Str→Option Value}{base:Heap}{n m:Nat}{x:Str}{ps:List Str}{sp:Sp} (c:Cal P w K mg base n x ps sp) (h:n≤m):Cal P w K mg base m x ps sp:=
 let ⟨g,gd,F,b,k,m⟩:=c.ex
 ⟨g,gd,F.mono h,b,k,m⟩
section
variable {X:Cx}{e:Expr}{es:List Expr}{t:TA}{p pos:Pos}
theorem z0s {n:Nat}{x:Str}{ps:List Str}{sp:Sp} (c:Cal X.prog X.w X.K X.mg X.base n x ps sp) (hr:Room n X.A) (hg:Gl X x) (ha:PA X (e::es) t) (hdb:(x==("__debug__":Str))=false:=by decide)
 (he:starEach (e::es) X.env=(false,eval e X.env)::starEach es X.env:=by rfl) (hpl:(backTo pos (starEach es X.env)).any (·.1)=false:=by rfl):PE X (.Call (.Name x p) (e::es) [] pos) (y5g sp [] E0 t):=by
 obtain⟨g,gd,F,b,k,m⟩:=c.ex
 exact y4t F hr hg m k b .nil pass0 ha hdb he hpl
end
theorem z0f {H:Hp}{p:Addr} (h:H p=none) (o:HO):Same H (upd H p o):=fun b u q=>by rw[z0m (z0i q h)];exact q
theorem Rd.same {H H':Hp}{a:Addr}{u:HO} (g:Same H H') (r:Rd H a u):Rd H' a u:=by
 rcases r with r|⟨o,r⟩
 ·exact .inl (g _ _ r)
 ·exact .inr ⟨o,g _ _ r⟩
theorem SqT.same {K:PySem.W.Frag}{H H':Hp}{a:Addr}{xs:List V} (g:Same H H') (h:SqT K H a xs):SqT K H' a xs:=by
 rcases h with h|h
 ·exact .inl (h.same g)
 ·exact .inr h
theorem SqL.same {K:PySem.W.Frag}{H H':Hp}{a:Addr}{xs:List V} (g:Same H H') (h:SqL K H a xs):SqL K H' a xs:=by
 rcases h with h|h
 ·exact .inl (h.same g)
 ·exact .inr h
def FrA (H:Hp) (v:V) (x y:Int):Prop:=∃p,v= .ref p∧H p=some (.tup [.int x,.int y])
theorem z1z {i j:Int}{m n:Nat} (hi:intBits i≤m) (hj:intBits j≤n) (h:m+n≤134217728:=by lia):IntMulOk i j:=IntMulOk.of_le hi hj h
end L2
namespace L2
open PySem PySem.Spec PySem.W PyProof.Rows
section
variable {prog:Program}{w:World}{A:Around}{E:Value→Shared→Prop}{h:Heap}{gn:Array GenState}{dr:Drawn}{tt:Nat}{os:OsState}{K:Frag}{x D:Addr}{ox:Obj}{odo:Option Obj}{name:Str}
end
section
variable {M:Model}{A:Around}{E:Value→Shared→Prop}{s:Shared}{base:Heap}{env:Env}{outer:List Env}{L a:Addr}{oe:Obj}{vs:Array Value}{Q:Unit→Shared→Prop}
end
end L2
namespace L2
open PySem PySem.Spec PySem.W PyProof.Rows
section
variable {X:Cx}{pins:List (Addr×Obj)}{σ:St}{H:Hp}{s:Shared}{a:Addr}{cls:Value}{dx:Option Addr}
end
section
variable {X:Cx}{pins:List (Addr×Obj)}{σ:St}{H:Hp}{s:Shared}{a:Addr}{cls:Value}{dx:Option Addr}{E:XK}
end
end L2
namespace L2
open PySem PySem.Spec PySem.W PyProof.Rows
section
variable {X:Cx}{e:Expr}{es:List Expr}{t:TA}{p pos:Pos}
end
section
variable {P:Program}{w:World}{K:PySem.W.Frag}{mg:Str→Option Value}{base:Heap}
end
section
variable {X:Cx}{E:XK}{C:Addr}{x:Str}{np cpos pos:Pos}{e₀:Expr}{rest:List Expr}{ta:TA}
end
section
variable {X:Cx}{pins:List (Addr×Obj)}{σ:St}{H:Hp}{s:Shared}
end
section
variable {X:Cx}{fx cx n:Str}{fp cpos xpos hp hpos tpos:Pos}{e:Expr}{es:List Expr}{ta:TA}{k j:Nat}{ps:List Str}{sp:Sp}{W:Addr}{st0:Stmt}{ts:TS}
end
section
variable {X:Cx}
end
end L2
namespace L2
open PySem PySem.Spec PyProof.Rows
inductive Dt where
 |i (n:Int)
 |t (l:List Dt)
 |l (l:List Dt)
mutual
inductive IsD (K:PySem.W.Frag) (H:Hp):V→Dt→Prop
 |i (n:Int):IsD K H (.int n) (.i n)
 |t {a:Addr}{xs:List V}{ds:List Dt}:SqT K H a xs→IsDs K H xs ds→IsD K H (.ref a) (.t ds)
 |l {a:Addr}{xs:List V}{ds:List Dt}:SqL K H a xs→IsDs K H xs ds→IsD K H (.ref a) (.l ds)
inductive IsDs (K:PySem.W.Frag) (H:Hp):List V→List Dt→Prop
 |nil:IsDs K H [] []
 |cons {x:V}{d:Dt}{xs:List V}{ds:List Dt}:IsD K H x d→IsDs K H xs ds→IsDs K H (x::xs) (d::ds)
end
mutual
def Dt.eqb:Dt→Dt→Bool
 | .i n,.i m=>n==m
 | .t a,.t b=>Dt.eqs a b
 | .l a,.l b=>Dt.eqs a b
 |_,_=>false
def Dt.eqs:List Dt→List Dt→Bool
 |[],[]=>true
 |x::a,y::b=>Dt.eqb x y&&Dt.eqs a b
 |_,_=>false
end
mutual
theorem Dt.eqb_iff:∀(d e:Dt),Dt.eqb d e=true↔d=e
 | .i n,.i m=>by simp[Dt.eqb]
 | .t a,.t b=>by simp only[Dt.eqb,Dt.t.injEq];exact Dt.eqs_iff a b
 | .l a,.l b=>by simp only[Dt.eqb,Dt.l.injEq];exact Dt.eqs_iff a b
 | .i _,.t _=>by simp[Dt.eqb]
 | .i _,.l _=>by simp[Dt.eqb]
 | .t _,.i _=>by simp[Dt.eqb]
 | .t _,.l _=>by simp[Dt.eqb]
 | .l _,.i _=>by simp[Dt.eqb]
 | .l _,.t _=>by simp[Dt.eqb]
theorem Dt.eqs_iff:∀(a b:List Dt),Dt.eqs a b=true↔a=b
 |[],[]=>by simp[Dt.eqs]
 |x::a,y::b=>by simp only[Dt.eqs,Bool.and_eq_true,List.cons.injEq,Dt.eqb_iff x y,Dt.eqs_iff a b]
 |[],_::_=>by simp[Dt.eqs]
 |_::_,[]=>by simp[Dt.eqs]
end
mutual
def Dt.ok:Nat→Dt→Dt→Bool
 |_,.i _,.i _=>true
 |n+1,.t a,.t b=>Dt.oks n a b
 |n+1,.l a,.l b=>Dt.oks n a b
 |_,_,_=>false
def Dt.oks:Nat→List Dt→List Dt→Bool
 |n,x::a,y::b=>Dt.ok n x y&&Dt.oks n a b
 |_,_,_=>true
end
section
variable {X:Cx}{pins:List (Addr×Obj)}{σ:St}{H:Hp}{s:Shared}{K:PySem.W.Frag}
theorem IsDs.length:∀{xs:List V}{ds:List Dt},IsDs K H xs ds→xs.length=ds.length
 |_,_,.nil =>rfl
 |_,_,.cons _ r=>by rw[List.length_cons,List.length_cons,r.length]
theorem z4P (n:Nat) (e:Nat→Bool):(List.range (n+1)).all e=(e 0&&(List.range n).all fun j=>e (j+1)):=by
 rw[List.range_succ_eq_map,List.all_cons,List.all_map]
 rfl
theorem z5Q:∀(ds es:List Dt),(Dt.eqs (ds.take (min ds.length es.length)) (es.take (min ds.length es.length))&&ds.length==es.length)=Dt.eqs ds es
 |[],[]=>by simp[Dt.eqs]
 |[],_::_=>by simp[Dt.eqs]
 |_::_,[]=>by simp[Dt.eqs]
 |d::ds,e::es=>by
  have m:min (d::ds).length (e::es).length =min ds.length es.length+1:=by simp only[q0J];lia
  rw[m,List.take_succ_cons,List.take_succ_cons]
  have ih:=z5Q ds es
  have l:((d::ds).length ==(e::es).length)=(ds.length==es.length):=by simp
  rw[l]
  simp only[Dt.eqs,Bool.and_assoc,ih]
mutual
theorem y1w (I:Inv X pins σ H s):∀{v:V}{d e:Dt},IsD X.K H v d→IsD X.K H v e→d=e
 |_,_,_,.i _,.i _=>rfl
 |_,_,_,.t q1 d1,.t q2 d2=>by
  have e1:=I.tuple_inj q1 q2
  subst e1
  rw[z5S I d1 d2]
 |_,_,_,.l q1 d1,.l q2 d2=>by
  have e1:=I.list_inj q1 q2
  subst e1
  rw[z5S I d1 d2]
 |_,_,_,.t q1 _,.l q2 _=>by
  obtain⟨_,_,⟨o,h1,h2,_⟩,_⟩:=I.tuple q1
  obtain⟨_,_,p,_⟩:=I.list q2
  obtain⟨o',h1',h2',_⟩:=p.isList
  rw[h1] at h1';cases h1'
  rw[h2] at h2'
  exact absurd (Value.type.inj h2') (by decide)
 |_,_,_,.l q2 _,.t q1 _=>by
  obtain⟨_,_,⟨o,h1,h2,_⟩,_⟩:=I.tuple q1
  obtain⟨_,_,p,_⟩:=I.list q2
  obtain⟨o',h1',h2',_⟩:=p.isList
  rw[h1] at h1';cases h1'
  rw[h2] at h2'
  exact absurd (Value.type.inj h2') (by decide)
theorem z5S (I:Inv X pins σ H s):∀{xs:List V}{ds es:List Dt},IsDs X.K H xs ds→IsDs X.K H xs es→ds=es
 |_,_,_,.nil,.nil =>rfl
 |_,_,_,.cons h1 r1,.cons h2 r2=>by rw[y1w I h1 h2,z5S I r1 r2]
end
def Told (X:Cx) (H:Hp) (s:Shared) (n:Nat) (A:Around):Prop:=∀(v u:V) (d e:Dt) (x y:Value),IsD X.K H v d→IsD X.K H u e→RelV v x→RelV u y→Dt.ok n d e=true→SeqAt.EqAt A s x y (Dt.eqb d e)
theorem y1o {n:Nat}{A:Around} (P:Told X H s n A):∀{xs ys:List V}{ds es:List Dt}{its its2:List Value},IsDs X.K H xs ds→IsDs X.K H ys es→Vals xs its→Vals ys its2→Dt.oks n ds es=true→
 ∃e:Nat→Bool,(∀j (h1:j<its.length) (h2:j<its2.length),SeqAt.EqAt A s its[j] its2[j] (e j))∧(List.range (min its.length its2.length)).all e=(Dt.eqs (ds.take (min ds.length es.length)) (es.take (min ds.length es.length)))
 :=by
 intro xs
 induction xs with
 |nil=>
  intro ys ds es its its2 h1 _ v1 _ _
  cases h1
  cases v1
  exact⟨fun _=>true,fun j h1 _=>absurd h1 (Nat.not_lt_zero _),by simp[Dt.eqs]⟩
 |cons a xs ih=>
  intro ys ds es its its2 h1 h2 v1 v2 ok
  cases h1 with
  | @cons _ d _ ds h1 r1=>
  cases v1 with
  | @cons _ x _ its v1 w1=>
  cases h2 with
  |nil=>
   cases v2
   exact⟨fun _=>true,fun j _ h2=>absurd h2 (Nat.not_lt_zero _),by simp[Dt.eqs]⟩
  | @cons _ e' _ es h2 r2=>
  cases v2 with
  | @cons _ y _ its2 v2 w2=>
  have ok':Dt.ok n d e'=true∧Dt.oks n ds es=true:=by simpa[Dt.oks] using ok
  have hd:=P _ _ d e' x y h1 h2 v1 v2 ok'.1
  obtain⟨e,he,hall⟩:=ih r1 r2 w1 w2 ok'.2
  refine⟨fun j=>Nat.casesOn j (Dt.eqb d e') e,fun j h1 h2=>?_,?_⟩
  ·cases j with
   |zero=>exact hd
   |succ j=>exact he j (by simpa using h1) (by simpa using h2)
  ·have m1:min (x::its).length (y::its2).length =min its.length its2.length+1:=by simp only[q0J];lia
   have m2:min (d::ds).length (e'::es).length =min ds.length es.length+1:=by simp only[q0J];lia
   rw[m1,m2,z4P,List.take_succ_cons,List.take_succ_cons]
   show (Dt.eqb d e'&&(List.range (min its.length its2.length)).all e)=(Dt.eqb d e'&&Dt.eqs _ _)
   rw[hall]
theorem y2i {ds es:List Dt} (hl:ds.length=es.length):Dt.eqs (ds.take (min ds.length es.length)) (es.take (min ds.length es.length))=Dt.eqs ds es:=by
 have e5:=z5Q ds es
 have z:(ds.length==es.length)=true:=by simpa using hl
 rw[z,Bool.and_true] at e5
 exact e5
theorem y0k (I:Inv X pins σ H s) {n:Nat}{A:Around} (P:Told X H s n A.in1) (hu:A.units<cLine) {a b:Addr}{d e:Dt} (hv:IsD X.K H (.ref a) d) (hw:IsD X.K H (.ref b) e) (ok:Dt.ok (n+1) d e=true):
 SeqAt.RcAt A s (.ref a) (.ref b) (Dt.eqb d e)∧SeqAt.RcNeAt A s (.ref a) (.ref b) (!Dt.eqb d e):=by
 cases hv with
 |t q1 d1=>
  cases hw with
  |l _ _=>simp[Dt.ok] at ok
  |t q2 d2=>
   rename_i xs ds ys es
   obtain⟨its,rv,p,hz⟩:=I.tuple q1
   obtain⟨its2,rv2,p2,hz2⟩:=I.tuple q2
   have ok':Dt.oks n ds es=true:=by simpa[Dt.ok] using ok
   obtain⟨f,hf,hall⟩:=y1o P d1 d2 rv rv2 ok'
   have t1:=SeqAt.RcAt.tuples (A:=A) (s:=s) (e:=f) (show s.heap.IsTuple a its.toArray from p) (show s.heap.IsTuple b its2.toArray from p2) hu (fun j h1 h2=>by simpa using hf j (by simpa using h1) (by simpa using h2))
   have t2:=SeqAt.RcNeAt.tuples (A:=A) (s:=s) (e:=f) (show s.heap.IsTuple a its.toArray from p) (show s.heap.IsTuple b its2.toArray from p2) hu (fun j h1 h2=>by simpa using hf j (by simpa using h1) (by simpa using h2))
   rw[q0h,q0h,hall,←rv.length,←rv2.length,d1.length,d2.length,z5Q ds es] at t1 t2
   exact⟨t1,t2⟩
 |l q1 d1=>
  cases hw with
  |t _ _=>simp[Dt.ok] at ok
  |l q2 d2=>
   rename_i xs ds ys es
   obtain⟨its,rv,p,hz⟩:=I.list q1
   obtain⟨its2,rv2,p2,hz2⟩:=I.list q2
   have ok':Dt.oks n ds es=true:=by simpa[Dt.ok] using ok
   have l1:its.length=ds.length:=by rw[←rv.length,d1.length]
   have l2:its2.length=es.length:=by rw[←rv2.length,d2.length]
   by_cases hl:ds.length=es.length
   ·obtain⟨f,hf,hall⟩:=y1o P d1 d2 rv rv2 ok'
    have sz:its.toArray.size=its2.toArray.size:=by rw[q0h,q0h];lia
    have t1:=SeqAt.RcAt.lists (A:=A) (s:=s) (e:=f) p.isList p2.isList sz hu (fun j h1 h2=>by simpa using hf j (by simpa using h1) (by simpa using h2))
    have t2:=SeqAt.RcNeAt.lists (A:=A) (s:=s) (e:=f) p.isList p2.isList sz hu (fun j h1 h2=>by simpa using hf j (by simpa using h1) (by simpa using h2))
    have hm:min its.length its2.length=its.length:=by lia
    rw[hm] at hall
    rw[q0h,hall,y2i hl] at t1 t2
    exact⟨t1,t2⟩
   ·have e5:Dt.eqs ds es=false:=by
     have e5:=z5Q ds es
     have z:(ds.length==es.length)=false:=by simpa using hl
     rw[z,Bool.and_false] at e5
     exact e5.symm
    have sz:(its.toArray.size != its2.toArray.size)=true:=by rw[q0h,q0h,l1,l2];simpa using hl
    show SeqAt.RcAt A s _ _ (Dt.eqs ds es)∧SeqAt.RcNeAt A s _ _ (!Dt.eqs ds es)
    rw[e5]
    exact⟨SeqAt.RcAt.lists_lengths p.isList p2.isList sz hu,SeqAt.RcNeAt.lists_lengths p.isList p2.isList sz hu⟩
theorem y5d (I:Inv X pins σ H s):∀(n:Nat) (A:Around),A.units+n<cLine→Told X H s n A:=by
 intro n
 induction n with
 |zero=>
  intro A hu v u d e x y hv hw r1 r2 ok
  cases hv with
  |i k=>
   cases hw with
   |i m=>
    obtain⟨t,rfl⟩:=r1
    obtain⟨t',rfl⟩:=r2
    exact SeqAt.EqAt.int_int k t m t'
   |t _ _=>simp[Dt.ok] at ok
   |l _ _=>simp[Dt.ok] at ok
  |t _ _=>cases hw<;>simp[Dt.ok] at ok
  |l _ _=>cases hw<;>simp[Dt.ok] at ok
 |succ n ih=>
  intro A hu v u d e x y hv hw r1 r2 ok
  have P:=ih A.in1 (by show A.units+1+n<cLine;lia)
  have refs:∀{a b:Addr},v= .ref a→u= .ref b→SeqAt.EqAt A s x y (Dt.eqb d e):=fun {a b} ev eu=>by
   subst ev eu
   cases (show x=Value.ref a from r1)
   cases (show y=Value.ref b from r2)
   by_cases hab:a=b
   ·subst hab
    rw[(Dt.eqb_iff d e).mpr (y1w I hv hw)]
    exact SeqAt.EqAt.same _
   ·exact SeqAt.EqAt.of_refs hab (y0k I P (by lia) hv hw ok).1
  cases hv with
  |i k=>
   cases hw with
   |i m=>
    obtain⟨t,rfl⟩:=r1
    obtain⟨t',rfl⟩:=r2
    exact SeqAt.EqAt.int_int k t m t'
   |t _ _=>simp[Dt.ok] at ok
   |l _ _=>simp[Dt.ok] at ok
  |t _ _=>
   cases hw with
   |i m=>simp[Dt.ok] at ok
   |t _ _=>exact refs rfl rfl
   |l _ _=>simp[Dt.ok] at ok
  |l _ _=>
   cases hw with
   |i m=>simp[Dt.ok] at ok
   |t _ _=>simp[Dt.ok] at ok
   |l _ _=>exact refs rfl rfl
end
section
variable {X:Cx}
def rEqD (K:PySem.W.Frag):R2:=fun x y H Q=>∃(a b:Addr) (d e:Dt),x= .ref a∧y= .ref b∧IsD K H x d∧IsD K H y e∧Dt.ok 9 d e=true∧Q (.bl (Dt.eqb d e)) H
def rNeD (K:PySem.W.Frag):R2:=fun x y H Q=>∃(a b:Addr) (d e:Dt),x= .ref a∧y= .ref b∧IsD K H x d∧IsD K H y e∧Dt.ok 9 d e=true∧Q (.bl (!Dt.eqb d e)) H
theorem y5G (hu:X.A.units+64<cLine):OpR X (compareOp .Eq) (rEqD X.K):=by
 intro pins s σ H x y v u Q I r1 r2 h
 obtain⟨a,b,d,e,rfl,rfl,h1,h2,ok,q⟩:=h
 cases (show v=Value.ref a from r1)
 cases (show u=Value.ref b from r2)
 exact (y0k I (y5d I 8 X.A.in1 (by show X.A.units+1+8<cLine;lia)) (by lia) h1 h2 ok).1 _ _ _ _ ⟨.bl _,H,I,rfl,q⟩
theorem y5E (hu:X.A.units+64<cLine):OpR X (compareOp .NotEq) (rNeD X.K):=by
 intro pins s σ H x y v u Q I r1 r2 h
 obtain⟨a,b,d,e,rfl,rfl,h1,h2,ok,q⟩:=h
 cases (show v=Value.ref a from r1)
 cases (show u=Value.ref b from r2)
 exact (y0k I (y5d I 8 X.A.in1 (by show X.A.units+1+8<cLine;lia)) (by lia) h1 h2 ok).2 _ _ _ _ ⟨.bl _,H,I,rfl,q⟩
theorem z3m {K:PySem.W.Frag}{H:Hp}:∀ns:List Int,IsDs K H (ns.map V.int) (ns.map Dt.i)
 |[]=> .nil
 |n::r=> .cons (.i n) (z3m r)
theorem z3h (n:Nat):∀a b:List Int,Dt.oks n (a.map Dt.i) (b.map Dt.i)=true
 |[],_=>by simp[Dt.oks]
 |_::_,[]=>by simp[Dt.oks]
 |x::a,y::b=>by
  have:=z3h n a b
  simp only[q0t,Dt.oks,this,Bool.and_true]
  cases n<;>rfl
theorem z8B:∀a b:List Int,Dt.eqs (a.map Dt.i) (b.map Dt.i)=decide (a=b)
 |[],[]=>by simp[Dt.eqs]
 |[],_::_=>by simp[Dt.eqs]
 |_::_,[]=>by simp[Dt.eqs]
 |x::a,y::b=>by
  have ih:=z8B a b
  simp only[q0t,Dt.eqs,Dt.eqb,ih]
  by_cases h1:x=y<;>by_cases h2:a=b<;>simp[h1,h2]
end
end L2
set_option maxHeartbeats 1000000
namespace L2
open PySem PySem.Spec PyProof.Rows
def z2o (X:Cx) (Nc:List Str) (scope:Scope) (cl:List (Str×Addr)) (C:Addr) (s2:Shared) (H2:Hp) (fp:List Addr):Cx where
 prog:=X.prog
 w:=X.w
 K:=X.K
 mg:=X.mg
 base:=X.base
 A:=X.A
 N:=Nc
 s₀:=s2
 H₀:=H2
 env:=compEnvC scope cl C X.env
 outer:=X.stack
 stack:=X.stack
 ex:=fp
 fn:=fun _=>false
 calm:=true
 pn:=[]
 xe:=fun _ _=>False
def CapC (env:Env):List (Str×Addr)→Prop
 |[]=>True
 |(x,c)::r=>env.cells.lookup x=some c∧CapC env r
def CapN (X:Cx) (scope:Scope) (cl:List (Str×Addr)):List Str→List (Option Nat)→Prop
 |[],[]=>True
 |_::r,none::q=>CapN X scope cl r q
 |x::r,some k::q=>(X.N[k]? =some x∧X.env.kindOf x=some .cell ∧(cl.lookup x).isSome =true∧(relabel scope X.env).names.lookup x=some .cell)∧CapN X scope cl r q
 |_,_=>False
def z0G (fr:List (Option Nat)) (σ:St):St:=fr.map fun o=>o.bind fun k=>(σ[k]?).join
theorem CapC.mem {env:Env}:∀{cl:List (Str×Addr)},CapC env cl→∀x c,cl.lookup x=some c→env.cells.lookup x=some c
 |[],_,x,c,e=>by simp at e
 |(y,d)::r,h,x,c,e=>by
  rw[List.lookup_cons] at e
  split at e
  ·rename_i hb
   have:x=y:=by simpa using hb
   subst this
   cases e
   exact h.1
  ·exact h.2.mem x c e
theorem CapN.length {X:Cx}{scope:Scope}{cl:List (Str×Addr)}:∀{Nc:List Str}{fr:List (Option Nat)},CapN X scope cl Nc fr→fr.length=Nc.length
 |[],[],_=>rfl
 |_::r,none::q,h=>by rw[List.length_cons,List.length_cons,CapN.length (show CapN X scope cl r q from h)]
 |_::r,some k::q,h=>by rw[List.length_cons,List.length_cons,CapN.length h.2]
 |[],_::_,h=>h.elim
 |_::_,[],h=>h.elim
theorem CapN.at {X:Cx}{scope:Scope}{cl:List (Str×Addr)}:∀{Nc:List Str}{fr:List (Option Nat)},CapN X scope cl Nc fr→∀(j:Nat) (x:Str) (k:Nat),Nc[j]? =some x→fr[j]? =some (some k)→
 X.N[k]? =some x∧X.env.kindOf x=some .cell ∧(cl.lookup x).isSome =true∧(relabel scope X.env).names.lookup x=some .cell
 |[],[],_,j,x,k,e,_=>by simp at e
 |_::r,none::q,h,0,x,k,_,e=>by simp at e
 |y::r,some k'::q,h,0,x,k,e1,e2=>by
  simp at e1 e2
  subst e1 e2
  exact h.1
 |_::r,none::q,h,j+1,x,k,e1,e2=>CapN.at (show CapN X scope cl r q from h) j x k (by simpa using e1) (by simpa using e2)
 |_::r,some k'::q,h,j+1,x,k,e1,e2=>CapN.at h.2 j x k (by simpa using e1) (by simpa using e2)
 |[],_::_,h,_,_,_,_,_=>h.elim
 |_::_,[],h,_,_,_,_,_=>h.elim
theorem z2S {scope:Scope}{env:Env}{cl:List (Str×Addr)} (hcell:∀y∈scope.names,y.2≠ .cell) (hall:(scope.names.all fun p=>p.2 != .free || (cl.lookup p.1).isSome)=true):
 ∀x,((relabel scope env).names.lookup x=some .cell ∨(relabel scope env).names.lookup x=some .free)→∃c,cl.lookup x=some c:=by
 intro x hx
 unfold relabel at hx
 dsimp only at hx
 revert hcell hall hx
 generalize scope.names=ns
 intro hcell hall hx
 induction ns with
 |nil=>simp at hx
 |cons p r ih=>
  obtain⟨n,k⟩:=p
  have hk:k≠ .cell :=hcell (n,k) q0j
  simp only[List.all_cons,q1i] at hall
  rw[q0t] at hx
  by_cases hxn:x=n
  ·subst hxn
   have kf:k= .free :=by
        by_cases hc:(k==NameKind.free&&env.scope.kind== .function &&env.kindOf x==some .cell)=true
        ·simp only[q1i,beq_iff_eq] at hc
         exact hc.1.1
        ·dsimp only at hx
         rw[if_neg hc] at hx
         simp only[List.lookup_cons,beq_self_eq_true] at hx
         rcases hx with z|z
         ·exact absurd (Option.some.inj z) hk
         ·exact Option.some.inj z
   have h1:=hall.1
   rw[kf] at h1
   have h2:(cl.lookup x).isSome =true:=by simpa using h1
   exact Option.isSome_iff_exists.mp h2
  ·refine ih (fun y hy=>hcell y (q0i _ hy)) hall.2 ?_
   have hb:(x==n)=false:=by simpa using hxn
   dsimp only at hx
   by_cases hc:(k==NameKind.free&&env.scope.kind== .function &&env.kindOf n==some .cell)=true
   ·rw[if_pos hc] at hx
    simpa only[List.lookup_cons,hb] using hx
   ·rw[if_neg hc] at hx
    simpa only[List.lookup_cons,hb] using hx
def PTs (X:Cx) (ifs:List Expr) (t:TT):Prop:=
 ∀(pins:List (Addr×Obj)) (s:Shared) (σ:St) (H:Hp) (Q:Bool→Hp→Prop),Inv X pins σ H s→t σ H Q→
  wpAny (model X.prog X.w) X.A (forIn ifs true fun c r=>if r=true then do let ok ←isTrue c X.env (eval c X.env);pure (ForInStep.yield ok) else pure (ForInStep.yield r)) (TP X pins σ Q) X.xe s
theorem z0Q {X:Cx}:PTs X [] (fun _ H Q=>Q true H):=fun _ _ _ H _ I h=>wpAny_tests_nil ⟨H,I,h⟩
theorem z2W {X:Cx}{c:Expr}{t:TT} (h:PT X c t):PTs X [c] t:=fun pins s σ H Q I q=>wpAny_tests_one (h pins s σ H Q I q)
def z3U (J:It) (g:TG) (tt:TT) (te:TE) (Q:VK) (D:Addr) (σ0:St) (H0:Hp):Prop:=∃W:Nat→Nat→St→Hp→Prop,(∃m,W 0 m σ0 H0)∧∀i m σc Hc,W i m σc Hc→
 (J.stop i Hc∧Q (.ref D) Hc)∨(J.go i Hc∧∀x H',J.yld i Hc x H'→g x σc H' fun σ2 H2=>tt σ2 H2 fun b H3=>
    if b=true then te σ2 H3 fun v H4=>∃acc m',H4 D=some (.lst acc)∧acc.length<sizeLine∧m'<m∧W (i+1) m' σ2 (upd H4 D (.lst (acc++[v]))) else ∃m',m'<m∧W (i+1) m' σ2 H3)
def y5f (fr:List (Option Nat)) (wi:TI) (g:TG) (tt:TT) (te:TE):TE:=fun σ H Q=>wi σ H fun J H1=>∀D,H1 D=none→z3U J g tt te Q D (z0G fr σ) (upd H1 D (.lst []))
section
variable {X:Cx}{tg iter elt:Expr}{ifs:List Expr}{scope:Scope}{pos:Pos}{cl:List (Str×Addr)}{Nc:List Str}{fr:List (Option Nat)}{wi:TI}{g:TG}{tt:TT}{te:TE}
theorem z0N (hc:X.calm=true) (hi:PI X tg iter wi) (hcl:closureFor scope X.env=pure cl) (hcell:∀y∈scope.names,y.2≠ .cell) (hk:scope.kind= .function) (hnm:∀y∈scope.names,y.2= .local →scope.names.lookup y.1=some .local)
 (hall:(scope.names.all fun p=>p.2 != .free || (cl.lookup p.1).isSome)=true) (cc:CapC X.env cl) (cn:CapN X scope cl Nc fr)
 (hg:∀C s2 H2 fp,PG (z2o X Nc scope cl C s2 H2 fp) tg g) (ht:∀C s2 H2 fp,PTs (z2o X Nc scope cl C s2 H2 fp) ifs tt) (he:∀C s2 H2 fp,PE (z2o X Nc scope cl C s2 H2 fp) elt te)
 (hs:∀x,foldedSetIterable iter X.env x=pure x:=by intro _;rfl):PE X (.ListComp elt [⟨tg,iter,ifs,0⟩] scope pos) (y5f fr wi g tt te):=by
 intro pins s σ H Q I h
 rw[eval_ListComp]
 refine wpAny_comprehension_free (use:=none) rfl hs hcl hk hnm ?_
 refine wpAny_mono (hi pins s σ H _ I h) (fun xv s1 h1=>wpAny_mono h1 (fun itv s2 h2=>?_) fun _ _ e=>e) fun _ _ e=>e
 obtain⟨it,fp,tn,J,H2,rfl,I2,T,st2,f2,q2⟩:=h2
 obtain⟨W,⟨m0,w0⟩,turn⟩:=q2 s2.heap.objs.size (I2.hok.fresh (q0e _))
 refine wpAny_newObj_type (wpAny_newFunctionEnv hcell (by intro y hy;simp at hy) (fun h4 ns4 sb4=>?_) hk)
 dsimp only at ns4 sb4 ⊢
 generalize hD:s2.heap.objs.size=D at*
 generalize hL:s2.heap.push {cls:= .type "list",dict:=none,data:= .seq ([]:List Value).toArray}=hl at ns4 sb4 ⊢
 have hlsz:hl.objs.size=D+1:=by rw[←hL,q1z,hD]
 rw[hlsz] at ns4 sb4 ⊢
 have DC:D≠D+1:=q0r (Nat.lt_succ_self _)
 have low:∀b o,s2.heap.get? b=some o→b<D:=fun b o e=>by rw[←hD];exact q0p e
 have kp:∀b o,s2.heap.get? b=some o→h4.get? b=some o:=fun b o e=>by
  have z:=low b o e
  refine sb4.extBut b o (q0r (q0V z)) (q0d _ ?_)
  rw[←hL]
  exact q0d _ e
 have hD4:h4.get? D=some {cls:= .type "list",dict:=none,data:= .seq ([]:List Value).toArray}:=by
  refine sb4.extBut D _ DC (q0d _ ?_)
  rw[←hL,←hD]
  exact q0q _ rfl
 have hn:H2 D=none:=by rw[←hD];exact I2.hok.fresh (q0e _)
 have hnC:H2 (D+1)=none:=I2.hok.fresh (by rw[hD];exact Nat.le_succ _)
 let Y:=z2o X Nc scope cl (D+1) s2 H2 fp
 have ixv:∀b∈fp,b<D:=fun b hb=>by
  obtain⟨o,e,_⟩:=T.obj 0 _ st2 b hb
  exact low b o e
 have okY:Y.Ok:=by
  refine⟨I2.ok.mod,?_,I2.ok.glob,I2.ok.blt,?_,?_,?_,?_,fun _=>I2.ok.hd hc,I2.ok.frames,.inl rfl,?_,I2.bs,?_,?_,?_,I2.stack,I2.stkFree⟩
  ·exact hk
  ·show s2.heap.objs.size≤D+1
   lia
  ·intro x y c e1 e2
   exact I2.ok.inj x y c (cc.mem x c e1) (cc.mem y c e2)
  ·intro x hx
   exact z2S hcell hall x hx
  ·intro x c e
   cases e
  ·intro b hb
   refine⟨fun z=>?_,fun x c e z=>?_⟩
   ·exact absurd z (q0r (q0V (ixv b hb)))
   ·exact (f2 b hb).2.2.2.2.1 x c (cc.mem x c e) z
  ·exact q0o I2.ok.bsz I2.sz
  ·intro b o e hb
   have z:=(f2 b hb).2.2.2.1
   rcases z with z|z
   ·exact I2.ok.noex b o e z
   ·exact absurd (q0K (q0p (I2.ok.bs b o e).1) z) (q1Q _)
  ·intro b hb z
   have e2:=q0l.mp (I2.stkSub b z)
   rcases e2 with e2|e2
   ·exact (f2 b hb).2.1 e2
   ·exact (f2 b hb).2.2.1 e2
 have IY:Inv Y [] (z0G fr σ) (upd H2 D (.lst [])) {s2 with heap:=h4,toks:=s2.toks+([]:List (Str×Value)).length}:=by
  refine⟨okY,rfl,I2.bare,⟨fun b o e n _ _=>kp b o e,fun b o e n _ _=>⟨o.slots,kp b o e⟩,fun b o e n _=>?_,fun b o e _=>⟨o,kp b o e⟩,fun b xs e=>?_,fun b o u e=>?_,fun b ps e=>⟨#[],?_⟩⟩,?_,fun x c e=>?_,?_,fun x c e=>?_,fun p hp=>?_,fun b u e=>?_,?_⟩
  ·rw[z0m (q0r (low b o e))];exact n
  ·rw[z0m (z0i e hn)];exact e
  ·rw[z0m (z0i e hn)];exact e
  ·rw[z0m (z0i e hn),show H2 b=_ from e];simp
  ·refine⟨_,ns4,fun j x v e1 e2 e3=>?_⟩
   have e2':(fr.map fun o=>o.bind fun k=>(σ[k]?).join)[j]? =some (some v):=e2
   rw[q0k] at e2'
   obtain⟨o,ho,hv⟩:=q0A.mp e2'
   cases o with
   |none=>cases hv
   |some k=>
    obtain⟨c1,c2,c3,c4⟩:=cn.at j x k e1 ho
    have hσ:σ[k]? =some (some v):=by
        have hv':(σ[k]?).join =some v:=hv
        cases z:σ[k]? with
        |none=>rw[z] at hv';cases hv'
        |some w'=>rw[z] at hv';exact congrArg some hv'
    obtain⟨m,hm,hlk⟩:=I2.loc
    obtain⟨u,r,lk⟩:=hlk k x v c1 hσ (.inr (.inl c2))
    refine⟨u,r,.inr ⟨.inl c4,?_⟩⟩
    rcases lk with⟨z,_⟩|⟨_,c,ec,oc,hoc,dc⟩
    ·rw[c2] at z;cases z
    ·obtain⟨c',ec'⟩:=Option.isSome_iff_exists.mp c3
     have:=cc.mem x c' ec'
     rw[ec] at this;cases this
     exact⟨c,ec',oc,kp c oc hoc,dc⟩
  ·obtain⟨v,oc,hoc,dc⟩:=I2.cell x c (cc.mem x c e)
   exact⟨v,oc,kp c oc hoc,dc⟩
  ·show upd H2 D (.lst []) (D+1)=none
   rw[z0m (Ne.symm DC)];exact hnC
  ·obtain⟨v,oc,hoc,dc⟩:=I2.cell x c (cc.mem x c e)
   rw[z0m (q0r (low c oc hoc))]
   exact I2.freeC x c (cc.mem x c e)
  ·simp[Y,z2o] at hp
  ·by_cases hb:b=D
   ·subst hb
    rw[z0c] at e;cases e
    exact⟨q0S _,[],_,.nil,hD4⟩
   ·rw[z0m hb] at e
    exact (I2.hok b u e).stay (fun c v _ q=>kp c v q) (fun c q=>by rw[z0m (z0i q hn)];exact q) fun c xs q=>by rw[z0m (z0i q hn)];exact q
  ·show (fr.map _).length =Nc.length
   rw[q0b];exact cn.length
 have fY:∀{H':Hp},(∀b∈fp,H' b=none)→∀b∈fp,y1Q Y [] H' b:=fun {H'} hn' b hb=>by
  refine⟨hn' b hb,fun z=>?_,fun z=>?_,.inl hb,fun x c e z=>?_,fun p hp=>?_⟩
  ·exact absurd z (q0r (q0V (ixv b hb)))
  ·exact okY.exfs b hb z
  ·exact (f2 b hb).2.2.2.2.1 x c (cc.mem x c e) z
  ·simp[Y,z2o] at hp
 have st4:tn 0 h4:=T.keep _ _ _ st2 fun b hb o e=>kp b o e
 have fr4:∀b∈fp,upd H2 D (.lst []) b=none:=fun b hb=>by
  rw[z0m (q0r (ixv b hb))]
  exact (f2 b hb).1
 have loop:∀s3:Shared,s3={s2 with heap:=h4,toks:=s2.toks+([]:List (Str×Value)).length}→
  codeAny (model X.prog X.w) X.A (.compLoop (.ListComp elt [⟨tg,iter,ifs,0⟩] scope pos) 0 (.ref it) (.ref D) (compEnvC scope cl (D+1) X.env)) (compPost (model X.prog X.w) X.A X.xe none (EP X pins σ Q) (.ref D) (D+1)) s3:=by
  rintro s3 rfl
  refine codeAny_loop rfl (fun n s'=>∃i σ' H',Inv Y [] σ' H' s'∧tn i s'.heap∧(∀b∈fp,H' b=none)∧W i n σ' H') (fun n s5 hI=>?_) m0 ⟨0,_,_,IY,st4,fr4,w0⟩
  obtain⟨i,σ5,H5,I5,st5,fr5,w5⟩:=hI
  show wpAny _ X.A ((compTurn (.ListComp elt [⟨tg,iter,ifs,0⟩] scope pos) 0 (.ref it) (.ref D) (compEnvC scope cl (D+1) X.env)).onRaise (fun x=>do noteFrame x (compEnvC scope cl (D+1) X.env);theTreesLotGoes x)) _ _ s5
  refine wpAny_noted ?_
  rw[compTurn_list]
  refine wpAny_bind (wpAny_standAt (wpAny_bind ?_))
  rcases turn i n σ5 H5 w5 with⟨stop,qn⟩|⟨go,step⟩
  ·refine wpAny_mono (T.done Y rfl rfl rfl rfl i [] s5 σ5 H5 (fun _ _=>False) I5 (fY fr5) st5 stop) (fun r s6 ⟨hr,I6⟩=>?_) fun _ _ z=>z.elim
   subst hr
   refine wpAny_pure ?_
   obtain⟨m6,hm6,_⟩:=id I6.loc
   refine⟨m6,hm6,fun h7 sb7=>?_⟩
   have un:Un (frs X.stack) fp H2 H5 s2.heap h7:=by
        have b6:=I6.base
        have nc:∀b o,s2.heap.get? b=some o→b≠D+1:=fun b o e=>q0r (q0V (low b o e))
        refine⟨fun b o e n1 n2 n3=>(sb7.2 b (nc b o e)).trans (b6.keep b o e n1 n2 n3),fun b o e n1 n2 n3=>?_,b6.free,fun b o e n3=>?_,b6.tups,b6.frzs,b6.tbls⟩
        ·obtain⟨sl,z⟩:=b6.slot b o e n1 n2 n3
         exact⟨sl,(sb7.2 b (nc b o e)).trans z⟩
        ·obtain⟨o',z⟩:=b6.there b o e n3
         exact⟨o',(sb7.2 b (nc b o e)).trans z⟩
   have hok7:HOk X.prog X.w H5 h7:=fun b u e=>by
        refine (I6.hok b u e).stay (fun c v hc' q=>(sb7.2 c fun z=>?_).trans q) (fun _ q=>q) fun _ _ q=>q
        have fC:H5 (D+1)=none:=I6.free
        subst z
        rcases hc' with z|z
        ·rw[←z,fC] at e;cases e
        ·rw[fC] at z;cases z
   have IX:=I2.call' (s':={s6 with heap:=h7}) (ch:=fp) I6.os un hok7 I6.bare fun b hb=>⟨(f2 b hb).2.2.2.1,(f2 b hb).2.1,(f2 b hb).2.2.2.2.1,(f2 b hb).2.2.2.2.2⟩
   exact⟨.ref D,H5,IX,rfl,qn⟩
  ·refine wpAny_mono (T.item Y rfl rfl rfl rfl i [] s5 σ5 H5 (fun _ _=>False) I5 (fY fr5) st5 go) (fun r s6 ⟨u,hr,h6⟩=>?_) fun _ _ z=>z.elim
   subst hr
   refine wpAny_bind (wpAny_mono h6 (fun _ s7 ⟨x,H7,I7,r7,y7,st7,fr7⟩=>?_) fun _ _ z=>z.elim)
   have I7':=I7.pinned (fY fr7) (T.obj _ _ st7)
   refine wpAny_bind (wpAny_mono (hg _ _ _ _ _ s7 σ5 H7 x u _ I7' r7 (step x H7 y7)) (fun _ s8 ⟨σ8,H8,I8,q8⟩=>?_) fun _ _ z=>z.elim)
   have again:∀{σ':St}{H':Hp}{s':Shared}{k:Nat},Inv Y ([]++z4Z fp s7.heap) σ' H' s'→W (i+1) k σ' H'→∃i' σ'' H'',Inv Y [] σ'' H'' s'∧tn i' s'.heap∧(∀b∈fp,H'' b=none)∧W i' k σ'' H'':=fun {σ' H' s' k} I' w'=>by
        refine⟨i+1,σ',H',I'.unpinned,T.keep _ _ _ st7 fun b hb o e=>(I'.pin (b,o) (q0I _ (q0I _ (z1G hb e)))).1,fun b hb=>?_,w'⟩
        obtain⟨o,e,d⟩:=T.obj _ _ st7 b hb
        exact (I'.pin (b,o) (q0I _ (q0I _ (z1G hb e)))).2.1
   refine wpAny_bind (wpAny_mono (ht _ _ _ _ _ s8 σ8 H8 _ I8 q8) (fun ok s9 ⟨H9,I9,q9⟩=>?_) fun _ _ z=>z.elim)
   cases ok with
   |false=>
    obtain⟨m',hm',w'⟩:=q9
    exact wpAny_pure ⟨rfl,m',hm',again I9 w'⟩
   |true=>
    refine wpAny_bind (wpAny_bind (wpAny_mono (he _ _ _ _ _ s9 σ8 H9 _ I9 q9) (fun ev s10 ⟨v,H10,I10,r10,acc,m',hacc,hlen,hm',w'⟩=>?_) fun _ _ z=>z.elim))
    refine wpAny_bind (wpAny_mono (z1K (X:=Y) _ s10 σ8 H10 (.ref D) [v] (.ref D) [ev] (fun r H'=>r= .non ∧H'=upd H10 D (.lst (acc++[v]))) I10 rfl (.cons r10 .nil) ⟨D,acc,v,rfl,rfl,hacc,hlen,rfl,rfl⟩) (fun _ s11 ⟨_,H11,I11,_,_,e11⟩=>?_) fun _ _ z=>z.elim)
    subst e11
    exact wpAny_pure (wpAny_pure ⟨rfl,m',hm',again I11 w'⟩)
 exact codeAny_compStart_list (loop _ rfl) (T.self _ _ _ _ _ st4 (loop _ rfl))
end
end L2
namespace L2
open PySem PySem.Spec PyProof.Rows
def SqA (K:PySem.W.Frag) (H:Hp) (a:Addr) (xs:List V):Prop:=SqL K H a xs∨SqT K H a xs
theorem SqA.same {K:PySem.W.Frag}{H H':Hp}{a:Addr}{xs:List V} (g:Same H H') (h:SqA K H a xs):SqA K H' a xs:=by
 rcases h with h|h
 ·exact .inl (h.same g)
 ·exact .inr (h.same g)
def trV:V→Bool
 | .int i=>i != 0
 | .bl b=>b
 |_=>false
def PlV:V→Prop
 | .int _=>True
 | .bl _=>True
 | .non =>True
 |_=>False
section
variable {X:Cx}
theorem y3R {xs:List V} (f:V→Bool):((List.range xs.length).any fun i=>((xs[i]?).map f).getD false)=xs.any f:=by
 rw[q1O,q1S,q1S]
 constructor
 ·rintro⟨i,hi,h⟩
  have hl:i<xs.length:=q1s.mp hi
  refine⟨xs[i],q0y hl,?_⟩
  simpa[hl] using h
 ·rintro⟨x,hx,h⟩
  obtain⟨i,hl,e⟩:=q0v.mp hx
  exact⟨i,q1s.mpr hl,by simp[hl,e,h]⟩
theorem z3K {prog:Program}{w:World}{A:Around}{ys:List V}{its:List Value} (r:Vals ys its) (hp:∀y∈ys,PlV y):
 TruthOf prog w A (fun i v=>its.toArray[i]? =some v) (fun i=>((ys[i]?).map trV).getD false):=by
 intro i v s Q E hv q
 have hv':its[i]? =some v:=by simpa using hv
 have hi:i<ys.length:=by rw[r.length];exact (q0E.mp hv').1
 obtain⟨u,hu,ru⟩:=r.get (q0c hi)
 rw[hv'] at hu;cases hu
 have p:=hp _ (q0y hi)
 have q':Q (trV ys[i]) s:=by simpa[hi] using q
 generalize ys[i]=y at*
 cases y with
 |int k=>obtain⟨t,rfl⟩:=ru;exact PySem.P.truthy_int q'
 |bl b=>cases ru;exact wpAny_truthy_bool q'
 |non=>cases ru;exact truthy_none q'
 |_=>exact p.elim
theorem y3b (hc:X.calm=true):z2B X (.builtin "any") (fun xs H Q=>∃p ys,xs=[.ref p]∧SqA X.K H p ys∧(∀y∈ys,PlV y)∧Q (.bl (ys.any trV)) H):=by
 intro pins s σ H xs us Q I r h
 obtain⟨p,ys,rfl,hq,hp,q⟩:=h
 obtain⟨u,rfl,rx⟩:=z6Z r
 cases rx
 have hh:X.A.in1.handled=none:=I.ok.hd hc
 refine call_any_walk ?_
 rcases hq with hq|hq
 ·obtain⟨its,r',pl,hz⟩:=I.list hq
  have hne:p≠s.heap.objs.size:=by obtain⟨o,e,_⟩:=pl.isList;exact q0r (q0p e)
  refine wpAny_pyIter_list pl.isList ⟨_,_,_,_,_,_,_,rfl,Walks.list hh _ p hne its.toArray,⟨⟨_,q0q _ rfl,rfl,rfl⟩,pl.isList.push _⟩,z3K r' hp,fun h' tk kp=>?_⟩
  have kp':∀b o,s.heap.get? b=some o→h'.get? b=some o:=fun b o e=>kp b o (by have:=q0p e;simp;exact q0r this) (q0d _ e)
  refine⟨.bl (ys.any trV),H,I.kept kp',?_,q⟩
  show Value.bool _=_
  rw[q0h,←r'.length,y3R]
 ·obtain⟨its,r',pl,hz⟩:=I.tuple hq
  have pl':s.heap.IsTuple p its.toArray:=pl
  have hne:p≠s.heap.objs.size:=by obtain⟨o,e,_⟩:=pl';exact q0r (q0p e)
  refine wpAny_pyIter_tuple pl' ⟨_,_,_,_,_,_,_,rfl,Walks.tuple hh _ p hne its.toArray,⟨⟨_,q0q _ rfl,rfl,rfl⟩,pl'.push _⟩,z3K r' hp,fun h' tk kp=>?_⟩
  have kp':∀b o,s.heap.get? b=some o→h'.get? b=some o:=fun b o e=>kp b o (by have:=q0p e;simp;exact q0r this) (q0d _ e)
  refine⟨.bl (ys.any trV),H,I.kept kp',?_,q⟩
  show Value.bool _=_
  rw[q0h,←r'.length,y3R]
end
def SIt (b:Bool) (h:Heap) (it a:Addr) (k:Nat):Prop:=match b with
 |true=>h.IsListIter it a k
 |false=>h.IsTupleIter it a k
def SAt (b:Bool) (h:Heap) (a:Addr) (its:Array Value):Prop:=match b with
 |true=>h.IsList a its
 |false=>h.IsTuple a its
theorem SIt.ob {b:Bool}{h:Heap}{it a:Addr}{k:Nat} (x:SIt b h it a k):∃o n,h.get? it=some o∧o.cls= .type n∧(n="list_iterator"∨n="tuple_iterator")∧o.data= .fields #[.ref a,.int k 0]:=by
 cases b with
 |true=>obtain⟨o,e,c,d⟩:=x;exact⟨o,_,e,c,.inl rfl,d⟩
 |false=>obtain⟨o,e,c,d⟩:=x;exact⟨o,_,e,c,.inr rfl,d⟩
theorem SAt.ob {b:Bool}{h:Heap}{a:Addr}{its:Array Value} (x:SAt b h a its):∃o n,h.get? a=some o∧o.cls= .type n∧(n="list"∨n="tuple"):=by
 cases b with
 |true=>obtain⟨o,e,c,_⟩:=x;exact⟨o,_,e,c,.inl rfl⟩
 |false=>obtain⟨o,e,c,_⟩:=x;exact⟨o,_,e,c,.inr rfl⟩
theorem SIt.keep {b:Bool}{h h':Heap}{it a:Addr}{k:Nat} (x:SIt b h it a k) (f:∀o,h.get? it=some o→h'.get? it=some o):SIt b h' it a k:=by
 cases b with
 |true=>obtain⟨o,e,r⟩:=x;exact⟨o,f o e,r⟩
 |false=>obtain⟨o,e,r⟩:=x;exact⟨o,f o e,r⟩
theorem SAt.keep {b:Bool}{h h':Heap}{a:Addr}{its:Array Value} (x:SAt b h a its) (f:∀o,h.get? a=some o→h'.get? a=some o):SAt b h' a its:=by
 cases b with
 |true=>obtain⟨o,e,r⟩:=x;exact⟨o,f o e,r⟩
 |false=>obtain⟨o,e,r⟩:=x;exact⟨o,f o e,r⟩
theorem SIt.ne_at {b c:Bool}{h:Heap}{it a l:Addr}{k:Nat}{its:Array Value} (x:SIt b h it a k) (y:SAt c h l its):l≠it:=by
 rintro rfl
 obtain⟨o,n,e,c1,hn,_⟩:=x.ob
 obtain⟨o',n',e',c2,hn'⟩:=y.ob
 rw[e] at e';cases e'
 rw[c1] at c2;cases c2
 rcases hn with rfl|rfl<;>rcases hn' with h|h<;>exact absurd h (by decide)
section
variable {prog:Program}{w:World}{A:Around}{E:Value→Shared→Prop}{s:Shared}
theorem z3i {b:Bool}{it a:Addr}{k:Nat}{its:Array Value}{x:Value}{Q:Value→Shared→Prop} (hit:SIt b s.heap it a k) (hl:SAt b s.heap a its) (hx:its[k]? =some x)
 (hQ:∀h',SIt b h' it a (k+1)→Heap.SameBut it s.heap h'→Q x {s with heap:=h'}):wpAny (model prog w) A (Builtin.SmallTypes.nextOf (.ref it)) Q E s:=by
 cases b with
 |true=>exact wpAny_nextOf_list_item hit hl hx hQ
 |false=>
  have hit':s.heap.IsTupleIter it a k:=hit
  obtain⟨ob,e1,c1,d1⟩:=id hit'
  obtain⟨ol,e2,_,nl,d2⟩:=hl
  unfold Builtin.SmallTypes.nextOf
  refine wpAny_bind (wpAny_callSpecial?_slot (name:=Str.ofString "__next__") hit'.typeIs F.slot_tuple_iterator_next (wpAny_call_entry F.slot_tuple_iterator_next hit'.typeIs F.entry_tuple_iterator_next ?_ (F.args_tuple_iterator_next_1 _)))
  show wpAny _ _ (field (.ref it) 0>>= _) _ _ s
  refine wpAny_bind (wpAny_field e1 d1 (x:= .ref a) rfl ?_)
  rw[if_neg (show ¬((Value.ref a==Value.none)=true) from q0B)]
  show wpAny _ _ (field (.ref it) 1>>= _) _ _ s
  refine wpAny_bind (wpAny_field e1 d1 (x:= .int k 0) rfl ?_)
  show wpAny _ _ (seqItems? (.ref a)>>= _) _ _ s
  refine wpAny_bind (wpAny_seqItems e2 d2 ?_)
  simp only[q0G,hx]
  refine wpAny_bind (wpAny_setField e1 d1 (by simp) (wpAny_pure ⟨x,rfl,wpAny_pure (hQ _ ?_ (Heap.SameBut.update ..))⟩))
  exact⟨_,Heap.get?_update_self _ e1 (Obj.isFreed_of_fields (Obj.data_mapFields d1 _)),(Obj.cls_mapFields ..).trans c1,by rw[Obj.data_mapFields d1];simp[rawInt]⟩
theorem z5G {b:Bool}{it a:Addr}{k:Nat}{its:Array Value}{Q:Value→Shared→Prop} (hh:A.handled=none) (hit:SIt b s.heap it a k) (hl:SAt b s.heap a its) (hx:its[k]? =none)
 (hE:∀h' e,Heap.ExtBut it s.heap h'→(∃o,h'.get? e=some o∧o.cls= .type "StopIteration")→E (.ref e) {s with heap:=h'}):wpAny (model prog w) A (Builtin.SmallTypes.nextOf (.ref it)) Q E s:=by
 cases b with
 |true=>exact wpAny_nextOf_list_end hh hit hl hx hE
 |false=>
  have hit':s.heap.IsTupleIter it a k:=hit
  obtain⟨ob,e1,c1,d1⟩:=id hit'
  obtain⟨ol,e2,_,nl,d2⟩:=hl
  unfold Builtin.SmallTypes.nextOf
  refine wpAny_bind (wpAny_callSpecial?_slot (name:=Str.ofString "__next__") hit'.typeIs F.slot_tuple_iterator_next (wpAny_call_entry F.slot_tuple_iterator_next hit'.typeIs F.entry_tuple_iterator_next ?_ (F.args_tuple_iterator_next_1 _)))
  show wpAny _ _ (field (.ref it) 0>>= _) _ _ s
  refine wpAny_bind (wpAny_field e1 d1 (x:= .ref a) rfl ?_)
  rw[if_neg (show ¬((Value.ref a==Value.none)=true) from q0B)]
  show wpAny _ _ (field (.ref it) 1>>= _) _ _ s
  refine wpAny_bind (wpAny_field e1 d1 (x:= .int k 0) rfl ?_)
  show wpAny _ _ (seqItems? (.ref a)>>= _) _ _ s
  refine wpAny_bind (wpAny_seqItems e2 d2 ?_)
  simp only[q0G,hx]
  refine wpAny_bind (wpAny_rule (wpAny_bind (wpAny_setField e1 d1 (by simp) ?_)))
  show wpAny _ _ (newExc (.type "StopIteration") []>>= _) _ _ _
  refine wpAny_bind ?_
  simp only[newExc,newTuple]
  refine wpAny_bind (wpAny_newObj_type ?_ (by size_fits))
  refine wpAny_bind (m:=firstArgMember _ _) (wpAny_of_eq (a:=Value.none) (by first|rfl|(simp only[firstArgMember];rfl)) ?_)
  refine wpAny_newObj_type ?_ (by size_fits)
  simp only[raiseNew]
  refine wpAny_bind (wpAny_handled ?_)
  first|rw[show A.in1.handled=none from hh]|rw[hh]
  refine wpAny_bind (wpAny_pure (wpAny_throw ?_))
  exact hE _ _ (((Heap.SameBut.update ..).extBut.push _).push _) ⟨_,q0q _ rfl,rfl⟩
end
end L2
namespace L2
open PySem PySem.Spec PyProof.Rows
structure ZAp (z TI TO i j:Addr):Prop where
 a1:TI≠z
 a2:TO≠z
 a3:i≠z
 a4:j≠z
 a5:TI≠TO
 a6:TI≠i
 a7:TI≠j
 a8:TO≠i
 a9:TO≠j
 a10:i≠j
section
variable {prog:Program}{w:World}{A:Around}{E:Value→Shared→Prop}{s:Shared}
theorem y1S {b c:Bool}{z TI TO i j l m:Addr}{k n:Nat}{xs ys:Array Value}{x y u v:Value}{Q:Value→Shared→Prop} (D:ZAp z TI TO i j) (lz:m≠z) (lT:m≠TO) (lz':l≠z)
 (hz:IsZip s.heap z TI TO .none) (hTI:IsPair s.heap TI (.ref i) (.ref j)) (hTO:IsPair s.heap TO u v)
 (h1:SIt b s.heap i l k) (h2:SIt c s.heap j m n) (hl:SAt b s.heap l xs) (hm:SAt c s.heap m ys) (hx:xs[k]? =some x) (hy:ys[n]? =some y)
 (hQ:∀h',IsZip h' z TI TO (rawInt s.heap.objs.size)→IsPair h' TO x y→SIt b h' i l (k+1)→SIt c h' j m (n+1)→IsPair h' s.heap.objs.size x y→h'.objs.size=s.heap.objs.size+1→
  (∀p o,p≠z→p≠TO→p≠i→p≠j→s.heap.get? p=some o→h'.get? p=some o)→Q (.ref s.heap.objs.size) {s with heap:=h'}):
 wpAny (model prog w) A (Builtin.«zip.__next__» ⟨[.ref z],[]⟩) (fun fin s'=>∃v,fin= .done (.ret v)∧Q v s') E s:=by
 have mi:m≠i:=h1.ne_at hm
 show wpAny _ _ (field (.ref z) 2>>= _) _ _ _
 refine wpAny_bind (wpAny_field hz rfl (x:= .bool false) rfl ?_)
 show wpAny _ _ (field (.ref z) 3>>= _) _ _ _
 refine wpAny_bind (wpAny_field hz rfl (x:= .ref TI) rfl (wpAny_bind (wpAny_seqItems hTI rfl ?_)))
 show wpAny _ _ (Builtin.SmallTypes.ownedTupleIsFree (.ref z)>>= _) _ _ _
 refine wpAny_bind ?_
 unfold Builtin.SmallTypes.ownedTupleIsFree
 refine wpAny_bind (wpAny_field hz rfl (x:= .none) rfl (wpAny_pure ?_))
 simp only[if_true]
 refine wpAny_bind (wpAny_rule (wpAny_bind (wpAny_field hz rfl (x:= .ref TO) rfl (wpAny_bind (wpAny_setField_rec hz (by simp) fun g1 z1 d1=>?_)))))
 replace z1:IsZip g1 z TI TO .ellipsis :=z1
 refine wpAny_bind ?_
 simp only[List.zipIdx_cons,List.zipIdx_nil,List.forIn_cons,List.forIn_nil]
 refine wpAny_bind (wpAny_bind (wpAny_onRaise ?_))
 show wpAny _ _ (Builtin.SmallTypes.nextOf (.ref i)>>= _) _ _ _
 refine wpAny_bind (z3i (h1.keep fun o e=>d1.extBut _ o D.a3 e) (hl.keep fun o e=>d1.extBut _ o lz' e) hx fun g2 i2 d2=>wpAny_pure ?_)
 have TO2:IsPair g2 TO u v:=d2.extBut _ _ D.a8 (d1.extBut _ _ D.a2 hTO)
 refine wpAny_bind (wpAny_seqItems TO2 rfl (wpAny_bind (wpAny_updateSeq_pair TO2 fun g3 TO3 d3=>?_)))
 replace TO3:IsPair g3 TO x v:=TO3
 refine wpAny_bind (wpAny_letGo (wpAny_pure ?_))
 refine wpAny_bind (wpAny_bind (wpAny_onRaise ?_))
 show wpAny _ _ (Builtin.SmallTypes.nextOf (.ref j)>>= _) _ _ _
 refine wpAny_bind (z3i (h2.keep fun o e=>d3.extBut _ o D.a9.symm (d2.extBut _ o D.a10.symm (d1.extBut _ o D.a4 e))) (hm.keep fun o e=>d3.extBut _ o lT (d2.extBut _ o mi (d1.extBut _ o lz e))) hy fun g4 j4 d4=>wpAny_pure ?_)
 have TO4:IsPair g4 TO x v:=d4.extBut _ _ D.a9 TO3
 refine wpAny_bind (wpAny_seqItems TO4 rfl (wpAny_bind (wpAny_updateSeq_pair TO4 fun g5 TO5 d5=>?_)))
 replace TO5:IsPair g5 TO x y:=TO5
 refine wpAny_bind (wpAny_letGo (wpAny_pure (wpAny_pure ?_)))
 refine wpAny_bind (wpAny_seqItems TO5 rfl (wpAny_bind (wpAny_newTuple ?_)))
 have sz:g5.objs.size=s.heap.objs.size:=by rw[d5.1,d4.1,d3.1,d2.1,d1.1]
 have z5:IsZip g5 z TI TO .ellipsis :=d5.extBut _ _ D.a2.symm (d4.extBut _ _ D.a4.symm (d3.extBut _ _ D.a2.symm (d2.extBut _ _ D.a3.symm z1)))
 have k5:∀p o,p≠z→p≠TO→p≠i→p≠j→s.heap.get? p=some o→g5.get? p=some o:=fun p o c1 c2 c3 c4 e=>d5.extBut _ _ c2 (d4.extBut _ _ c4 (d3.extBut _ _ c2 (d2.extBut _ _ c3 (d1.extBut _ _ c1 e))))
 have i5:SIt b g5 i l (k+1):=i2.keep fun o e=>d5.extBut _ o D.a8.symm (d4.extBut _ o D.a10 (d3.extBut _ o D.a8.symm e))
 have j5:SIt c g5 j m (n+1):=j4.keep fun o e=>d5.extBut _ o D.a9.symm e
 have zl:z<g5.objs.size:=q0p z5
 show wpAny _ _ (Builtin.SmallTypes.ownedTupleHandOut (.ref z) (.ref g5.objs.size)>>= _) _ _ _
 refine wpAny_bind ?_
 unfold Builtin.SmallTypes.ownedTupleHandOut
 have z6:IsZip (g5.push {cls:= .type "tuple",data:= .seq #[x,y]}) z TI TO .ellipsis :=q0d _ z5
 refine wpAny_bind (wpAny_setField_rec z6 (by simp) fun g7 z7 d7=>?_)
 replace z7:IsZip g7 z TI TO (rawInt g5.objs.size):=z7
 refine wpAny_setField_rec z7 (by simp) fun g8 z8 d8=>?_
 replace z8:IsZip g8 z TI TO (rawInt g5.objs.size):=z8
 have up:∀p o,p≠z→g5.get? p=some o→g8.get? p=some o:=fun p o c1 e=>d8.extBut _ _ c1 (d7.extBut _ _ c1 (q0d _ e))
 have T8:IsPair g8 g5.objs.size x y:=d8.extBut _ _ (Nat.ne_of_gt zl) (d7.extBut _ _ (Nat.ne_of_gt zl) (q0q _ rfl))
 have s8:g8.objs.size=g5.objs.size+1:=by rw[d8.1,d7.1,q1z]
 rw[sz] at z8 T8 s8
 refine wpAny_pure ⟨_,rfl,?_⟩
 show Q (.ref g5.objs.size) _
 rw[sz]
 exact hQ g8 z8 (up _ _ D.a2 TO5) (i5.keep fun o e=>up _ o D.a3 e) (j5.keep fun o e=>up _ o D.a4 e) T8 s8 fun p o c1 c2 c3 c4 e=>up p o c1 (k5 p o c1 c2 c3 c4 e)
theorem y3X {b c:Bool}{z TI TO i j l m:Addr}{k n:Nat}{xs ys:Array Value}{u v:Value}{Q:Fin→Shared→Prop} (hh:A.handled=none) (D:ZAp z TI TO i j) (lz:m≠z) (lT:m≠TO) (lz':l≠z)
 (hz:IsZip s.heap z TI TO .none) (hTI:IsPair s.heap TI (.ref i) (.ref j)) (hTO:IsPair s.heap TO u v)
 (h1:SIt b s.heap i l k) (h2:SIt c s.heap j m n) (hl:SAt b s.heap l xs) (hm:SAt c s.heap m ys) (hend:xs[k]? =none∨ys[n]? =none)
 (hE:∀h' e,(∀p o,p≠z→p≠TO→p≠i→p≠j→s.heap.get? p=some o→h'.get? p=some o)→(∃o,h'.get? e=some o∧o.cls= .type "StopIteration")→E (.ref e) {s with heap:=h'}):
 wpAny (model prog w) A (Builtin.«zip.__next__» ⟨[.ref z],[]⟩) Q E s:=by
 have mi:m≠i:=h1.ne_at hm
 show wpAny _ _ (field (.ref z) 2>>= _) _ _ _
 refine wpAny_bind (wpAny_field hz rfl (x:= .bool false) rfl ?_)
 show wpAny _ _ (field (.ref z) 3>>= _) _ _ _
 refine wpAny_bind (wpAny_field hz rfl (x:= .ref TI) rfl (wpAny_bind (wpAny_seqItems hTI rfl ?_)))
 show wpAny _ _ (Builtin.SmallTypes.ownedTupleIsFree (.ref z)>>= _) _ _ _
 refine wpAny_bind ?_
 unfold Builtin.SmallTypes.ownedTupleIsFree
 refine wpAny_bind (wpAny_field hz rfl (x:= .none) rfl (wpAny_pure ?_))
 simp only[if_true]
 refine wpAny_bind (wpAny_rule (wpAny_bind (wpAny_field hz rfl (x:= .ref TO) rfl (wpAny_bind (wpAny_setField_rec hz (by simp) fun g1 z1 d1=>?_)))))
 replace z1:IsZip g1 z TI TO .ellipsis :=z1
 refine wpAny_bind ?_
 simp only[List.zipIdx_cons,List.zipIdx_nil,List.forIn_cons,List.forIn_nil]
 refine wpAny_bind (wpAny_bind (wpAny_onRaise ?_))
 show wpAny _ _ (Builtin.SmallTypes.nextOf (.ref i)>>= _) _ _ _
 cases hx:xs[k]? with
 |none=>
  refine wpAny_bind (z5G hh (h1.keep fun o e=>d1.extBut _ o D.a3 e) (hl.keep fun o e=>d1.extBut _ o lz' e) hx fun g2 e d2 he=>?_)
  obtain⟨oe,hoe,hce⟩:=he
  have z2:IsZip g2 z TI TO .ellipsis :=d2 _ _ D.a3.symm z1
  have hez:e≠z:=fun q=>by subst q;rw[z2] at hoe;cases hoe;simp at hce
  exact wpAny_setField_rec z2 (by simp) fun g3 _ d3=>hE g3 e (fun p o c1 _ c3 _ q=>d3.extBut _ _ c1 (d2 _ _ c3 (d1.extBut _ _ c1 q))) ⟨oe,d3.extBut _ _ hez hoe,hce⟩
 |some x=>
  have hy:ys[n]? =none:=hend.elim (fun h=>by rw[hx] at h;cases h) id
  refine wpAny_bind (z3i (h1.keep fun o e=>d1.extBut _ o D.a3 e) (hl.keep fun o e=>d1.extBut _ o lz' e) hx fun g2 i2 d2=>wpAny_pure ?_)
  have TO2:IsPair g2 TO u v:=d2.extBut _ _ D.a8 (d1.extBut _ _ D.a2 hTO)
  refine wpAny_bind (wpAny_seqItems TO2 rfl (wpAny_bind (wpAny_updateSeq_pair TO2 fun g3 TO3 d3=>?_)))
  refine wpAny_bind (wpAny_letGo (wpAny_pure ?_))
  refine wpAny_bind (wpAny_bind (wpAny_onRaise ?_))
  show wpAny _ _ (Builtin.SmallTypes.nextOf (.ref j)>>= _) _ _ _
  refine wpAny_bind (z5G hh (h2.keep fun o e=>d3.extBut _ o D.a9.symm (d2.extBut _ o D.a10.symm (d1.extBut _ o D.a4 e))) (hm.keep fun o e=>d3.extBut _ o lT (d2.extBut _ o mi (d1.extBut _ o lz e))) hy fun g4 e d4 he=>?_)
  obtain⟨oe,hoe,hce⟩:=he
  have z4:IsZip g4 z TI TO .ellipsis :=d4 _ _ D.a4.symm (d3.extBut _ _ D.a2.symm (d2.extBut _ _ D.a3.symm z1))
  have hez:e≠z:=fun q=>by subst q;rw[z4] at hoe;cases hoe;simp at hce
  exact wpAny_setField_rec z4 (by simp) fun g5 _ d5=>hE g5 e (fun p o c1 c2 c3 c4 q=>d5.extBut _ _ c1 (d4 _ _ c4 (d3.extBut _ _ c2 (d2.extBut _ _ c3 (d1.extBut _ _ c1 q))))) ⟨oe,d5.extBut _ _ hez hoe,hce⟩
theorem z8k {z TI TO:Addr}{f0:Value}{Q:Option Value→Shared→Prop} (hz:IsZip s.heap z TI TO f0)
 (h:wpAny (model prog w) A.in1 (Builtin.«zip.__next__» ⟨[.ref z],[]⟩) (fun fin s'=>∃v,fin= .done (.ret v)∧Q (some v) s') (fun e s'=>(∃a o,e= .ref a∧s'.heap.get? a=some o∧o.cls= .type "StopIteration")∧Q none s') s):wpAny (model prog w) A (pyNext (.ref z)) Q E s:=by
 have hT:s.TypeIs (.ref z) "zip":=⟨_,hz,rfl⟩
 unfold pyNext
 refine wpAny_bind (wpAny_attempt (wpAny_callSpecial?_slot (name:=Str.ofString "__next__") hT F.slot_zip_next (wpAny_call_entry F.slot_zip_next hT F.entry_zip_next ?_ (F.args_zip_next_1 _))))
 refine wpAny_mono h (fun fin s' ⟨v,e,q⟩=>⟨v,e,wpAny_pure q⟩) fun e s' ⟨⟨a,o,e1,e2,e3⟩,q⟩=>?_
 subst e1
 exact wpAny_bind (wpAny_isInstance (T:="StopIteration") (b:=true) ⟨o,e2,e3⟩ isSubtype_stop (wpAny_pure q))
end
end L2
namespace L2
open PySem PySem.Spec PyProof.Rows
def itN (b:Bool):String:=match b with
 |true=>"list_iterator"
 |false=>"tuple_iterator"
abbrev itO (b:Bool) (a:Addr):Obj:={cls:= .type (itN b),data:= .fields #[.ref a,.int 0 0]}
theorem SAt.push {b:Bool}{h:Heap}{a:Addr}{its:Array Value} (x:SAt b h a its) (o:Obj):SAt b (h.push o) a its:=x.keep fun _ e=>q0d _ e
theorem SIt.new {b:Bool}{h:Heap}{a:Addr}:SIt b (h.push (itO b a)) h.objs.size a 0:=by
 cases b with
 |true=>exact⟨_,Heap.get?_push_size _ rfl,rfl,rfl⟩
 |false=>exact⟨_,Heap.get?_push_size _ rfl,rfl,rfl⟩
section
variable {prog:Program}{w:World}{A:Around}{E:Value→Shared→Prop}{s:Shared}
theorem z4C {b:Bool}{a:Addr}{its:Array Value}{Q:Value→Shared→Prop} (h:SAt b s.heap a its) (q:Q (.ref s.heap.objs.size) {s with heap:=s.heap.push (itO b a)}):wpAny (model prog w) A (pyIter (.ref a)) Q E s:=by
 cases b with
 |true=>exact wpAny_pyIter_list (show s.heap.IsList a its from h) q
 |false=>exact wpAny_pyIter_tuple (show s.heap.IsTuple a its from h) q
end
abbrev zA (h:Heap) (b:Bool) (l:Addr):Heap:=h.push (itO b l)
abbrev zB (h:Heap) (b c:Bool) (l m:Addr):Heap:=(zA h b l).push (itO c m)
abbrev zC (h:Heap) (b c:Bool) (l m:Addr):Heap:=(zB h b c l m).push {cls:= .type "tuple",data:= .seq #[.ref h.objs.size,.ref (zA h b l).objs.size]}
abbrev zD (h:Heap) (b c:Bool) (l m:Addr):Heap:=(zC h b c l m).push {cls:= .type "tuple",data:= .seq #[.none,.none]}
abbrev zE (h:Heap) (b c:Bool) (l m:Addr):Heap:=(zD h b c l m).push {cls:= .type "zip",data:= .fields #[.none,.bool false,.bool false,.ref (zB h b c l m).objs.size,.ref (zC h b c l m).objs.size]}
theorem y0K (b c:Bool) (l m:Addr) (xs ys:Array Value):
 Meets (Builtin.«zip.__new__» ⟨[.type "zip",.ref l,.ref m],[]⟩) (fun _ R s=>SAt b s.heap l xs∧SAt c s.heap m ys∧R (.ok (.ret (.ref (zD s.heap b c l m).objs.size))) {s with heap:=zE s.heap b c l m}):=
 .of_wp fun prog w A R s h=>by
  obtain⟨hp,g,d,tk,os⟩:=s;obtain⟨h1,h2,h⟩:=h
  have hsub:=sub_zip
  have k1:SAt b (Shared.heap ⟨hp,g,d,tk,os⟩) l xs:=h1
  have k2:SAt c (Shared.heap ⟨hp.push (itO b l),g,d,tk,os⟩) m ys:=SAt.push h2 _
  wp_walk using z4C k1,z4C k2
  exact⟨_,rfl,h⟩
section
variable {prog:Program}{w:World}{A:Around}{E:Value→Shared→Prop}{s:Shared}
theorem y3a {b c:Bool}{l m:Addr}{xs ys:Array Value}{Q:Value→Shared→Prop} (hl:SAt b s.heap l xs) (hm:SAt c s.heap m ys)
 (h:∀h',IsZip h' (s.heap.objs.size+4) (s.heap.objs.size+2) (s.heap.objs.size+3) .none →IsPair h' (s.heap.objs.size+2) (.ref s.heap.objs.size) (.ref (s.heap.objs.size+1))→IsPair h' (s.heap.objs.size+3) .none .none →
  SIt b h' s.heap.objs.size l 0→SIt c h' (s.heap.objs.size+1) m 0→(∀p o,s.heap.get? p=some o→h'.get? p=some o)→Q (.ref (s.heap.objs.size+4)) {s with heap:=h'}):
 wpAny (model prog w) A (call (.type "zip") [.ref l,.ref m]) Q E s:=by
 refine callType_new F.called_zip (by decide) (F.typeCall_zip_2 _ _) (F.newCall_zip_2 _ _) (fun obj=>F.args_object_init_3 obj _ _) F.entry_zip_new (y0K b c l m xs ys) ⟨hl,hm,?_⟩
 have z1:(zA s.heap b l).objs.size =s.heap.objs.size+1:=q1z ..
 have z2:(zB s.heap b c l m).objs.size =s.heap.objs.size+2:=by rw[q1z,z1]
 have z3:(zC s.heap b c l m).objs.size =s.heap.objs.size+3:=by rw[q1z,z2]
 have z4:(zD s.heap b c l m).objs.size =s.heap.objs.size+4:=by rw[q1z,z3]
 have g5:(zE s.heap b c l m).get? (zD s.heap b c l m).objs.size =some _:=q0q _ rfl
 have g4:(zE s.heap b c l m).get? (zC s.heap b c l m).objs.size =some _:=q0d _ (q0q _ rfl)
 have g3:(zE s.heap b c l m).get? (zB s.heap b c l m).objs.size =some _:=q0d _ (q0d _ (q0q _ rfl))
 have g2:SIt c (zE s.heap b c l m) (zA s.heap b l).objs.size m 0:=SIt.new.keep fun o e=>q0d _ (q0d _ (q0d _ e))
 have g1:SIt b (zE s.heap b c l m) s.heap.objs.size l 0:=SIt.new.keep fun o e=>q0d _ (q0d _ (q0d _ (q0d _ e)))
 show _∧_
 rw[z2,z3,z4] at g5
 rw[z1,z2] at g3
 rw[z3] at g4
 rw[z1] at g2
 rw[z4]
 exact⟨⟨_,g5,rfl⟩,h _ g5 g3 g4 g1 g2 fun p o e=>q0d _ (q0d _ (q0d _ (q0d _ (q0d _ e))))⟩
end
def SqB (b:Bool) (K:PySem.W.Frag) (H:Hp) (a:Addr) (xs:List V):Prop:=match b with
 |true=>SqL K H a xs
 |false=>SqT K H a xs
section
variable {X:Cx}{pins:List (Addr×Obj)}{σ:St}{H:Hp}{s:Shared}{a:Addr}{xs ys:List V}{b:Bool}
theorem SqA.toB {K:PySem.W.Frag} (h:SqA K H a xs):∃b,SqB b K H a xs:=by
 rcases h with h|h
 ·exact⟨true,h⟩
 ·exact⟨false,h⟩
theorem Inv.sq (I:Inv X pins σ H s) (h:SqB b X.K H a xs):∃its:List Value,Vals xs its∧SAt b s.heap a its.toArray∧xs.length≤sizeLine:=by
 cases b with
 |true=>obtain⟨its,r,p,z⟩:=I.list h;exact⟨its,r,p.isList,z⟩
 |false=>obtain⟨its,r,p,z⟩:=I.tuple h;exact⟨its,r,p,z⟩
theorem Inv.sq_inj (I:Inv X pins σ H s) (h:SqB b X.K H a xs) (h':SqB b X.K H a ys):xs=ys:=by
 cases b with
 |true=>exact I.list_inj h h'
 |false=>exact I.tuple_inj h h'
theorem Inv.sq_ne (I:Inv X pins σ H s) (h:SqB b X.K H a xs) {c:Addr} (f:y1Q X pins H c):a≠c:=by
 have tr:∀u,Rd H a u→a≠c:=fun u r z=>by
  subst z
  rcases r with r|⟨o,r⟩
  ·rw[f.1] at r;cases r
  ·rw[f.1] at r;cases r
 have kn:∀o,X.K.lookup a=some o→a≠c:=fun o e z=>by
  subst z
  have eb:=I.ok.mod.kin a o e
  rcases f.2.2.2.1 with q|q
  ·exact I.ok.noex a o eb q
  ·exact absurd (q0K (q0p (I.ok.bs a o eb).1) q) (q1Q _)
 cases b with
 |true=>
  rcases h with h|⟨o,_,_,e,_⟩
  ·exact tr _ h
  ·exact kn o e
 |false=>
  rcases h with h|⟨o,_,_,e,_⟩
  ·exact tr _ h
  ·exact kn o e
end
def Itz (K:PySem.W.Frag) (b c:Bool) (l m:Addr):It:=
 ⟨fun i H=>∃xs ys x y,SqB b K H l xs∧SqB c K H m ys∧xs[i]? =some x∧ys[i]? =some y,
  fun i H x H'=>∃p u v,x= .ref p∧H p=none∧(∀xs,SqB b K H l xs→xs[i]? =some u)∧(∀ys,SqB c K H m ys→ys[i]? =some v)∧H'=upd H p (.tup [u,v]),
  fun i H=>∃xs ys,SqB b K H l xs∧SqB c K H m ys∧(xs.length≤i∨ys.length≤i)⟩
theorem y1Y {P:Program}{w:World}{K:PySem.W.Frag}{elts:List Expr}{kk:Nat}{pos:Pos} (b c:Bool) (l m z TI TO i j:Addr) (D:ZAp z TI TO i j):
 y3T P w K (.Tuple elts kk pos) (Itz K b c l m) [z,TI,TO,i,j] z (fun k h=>IsZip h z TI TO .none ∧IsPair h TI (.ref i) (.ref j)∧(∃u v,IsPair h TO u v)∧SIt b h i l k∧SIt c h j m k) where
 mem:=by simp
 obj:=fun k h st q hq=>by
  obtain⟨t1,t2,⟨u,v,t3⟩,t4,t5⟩:=st
  have fin:∀(o:Obj),(∃v,o.data= .fields v)∨(∃a n,o.data= .seq a n)→∀v,o.data≠ .cell v:=fun o h v e=>by
    rcases h with⟨w',h⟩|⟨a,n,h⟩<;> ·rw[h] at e;cases e
  simp only[q0l,q1k,or_false] at hq
  rcases hq with rfl|rfl|rfl|rfl|rfl
  ·exact⟨_,t1,fin _ (.inl ⟨_,rfl⟩)⟩
  ·exact⟨_,t2,fin _ (.inr ⟨_,_,rfl⟩)⟩
  ·exact⟨_,t3,fin _ (.inr ⟨_,_,rfl⟩)⟩
  ·obtain⟨o,_,e,_,_,d⟩:=t4.ob;exact⟨o,e,fin _ (.inl ⟨_,d⟩)⟩
  ·obtain⟨o,_,e,_,_,d⟩:=t5.ob;exact⟨o,e,fin _ (.inl ⟨_,d⟩)⟩
 keep:=fun k h h' st f=>by
  obtain⟨t1,t2,⟨u,v,t3⟩,t4,t5⟩:=st
  exact⟨f z (by simp) _ t1,f TI (by simp) _ t2,⟨u,v,f TO (by simp) _ t3⟩,t4.keep fun o e=>f i (by simp) o e,t5.keep fun o e=>f j (by simp) o e⟩
 item:=by
  intro X hP hw hK hc k pins s σ H E I hf st hg
  subst hP hw hK
  obtain⟨xs,ys,x,y,q1,q2,hx,hy⟩:=hg
  obtain⟨its,r1,p1,s1⟩:=I.sq q1
  obtain⟨jts,r2,p2,s2⟩:=I.sq q2
  obtain⟨u,hu,ru⟩:=r1.get hx
  obtain⟨v,hv,rv⟩:=r2.get hy
  obtain⟨t1,t2,⟨u0,v0,t3⟩,t4,t5⟩:=st
  have fz:=hf z (by simp)
  have fO:=hf TO (by simp)
  refine z8k t1 (y1S D (I.sq_ne q2 fz) (I.sq_ne q2 fO) (I.sq_ne q1 fz) t1 t2 t3 t4 t5 p1 p2 (x:=u) (y:=v) (by simpa using hu) (by simpa using hv) fun h' a1 a2 a3 a4 a5 a6 a7=>?_)
  refine⟨_,rfl,wpAny_letOwnedTupleGo_zip a1 fun h2 e2 d2=>?_⟩
  have lt:∀{p o},s.heap.get? p=some o→s.heap.objs.size≠p:=fun e=>Nat.ne_of_gt (q0p e)
  have hT2:h2.get? s.heap.objs.size=some {cls:= .type "tuple",data:= .seq #[u,v]}:=d2.extBut _ _ (lt t1) a5
  have t2':IsPair h2 TI (.ref i) (.ref j):=d2.extBut _ _ D.a1 (a7 _ _ D.a1 D.a5 D.a6 D.a7 t2)
  have I1:Inv X pins σ (upd H s.heap.objs.size (.tup [x,y])) {s with heap:=h2}:=by
   refine I.turnedLaid (t':=s.toks) (fp:=[z,TI,TO,i,j]) hf (fun p ob hp q=>?_) (q0e _) ?_
   ·simp only[q0l,q1k,or_false,not_or] at hp
    exact d2.extBut p ob hp.1 (a7 p ob hp.1 hp.2.2.1 hp.2.2.2.1 hp.2.2.2.2 q)
   ·exact⟨by show 2≤sizeLine;decide,[u,v],.cons ru (.cons rv .nil),_,hT2,rfl,_,rfl⟩
  refine⟨.ref s.heap.objs.size,_,I1,rfl,⟨_,x,y,rfl,I.hok.fresh (q0e _),fun zs hz=>by rw[I.sq_inj hz q1];exact hx,fun zs hz=>by rw[I.sq_inj hz q2];exact hy,rfl⟩,
   ⟨e2,t2',⟨_,_,d2.extBut _ _ D.a2 a2⟩,a3.keep fun o e=>d2.extBut _ o D.a3 e,a4.keep fun o e=>d2.extBut _ o D.a4 e⟩,fun p hp=>?_⟩
  have hlt:p<s.heap.objs.size:=by
   simp only[q0l,q1k,or_false] at hp
   rcases hp with rfl|rfl|rfl|rfl|rfl
   ·exact q0p t1
   ·exact q0p t2
   ·exact q0p t3
   ·obtain⟨o,_,e,_⟩:=t4.ob;exact q0p e
   ·obtain⟨o,_,e,_⟩:=t5.ob;exact q0p e
  rw[z0m (q0r hlt)]
  exact (hf p hp).1
 done:=by
  intro X hP hw hK hc k pins s σ H E I hf st hg
  subst hP hw hK
  obtain⟨xs,ys,q1,q2,hend⟩:=hg
  obtain⟨its,r1,p1,s1⟩:=I.sq q1
  obtain⟨jts,r2,p2,s2⟩:=I.sq q2
  obtain⟨t1,t2,⟨u0,v0,t3⟩,t4,t5⟩:=st
  have fz:=hf z (by simp)
  have fO:=hf TO (by simp)
  have l1:=r1.length
  have l2:=r2.length
  refine z8k t1 (y3X (I.ok.hd hc) D (I.sq_ne q2 fz) (I.sq_ne q2 fO) (I.sq_ne q1 fz) t1 t2 t3 t4 t5 p1 p2 (by simp;lia) fun h' e a7 he=>⟨let ⟨o,e1,e2⟩:=he;⟨e,o,rfl,e1,e2⟩,rfl,?_⟩)
  refine I.turnedAll (t':=s.toks) (fp:=[z,TI,TO,i,j]) hf fun p ob hp q=>?_
  simp only[q0l,q1k,or_false,not_or] at hp
  exact a7 p ob hp.1 hp.2.2.1 hp.2.2.2.1 hp.2.2.2.2 q
 self:=fun _ _ _ _ _ st h=>wpAny_pyIter_zip st.1 h
section
variable {X:Cx}
def iZip (tl:TA):TI:=fun σ H R=>tl σ H fun vs H1=>∃l m b c xs ys,vs=[.ref l,.ref m]∧SqB b X.K H1 l xs∧SqB c X.K H1 m ys∧R (Itz X.K b c l m) H1
theorem y5t {elts:List Expr}{k:Nat}{tpos:Pos}{l m:Expr}{tl:TA}{p pos:Pos} (hg:Gl X "zip") (hm:X.mg "zip"=none) (ha:PA X [l,m] tl) (hs:starEach [l,m] X.env=[(false,eval l X.env),(false,eval m X.env)]:=by rfl) (hs2:starEach [m] X.env=[(false,eval m X.env)]:=by rfl):
 PI X (.Tuple elts k tpos) (.Call (.Name "zip" p) [l,m] [] pos) (iZip (X:=X) tl):=by
 intro pins s σ H R I h
 refine Call_ (z3P I hg hm boot_zip (PyProof.Rows.callWith_type1 (thn (ha pos pins s σ H _ I h) fun us s1 ⟨vs,H1,I1,r1,q1⟩=>?_) (by rw[hs,hs2]) (by rw[hs2];rfl)))
 obtain⟨a,b,bb,bc,xs,ys,e,q1,q2,q⟩:=q1
 subst e
 cases r1 with
 |cons r rr=>
  cases rr with
  |cons r' rr=>
   cases rr
   cases r
   cases r'
   obtain⟨its,v1,p1,_⟩:=I1.sq q1
   obtain⟨jts,v2,p2,_⟩:=I1.sq q2
   refine y3a p1 p2 fun h' z1 z2 z3 z4 z5 kp=>wpAny_pyIter_zip z1 ?_
   have I2:Inv X pins σ H1 {s1 with heap:=h'}:=I1.kept (t':=s1.toks) kp
   have ne:∀x y:Nat,x≠y→s1.heap.objs.size+x≠s1.heap.objs.size+y:=fun x y h e=>h (Nat.add_left_cancel e)
   have D:ZAp (s1.heap.objs.size+4) (s1.heap.objs.size+2) (s1.heap.objs.size+3) s1.heap.objs.size (s1.heap.objs.size+1):=
        ⟨ne 2 4 (by decide),ne 3 4 (by decide),ne 0 4 (by decide),ne 1 4 (by decide),ne 2 3 (by decide),ne 2 0 (by decide),ne 2 1 (by decide),ne 3 0 (by decide),ne 3 1 (by decide),ne 0 1 (by decide)⟩
   refine⟨_,[s1.heap.objs.size+4,s1.heap.objs.size+2,s1.heap.objs.size+3,s1.heap.objs.size,s1.heap.objs.size+1],_,_,H1,rfl,I2,y1Y bb bc a b _ _ _ _ _ D,⟨z1,z2,⟨_,_,z3⟩,z4,z5⟩,fun c hc=>?_,q⟩
   have le:s1.heap.objs.size≤c:=by
        simp only[q0l,q1k,or_false] at hc
        rcases hc with rfl|rfl|rfl|rfl|rfl
        ·exact Nat.le_add_right _ _
        ·exact Nat.le_add_right _ _
        ·exact Nat.le_add_right _ _
        ·exact q0e _
        ·exact Nat.le_add_right _ _
   exact I1.fpOk le (I1.hok.fresh le)
end
end L2
namespace L2
open PySem PySem.Spec PyProof.Rows
structure z6a (J:It) (n:Nat) (Ok:Hp→Prop) (yl:Nat→Hp→V→Hp→Prop):Prop where
 go:∀i H,Ok H→i<n→J.go i H
 stop:∀H,Ok H→J.stop n H
 yld:∀i H x H',Ok H→i<n→J.yld i H x H'→yl i H x H'
theorem z0v (K:PySem.W.Frag) (a:Addr) (xs:List V):z6a (Itl K a) xs.length (fun H=>SqL K H a xs) (fun i H x H'=>H'=H∧xs[i]? =some x) where
 go:=fun i H h hi=>⟨xs,xs[i],h,by simp[hi]⟩
 stop:=fun H h=>⟨xs,h,q0e _⟩
 yld:=fun i H x H' h hi y=>⟨y.1,y.2 xs h⟩
theorem z5y (K:PySem.W.Frag) (a:Addr) (xs:List V):z6a (Itt K a) xs.length (fun H=>SqT K H a xs) (fun i H x H'=>H'=H∧xs[i]? =some x) where
 go:=fun i H h hi=>⟨xs,xs[i],h,by simp[hi]⟩
 stop:=fun H h=>⟨xs,h,q0e _⟩
 yld:=fun i H x H' h hi y=>⟨y.1,y.2 xs h⟩
theorem z1D (lo:Int) (n:Nat):z6a (Itr lo n) n (fun _=>True) (fun i H x H'=>H'=H∧x= .int (lo+i)) where
 go:=fun i H h hi=>hi
 stop:=fun H h=>q0e _
 yld:=fun i H x H' h hi y=>y
theorem z6r (K:PySem.W.Frag) (a:Addr) (xs:List V):z6a (Ite K a) xs.length (fun H=>SqL K H a xs) (fun i H x H'=>∃p v,x= .ref p∧H p=none∧xs[i]? =some v∧H'=upd H p (.tup [.int i,v])) where
 go:=fun i H h hi=>⟨xs,xs[i],h,by simp[hi]⟩
 stop:=fun H h=>⟨xs,h,q0e _⟩
 yld:=fun i H x H' h hi y=>let ⟨p,v,e,hn,hv,e2⟩:=y;⟨p,v,e,hn,hv xs h,e2⟩
theorem y2j (K:PySem.W.Frag) (b c:Bool) (l m:Addr) (xs ys:List V):z6a (Itz K b c l m) (min xs.length ys.length) (fun H=>SqB b K H l xs∧SqB c K H m ys)
 (fun i H x H'=>∃p u v,x= .ref p∧H p=none∧xs[i]? =some u∧ys[i]? =some v∧H'=upd H p (.tup [u,v])) where
 go:=fun i H h hi=>⟨xs,ys,xs[i]'(by lia),ys[i]'(by lia),h.1,h.2,by simp,by simp⟩
 stop:=fun H h=>⟨xs,ys,h.1,h.2,by lia⟩
 yld:=fun i H x H' h hi y=>let ⟨p,u,v,e,hn,hu,hv,e2⟩:=y;⟨p,u,v,e,hn,hu xs h.1,hv ys h.2,e2⟩
theorem z0H {J:It}{n:Nat}{Ok:Hp→Prop}{yl:Nat→Hp→V→Hp→Prop} (R:z6a J n Ok yl) {g:TG}{tb:TS}{D:y3V}{σ:St}{H:Hp} (Pv:Nat→St→Hp→Prop) (h0:Pv 0 σ H) (hl:∀i σ H,i≤n→Pv i σ H→Ok H)
 (hs:∀i x σ H H',i<n→Pv i σ H→yl i H x H'→g x σ H' fun σ2 H2=>tb {D with nx:=Pv (i+1),ct:=Pv (i+1),bk:=D.nx} σ2 H2) (hd:∀σ H,Pv n σ H→D.nx σ H):
 ∃W:Nat→Nat→St→Hp→Prop,(∃m,W 0 m σ H)∧∀i m σ H,W i m σ H→
  (J.stop i H∧D.nx σ H)∨(J.go i H∧∃N:St→Hp→Prop,(∀σ' H',N σ' H'→∃m',m'<m∧W (i+1) m' σ' H')∧∀x H',J.yld i H x H'→g x σ H' fun σ2 H2=>tb {D with nx:=N,ct:=N,bk:=D.nx} σ2 H2):=by
 refine⟨fun i m σ H=>m=n - i∧i≤n∧Pv i σ H,⟨n,by simp,q0S _,h0⟩,?_⟩
 rintro i m σ H ⟨rfl,hi,p⟩
 have q:=hl i σ H hi p
 by_cases hlt:i<n
 ·exact .inr ⟨R.go i H q hlt,Pv (i+1),fun σ' H' p'=>⟨n - (i+1),by lia,rfl,hlt,p'⟩,fun x H' y=>hs i x σ H H' hlt p (R.yld i H x H' q hlt y)⟩
 ·have e:i=n:=by lia
  subst e
  exact .inl ⟨R.stop H q,hd σ H p⟩
theorem z4H {J:It}{n:Nat}{Ok:Hp→Prop}{yl:Nat→Hp→V→Hp→Prop} (R:z6a J n Ok yl) {fr:List (Option Nat)}{g:TG}{tt:TT}{te:TE}{σ:St}{H1:Hp}{Q:VK}{D:Addr} (Pv:Nat→List V→St→Hp→Prop)
 (h0:Pv 0 [] (z0G fr σ) (upd H1 D (.lst []))) (hl:∀i acc σ H,i≤n→Pv i acc σ H→Ok H∧acc.length≤i) (hn:n≤sizeLine)
 (hs:∀(N:Bool→V→St→Hp→Prop) (i:Nat) (x:V) (acc:List V) (σ:St) (H H':Hp),i<n→Pv i acc σ H→yl i H x H'→
  (∀v σ2 H4,H4 D=some (.lst acc)→Pv (i+1) (acc++[v]) σ2 (upd H4 D (.lst (acc++[v])))→N true v σ2 H4)→(∀σ2 H3,Pv (i+1) acc σ2 H3→N false .non σ2 H3)→
  g x σ H' fun σ2 H2=>tt σ2 H2 fun b H3=>if b=true then te σ2 H3 fun v H4=>N true v σ2 H4 else N false .non σ2 H3)
 (hd:∀acc σ H,Pv n acc σ H→Q (.ref D) H):
 z3U J g tt te Q D (z0G fr σ) (upd H1 D (.lst [])):=by
 refine⟨fun i m σ H=>m=n - i∧i≤n∧∃acc,Pv i acc σ H,⟨n,by simp,q0S _,[],h0⟩,?_⟩
 rintro i m σ H ⟨em,hi,acc,p⟩
 obtain⟨q,ha⟩:=hl i acc σ H hi p
 by_cases hlt:i<n
 ·refine .inr ⟨R.go i H q hlt,fun x H' y=>?_⟩
  exact hs (fun b v σ2 H4=>match b with|true=>∃acc' m',H4 D=some (.lst acc')∧acc'.length<sizeLine∧m'<m∧(m'=n - (i+1)∧i+1≤n∧∃acc2,Pv (i+1) acc2 σ2 (upd H4 D (.lst (acc'++[v]))))|false=>∃m',m'<m∧(m'=n - (i+1)∧i+1≤n∧∃acc2,Pv (i+1) acc2 σ2 H4))
   i x acc σ H H' hlt p (R.yld i H x H' q hlt y) (fun v σ2 H4 e pv=>⟨acc,n - (i+1),e,by lia,by lia,rfl,hlt,_,pv⟩) (fun σ2 H3 pv=>⟨n - (i+1),by lia,rfl,hlt,_,pv⟩)
 ·have e:i=n:=by lia
  subst e
  exact .inl ⟨R.stop H q,hd acc σ H p⟩
theorem z0E {α:Type} (xs:List α):xs.filter (fun _=>true)=xs:=List.filter_eq_self.mpr fun _ _=>rfl
theorem z1e {J:It}{n:Nat}{Ok:Hp→Prop}{xs:List V} (hx:n=xs.length) (R:z6a J n Ok (fun i H x H'=>H'=H∧xs[i]? =some x)) {fr:List (Option Nat)}{tt:TT}{te:TE}{σ:St}{H1:Hp}{Q:VK}{D:Addr} (hD:H1 D=none) (tst:V→Bool) (val:V→V)
 (hok:∀H,Same H1 H→Ok H) (hn:n≤sizeLine)
 (ht:∀x∈xs,∀Hc,Same H1 Hc→∀S:Bool→Hp→Prop,S (tst x) Hc→tt ((z0G fr σ).set 0 (some x)) Hc S)
 (hv:∀x∈xs,tst x=true→∀Hc,Same H1 Hc→∀S:VK,S (val x) Hc→te ((z0G fr σ).set 0 (some x)) Hc S)
 (q:Q (.ref D) (upd H1 D (.lst ((xs.filter tst).map val)))):
 z3U J (z9t 0) tt te Q D (z0G fr σ) (upd H1 D (.lst [])):=by
 subst hx
 have st:∀acc,Same H1 (upd H1 D (.lst acc)):=fun acc=>z0f hD _
 refine z4H R (fun i acc σ' H'=>(∃o,σ'=(z0G fr σ).set 0 o∨σ'=z0G fr σ)∧H'=upd H1 D (.lst acc)∧acc=((xs.take i).filter tst).map val) ⟨⟨none,.inr rfl⟩,rfl,by simp⟩ ?_ hn ?_ ?_
 ·rintro i acc σ' H' hi ⟨_,rfl,rfl⟩
  refine⟨hok _ (st _),?_⟩
  rw[q0b]
  refine q0o (q1I _ _) ?_
  rw[q0n];lia
 ·rintro N i x acc σ' H' H'' hi ⟨hσ,rfl,ha⟩ ⟨rfl,hx⟩ n1 n2
  have hm:x∈xs:=q0u hx
  have es:σ'.set 0 (some x)=(z0G fr σ).set 0 (some x):=by
   obtain⟨o,e|e⟩:=hσ
   ·rw[e,List.set_set]
   ·rw[e]
  show tt (σ'.set 0 (some x)) _ _
  rw[es]
  have tk:xs.take (i+1)=xs.take i++[x]:=by rw[q0Q,hx];rfl
  refine ht x hm _ (st _) _ ?_
  cases hb:tst x with
  |true=>
   refine z7x (hv x hm hb _ (st _) _ (n1 _ _ _ z0c ⟨⟨_,.inl rfl⟩,z7c,?_⟩))
   rw[tk,q1c,q0H,←ha]
   simp[hb]
  |false=>
   refine z3r (n2 _ _ ⟨⟨_,.inl rfl⟩,rfl,?_⟩)
   rw[tk,q1c,q0H,←ha]
   simp[hb]
 ·rintro acc σ' H' ⟨_,rfl,rfl⟩
  rw[q0R]
  exact q
section
variable {X:Cx}{K:PySem.W.Frag}{tg:Expr}
theorem z0r (h:X.K=K):IxR X (rIxL K):=by subst h;exact y0U
theorem z1L (h:X.K=K):IxR X (rIxT K):=by subst h;exact y3G
theorem z2h (h:X.K=K):SlR X (rSlL K):=by subst h;exact y4f
theorem y4e (h:X.K=K):SlR X (rSlT K):=by subst h;exact y5j
def cLen (K:PySem.W.Frag):List V→Hp→VK→Prop:=fun xs H Q=>∃p ys,xs=[.ref p]∧SqA K H p ys∧Q (.int ys.length) H
theorem z0S (h:X.K=K):z2B X (.builtin "len") (cLen K):=by subst h;exact z6N
def cAny (K:PySem.W.Frag):List V→Hp→VK→Prop:=fun xs H Q=>∃p ys,xs=[.ref p]∧SqA K H p ys∧(∀y∈ys,PlV y)∧Q (.bl (ys.any trV)) H
theorem y1E (h:X.K=K) (hc:X.calm=true):z2B X (.builtin "any") (cAny K):=by subst h;exact y3b hc
def cList (K:PySem.W.Frag):List V→Hp→VK→Prop:=fun xs H Q=>∃p ys,xs=[.ref p]∧SqA K H p ys∧∀l,H l=none→Q (.ref l) (upd H l (.lst ys))
theorem z2f (h:X.K=K):z2B X (.type "list") (cList K):=by subst h;exact z6M
def y6f (K:PySem.W.Frag):List V→Hp→VK→Prop:=fun xs H Q=>∃p ys,xs=[.ref p]∧((SqL K H p ys∧∀l,H l=none→Q (.ref l) (upd H l (.tup ys)))∨(SqT K H p ys∧Q (.ref p) H))
theorem z4I (h:X.K=K):z2B X (.type "tuple") (y6f K):=by subst h;exact z5T
theorem y0u (h:X.K=K):OpR X (compareOp .NotIn) (rIn K true):=by subst h;exact z6x
theorem z0D (h:X.K=K) {l:Expr}{tl:TE} (hl:PE X l tl):PI X tg l (y5U K tl):=by subst h;exact y4r hl
theorem y0p (h:X.K=K) {l:Expr}{tl:TE} (hl:PE X l tl):PI X tg l (iTup K tl):=by subst h;exact y5u hl
def y5V (K:PySem.W.Frag) (tl:TA):TI:=fun σ H R=>tl σ H fun vs H1=>∃a xs,vs=[.ref a]∧H1 a=some (.lst xs)∧R (Ite K a) H1
theorem z8a (h:X.K=K) {elts:List Expr}{k:Nat}{tpos:Pos}{l:Expr}{tl:TA}{p pos:Pos} (hg:Gl X "enumerate") (hm:X.mg "enumerate"=none) (ha:PA X [l] tl) (hs:starEach [l] X.env=[(false,eval l X.env)]:=by rfl):
 PI X (.Tuple elts k tpos) (.Call (.Name "enumerate" p) [l] [] pos) (y5V K tl):=by subst h;exact y4s hg hm ha hs
def iZipK (K:PySem.W.Frag) (tl:TA):TI:=fun σ H R=>tl σ H fun vs H1=>∃l m b c xs ys,vs=[.ref l,.ref m]∧SqB b K H1 l xs∧SqB c K H1 m ys∧R (Itz K b c l m) H1
theorem z3C (h:X.K=K) {elts:List Expr}{k:Nat}{tpos:Pos}{l m:Expr}{tl:TA}{p pos:Pos} (hg:Gl X "zip") (hm:X.mg "zip"=none) (ha:PA X [l,m] tl) (hs:starEach [l,m] X.env=[(false,eval l X.env),(false,eval m X.env)]:=by rfl) (hs2:starEach [m] X.env=[(false,eval m X.env)]:=by rfl):
 PI X (.Tuple elts k tpos) (.Call (.Name "zip" p) [l,m] [] pos) (iZipK K tl):=by subst h;exact y5t hg hm ha hs hs2
theorem z1m (h:X.K=K) {es:List Expr}{k:Nat}{pos:Pos}{t:TGs} (n:Nat) (hc:X.calm=true) (hp:PGs X es t) (hn:(assignEach es X.env).length =n:=by rfl) (hst:(assignEach es X.env).findIdx? (·.1)=none:=by rfl):PG X (.Tuple es k pos) (gTup K n t):=by
 subst h;exact y5w hc hp hn hst
end
end L2
namespace L2
open PySem PySem.Spec PySem.W PyProof.Rows
section
variable {X:Cx}{e:Expr}{te:TE}{a:Str}{j:Nat}{p1 p2 pos:Pos}
end
section
variable {X:Cx}{C W fI:Addr}{x:Str}{np apos cpos:Pos}{e1 e2:Expr}{ta:TA}
end
section
variable {X:Cx}{pins:List (Addr×Obj)}{σ:St}{H:Hp}{s:Shared}{h':Heap}
end
section
variable {X:Cx}{pins:List (Addr×Obj)}{σ:St}{H:Hp}{s:Shared}{C a:Addr}{f:Str}{v:Value}{y:V}
variable {o value:Expr}{ta tv:TE}{pos pos':Pos}
end
end L2
namespace L2
open PySem PySem.Spec PySem.W PyProof.Rows
section
variable {prog:Program}{w:World}{A:Around}{E:Value→Shared→Prop}{h:Heap}{g:Array GenState}{d:Drawn}{t:Nat}{os:OsState}
variable {nm q:Str}{C N:Addr}{bs bm:List Value}{hdct:Bool}{sn:List Str}{sub:List Value}{ab:Bool}{col:Option Bool}{dd:Option Addr}{k0 k1 k2 k3 k5:Option Value}{mN:Str→Option Value}{fI:Addr}{oI:Obj}
end
section
variable {X:Cx}{pins:List (Addr×Obj)}{σ:St}{H:Hp}{s:Shared}
variable {CX:CXT}{k:Nat}{C W fI:Addr}{fd:FuncData}{ps:List Str}{sp:Sp}{E:XK}{x:Str}{np pos:Pos}{e:Expr}{es:List Expr}{t:TA}
end
section
variable {X:Cx}{fx cx n:Str}{fp cpos xpos hp hpos tpos:Pos}{e:Expr}{es:List Expr}{ta:TA}{k j:Nat}{ps:List Str}{sp:Sp}{W:Addr}{st0:Stmt}{ts:TS}
end
section
variable {X:Cx}{K:Frag}
end
section
variable {prog:Program}{w:World}{A:Around}{E:Value→Shared→Prop}{h:Heap}{gn:Array GenState}{dr:Drawn}{tt:Nat}{os:OsState}{K:Frag}{x D:Addr}{ox od:Obj}{name:Str}
end
section
variable {X:Cx}{e:Expr}{f:Str}{pos:Pos}{ta:TE}{K:Frag}
end
end L2
namespace L2
open PySem PySem.Spec PyProof.Rows
section
variable {prog:Program}{w:World}{A:Around}{E:Value→Shared→Prop}{s:Shared}
end
section
variable {X:Cx}{K:PySem.W.Frag}
def Itq (K:PySem.W.Frag) (b:Bool) (a:Addr):It:=match b with
 |true=>Itl K a
 |false=>Itt K a
theorem z4q (K:PySem.W.Frag) (b:Bool) (a:Addr) (xs:List V):z6a (Itq K b a) xs.length (fun H=>SqB b K H a xs) (fun i H x H'=>H'=H∧xs[i]? =some x):=by
 cases b with
 |true=>exact z0v K a xs
 |false=>exact z5y K a xs
def iSq (K:PySem.W.Frag) (tl:TE):TI:=fun σ H R=>tl σ H fun x H1=>∃a b xs,x= .ref a∧SqB b K H1 a xs∧R (Itq K b a) H1
theorem z6w {tg l:Expr}{tl:TE} (h:X.K=K) (hl:PE X l tl):PI X tg l (iSq K tl):=by
 subst h
 intro pins s σ H R I q
 refine thn (hl pins s σ H _ I q) fun v s1 ⟨x,H1,I1,r1,a,b,xs,e,hq,q1⟩=>?_
 subst e
 cases r1
 cases b with
 |true=>
  obtain⟨its,rv,p,hz⟩:=I1.list hq
  refine wpAny_pyIter_list p.isList ⟨s1.heap.objs.size,[s1.heap.objs.size],_,_,H1,rfl,I1.kept (t':=s1.toks) fun b o e=>q0d _ e,z6f a _,⟨_,q0q _ rfl,rfl,rfl⟩,fun b hb=>?_,q1⟩
  have e:b=s1.heap.objs.size:=by simpa using hb
  subst e
  exact I1.fpOk (q0e _) (I1.hok.fresh (q0e _))
 |false=>
  obtain⟨its,rv,p,hz⟩:=I1.tuple hq
  refine wpAny_pyIter_tuple (show s1.heap.IsTuple a its.toArray from p) ⟨s1.heap.objs.size,[s1.heap.objs.size],_,_,H1,rfl,I1.kept (t':=s1.toks) fun b o e=>q0d _ e,z4T a _,⟨_,q0q _ rfl,rfl,rfl⟩,fun b hb=>?_,q1⟩
  have e:b=s1.heap.objs.size:=by simpa using hb
  subst e
  exact I1.fpOk (q0e _) (I1.hok.fresh (q0e _))
def rIxA (K:PySem.W.Frag):R2:=fun x y H Q=>rIxL K x y H Q∨rIxT K x y H Q
theorem z5M (h:X.K=K):IxR X (rIxA K):=by subst h;exact IxR.or y0U y3G
theorem y4z (h:X.K=K) (hu:X.A.units+64<cLine):OpR X (compareOp .Eq) (rEqD K):=by subst h;exact y5G hu
theorem z4v (h:X.K=K) (hu:X.A.units+64<cLine):OpR X (compareOp .NotEq) (rNeD K):=by subst h;exact y5E hu
end
theorem SqB.same {b:Bool}{K:PySem.W.Frag}{H H':Hp}{a:Addr}{xs:List V} (g:Same H H') (h:SqB b K H a xs):SqB b K H' a xs:=by
 cases b with
 |true=>exact SqL.same g h
 |false=>exact SqT.same g h
theorem z0k {n:Nat} (h:n≤16777216):n≤sizeLine:=by rw[sizeLine_eq];exact h
theorem z3I {n:Nat} (h:n<16777216):n<sizeLine:=by rw[sizeLine_eq];exact h
end L2
namespace L2
open PySem PySem.Spec PyProof.Rows
section
variable {X:Cx}{tg iter elt:Expr}{ifs:List Expr}{scope:Scope}{pos:Pos}{cl:List (Str×Addr)}{Nc:List Str}{fr:List (Option Nat)}{wi:TI}{g:TG}{tt:TT}{te:TE}
theorem z3B {y:Str}{py spos:Pos}{jj:Nat} (hsw:swapsWith (.ListComp elt [⟨tg,iter,ifs,0⟩] scope pos) (some (.Name y py)) spos.line X.env=pure true) (hN:X.N.Nodup) (hj:X.N[jj]? =some y) (hx:Loc X.env.scope y) (hf:X.fn y=true∨X.env.scope.names.lookup y=some .local)
 (hc:X.calm=true) (hi:PI X tg iter wi) (hcl:closureFor scope X.env=pure cl) (hcell:∀y∈scope.names,y.2≠ .cell) (hk:scope.kind= .function) (hnm:∀y∈scope.names,y.2= .local →scope.names.lookup y.1=some .local)
 (hall:(scope.names.all fun p=>p.2 != .free || (cl.lookup p.1).isSome)=true) (cc:CapC X.env cl) (cn:CapN X scope cl Nc fr)
 (hg:∀C s2 H2 fp,PG (z2o X Nc scope cl C s2 H2 fp) tg g) (ht:∀C s2 H2 fp,PTs (z2o X Nc scope cl C s2 H2 fp) ifs tt) (he:∀C s2 H2 fp,PE (z2o X Nc scope cl C s2 H2 fp) elt te)
 (hs:∀x,foldedSetIterable iter X.env x=pure x:=by intro _;rfl):PS X (.Assign [.Name y py] (.ListComp elt [⟨tg,iter,ifs,0⟩] scope pos) spos) (tAsg (y5f fr wi g tt te) (z9t jj)):=by
 intro pins s σ H Ds I h
 rw[exec_Assign_Name_used _ _ _ _ hsw]
 refine wpAny_bind (wpAny_standAt (wpAny_bind ?_))
 show wpAny _ X.A (do let _ ←comprehension (.ListComp elt [⟨tg,iter,ifs,0⟩] scope pos) scope X.env _ (newList []) false (eval iter X.env) (some (assign (.Name y py) X.env))) _ _ s
 refine wpAny_bind (wpAny_mono (wpAny_comprehension_free (use:=some (assign (.Name y py) X.env)) (Q:=fun _ s'=>SP X pins Ds .next s') rfl hs hcl hk hnm ?_) (fun _ s' hq=>wpAny_pure (wpAny_pure hq)) fun _ _ e=>e)
 refine wpAny_mono (hi pins s σ H _ I h) (fun xv s1 h1=>wpAny_mono h1 (fun itv s2 h2=>?_) fun _ _ e=>e) fun _ _ e=>e
 obtain⟨it,fp,tn,J,H2,rfl,I2,T,st2,f2,q2⟩:=h2
 obtain⟨W,⟨m0,w0⟩,turn⟩:=q2 s2.heap.objs.size (I2.hok.fresh (q0e _))
 refine wpAny_newObj_type (wpAny_newFunctionEnv hcell (by intro y hy;simp at hy) (fun h4 ns4 sb4=>?_) hk)
 dsimp only at ns4 sb4 ⊢
 generalize hD:s2.heap.objs.size=D at*
 generalize hL:s2.heap.push {cls:= .type "list",dict:=none,data:= .seq ([]:List Value).toArray}=hl at ns4 sb4 ⊢
 have hlsz:hl.objs.size=D+1:=by rw[←hL,q1z,hD]
 rw[hlsz] at ns4 sb4 ⊢
 have DC:D≠D+1:=q0r (Nat.lt_succ_self _)
 have low:∀b o,s2.heap.get? b=some o→b<D:=fun b o e=>by rw[←hD];exact q0p e
 have kp:∀b o,s2.heap.get? b=some o→h4.get? b=some o:=fun b o e=>by
  have z:=low b o e
  refine sb4.extBut b o (q0r (q0V z)) (q0d _ ?_)
  rw[←hL]
  exact q0d _ e
 have hD4:h4.get? D=some {cls:= .type "list",dict:=none,data:= .seq ([]:List Value).toArray}:=by
  refine sb4.extBut D _ DC (q0d _ ?_)
  rw[←hL,←hD]
  exact q0q _ rfl
 have hn:H2 D=none:=by rw[←hD];exact I2.hok.fresh (q0e _)
 have hnC:H2 (D+1)=none:=I2.hok.fresh (by rw[hD];exact Nat.le_succ _)
 let Y:=z2o X Nc scope cl (D+1) s2 H2 fp
 have ixv:∀b∈fp,b<D:=fun b hb=>by
  obtain⟨o,e,_⟩:=T.obj 0 _ st2 b hb
  exact low b o e
 have okY:Y.Ok:=by
  refine⟨I2.ok.mod,?_,I2.ok.glob,I2.ok.blt,?_,?_,?_,?_,fun _=>I2.ok.hd hc,I2.ok.frames,.inl rfl,?_,I2.bs,?_,?_,?_,I2.stack,I2.stkFree⟩
  ·exact hk
  ·show s2.heap.objs.size≤D+1
   lia
  ·intro x y c e1 e2
   exact I2.ok.inj x y c (cc.mem x c e1) (cc.mem y c e2)
  ·intro x hx
   exact z2S hcell hall x hx
  ·intro x c e
   cases e
  ·intro b hb
   refine⟨fun z=>?_,fun x c e z=>?_⟩
   ·exact absurd z (q0r (q0V (ixv b hb)))
   ·exact (f2 b hb).2.2.2.2.1 x c (cc.mem x c e) z
  ·exact q0o I2.ok.bsz I2.sz
  ·intro b o e hb
   have z:=(f2 b hb).2.2.2.1
   rcases z with z|z
   ·exact I2.ok.noex b o e z
   ·exact absurd (q0K (q0p (I2.ok.bs b o e).1) z) (q1Q _)
  ·intro b hb z
   have e2:=q0l.mp (I2.stkSub b z)
   rcases e2 with e2|e2
   ·exact (f2 b hb).2.1 e2
   ·exact (f2 b hb).2.2.1 e2
 have IY:Inv Y [] (z0G fr σ) (upd H2 D (.lst [])) {s2 with heap:=h4,toks:=s2.toks+([]:List (Str×Value)).length}:=by
  refine⟨okY,rfl,I2.bare,⟨fun b o e n _ _=>kp b o e,fun b o e n _ _=>⟨o.slots,kp b o e⟩,fun b o e n _=>?_,fun b o e _=>⟨o,kp b o e⟩,fun b xs e=>?_,fun b o u e=>?_,fun b ps e=>⟨#[],?_⟩⟩,?_,fun x c e=>?_,?_,fun x c e=>?_,fun p hp=>?_,fun b u e=>?_,?_⟩
  ·rw[z0m (q0r (low b o e))];exact n
  ·rw[z0m (z0i e hn)];exact e
  ·rw[z0m (z0i e hn)];exact e
  ·rw[z0m (z0i e hn),show H2 b=_ from e];simp
  ·refine⟨_,ns4,fun j x v e1 e2 e3=>?_⟩
   have e2':(fr.map fun o=>o.bind fun k=>(σ[k]?).join)[j]? =some (some v):=e2
   rw[q0k] at e2'
   obtain⟨o,ho,hv⟩:=q0A.mp e2'
   cases o with
   |none=>cases hv
   |some k=>
    obtain⟨c1,c2,c3,c4⟩:=cn.at j x k e1 ho
    have hσ:σ[k]? =some (some v):=by
        have hv':(σ[k]?).join =some v:=hv
        cases z:σ[k]? with
        |none=>rw[z] at hv';cases hv'
        |some w'=>rw[z] at hv';exact congrArg some hv'
    obtain⟨m,hm,hlk⟩:=I2.loc
    obtain⟨u,r,lk⟩:=hlk k x v c1 hσ (.inr (.inl c2))
    refine⟨u,r,.inr ⟨.inl c4,?_⟩⟩
    rcases lk with⟨z,_⟩|⟨_,c,ec,oc,hoc,dc⟩
    ·rw[c2] at z;cases z
    ·obtain⟨c',ec'⟩:=Option.isSome_iff_exists.mp c3
     have:=cc.mem x c' ec'
     rw[ec] at this;cases this
     exact⟨c,ec',oc,kp c oc hoc,dc⟩
  ·obtain⟨v,oc,hoc,dc⟩:=I2.cell x c (cc.mem x c e)
   exact⟨v,oc,kp c oc hoc,dc⟩
  ·show upd H2 D (.lst []) (D+1)=none
   rw[z0m (Ne.symm DC)];exact hnC
  ·obtain⟨v,oc,hoc,dc⟩:=I2.cell x c (cc.mem x c e)
   rw[z0m (q0r (low c oc hoc))]
   exact I2.freeC x c (cc.mem x c e)
  ·simp[Y,z2o] at hp
  ·by_cases hb:b=D
   ·subst hb
    rw[z0c] at e;cases e
    exact⟨q0S _,[],_,.nil,hD4⟩
   ·rw[z0m hb] at e
    exact (I2.hok b u e).stay (fun c v _ q=>kp c v q) (fun c q=>by rw[z0m (z0i q hn)];exact q) fun c xs q=>by rw[z0m (z0i q hn)];exact q
  ·show (fr.map _).length =Nc.length
   rw[q0b];exact cn.length
 have fY:∀{H':Hp},(∀b∈fp,H' b=none)→∀b∈fp,y1Q Y [] H' b:=fun {H'} hn' b hb=>by
  refine⟨hn' b hb,fun z=>?_,fun z=>?_,.inl hb,fun x c e z=>?_,fun p hp=>?_⟩
  ·exact absurd z (q0r (q0V (ixv b hb)))
  ·exact okY.exfs b hb z
  ·exact (f2 b hb).2.2.2.2.1 x c (cc.mem x c e) z
  ·simp[Y,z2o] at hp
 have st4:tn 0 h4:=T.keep _ _ _ st2 fun b hb o e=>kp b o e
 have fr4:∀b∈fp,upd H2 D (.lst []) b=none:=fun b hb=>by
  rw[z0m (q0r (ixv b hb))]
  exact (f2 b hb).1
 have loop:∀s3:Shared,s3={s2 with heap:=h4,toks:=s2.toks+([]:List (Str×Value)).length}→
  codeAny (model X.prog X.w) X.A (.compLoop (.ListComp elt [⟨tg,iter,ifs,0⟩] scope pos) 0 (.ref it) (.ref D) (compEnvC scope cl (D+1) X.env)) (compPost (model X.prog X.w) X.A X.xe (some (assign (.Name y py) X.env)) (fun _ s'=>SP X pins Ds .next s') (.ref D) (D+1)) s3:=by
  rintro s3 rfl
  refine codeAny_loop rfl (fun n s'=>∃i σ' H',Inv Y [] σ' H' s'∧tn i s'.heap∧(∀b∈fp,H' b=none)∧W i n σ' H') (fun n s5 hI=>?_) m0 ⟨0,_,_,IY,st4,fr4,w0⟩
  obtain⟨i,σ5,H5,I5,st5,fr5,w5⟩:=hI
  show wpAny _ X.A ((compTurn (.ListComp elt [⟨tg,iter,ifs,0⟩] scope pos) 0 (.ref it) (.ref D) (compEnvC scope cl (D+1) X.env)).onRaise (fun x=>do noteFrame x (compEnvC scope cl (D+1) X.env);theTreesLotGoes x)) _ _ s5
  refine wpAny_noted ?_
  rw[compTurn_list]
  refine wpAny_bind (wpAny_standAt (wpAny_bind ?_))
  rcases turn i n σ5 H5 w5 with⟨stop,qn⟩|⟨go,step⟩
  ·refine wpAny_mono (T.done Y rfl rfl rfl rfl i [] s5 σ5 H5 (fun _ _=>False) I5 (fY fr5) st5 stop) (fun r s6 ⟨hr,I6⟩=>?_) fun _ _ z=>z.elim
   subst hr
   refine wpAny_pure ?_
   obtain⟨m6,hm6,_⟩:=id I6.loc
   have sb7:Heap.SameBut (D+1) s6.heap s6.heap:=Heap.SameBut.refl ..
   have un:Un (frs X.stack) fp H2 H5 s2.heap s6.heap:=by
        have b6:=I6.base
        have nc:∀b o,s2.heap.get? b=some o→b≠D+1:=fun b o e=>q0r (q0V (low b o e))
        refine⟨fun b o e n1 n2 n3=>(sb7.2 b (nc b o e)).trans (b6.keep b o e n1 n2 n3),fun b o e n1 n2 n3=>?_,b6.free,fun b o e n3=>?_,b6.tups,b6.frzs,b6.tbls⟩
        ·obtain⟨sl,z⟩:=b6.slot b o e n1 n2 n3
         exact⟨sl,(sb7.2 b (nc b o e)).trans z⟩
        ·obtain⟨o',z⟩:=b6.there b o e n3
         exact⟨o',(sb7.2 b (nc b o e)).trans z⟩
   have hok7:HOk X.prog X.w H5 s6.heap:=fun b u e=>by
        refine (I6.hok b u e).stay (fun c v hc' q=>(sb7.2 c fun z=>?_).trans q) (fun _ q=>q) fun _ _ q=>q
        have fC:H5 (D+1)=none:=I6.free
        subst z
        rcases hc' with z|z
        ·rw[←z,fC] at e;cases e
        ·rw[fC] at z;cases z
   have IX:=I2.call' (s':={s6 with heap:=s6.heap}) (ch:=fp) I6.os un hok7 I6.bare fun b hb=>⟨(f2 b hb).2.2.2.1,(f2 b hb).2.1,(f2 b hb).2.2.2.2.1,(f2 b hb).2.2.2.2.2⟩
   have lx:X.env.locals<D:=by
        obtain⟨m,⟨o,_,_,ho,_⟩,_⟩:=I2.loc
        exact low _ o ho
   refine wpAny_assign_Name (z6j IX hN hj hx (show RelV (.ref D) (.ref D) from rfl) (fun s7 I7 ⟨a7,sa7,ha7⟩=>?_) hf)
   have al:a7<D:=by
        rcases ha7 with z|z
        ·rw[z];exact lx
        ·obtain⟨v,o,ho,_⟩:=I2.cell y a7 z
         exact low _ o ho
   refine⟨m6,hm6.sameBut sa7 (Ne.symm (q0r (q0V al))),fun h8 sb8=>?_⟩
   have I8:Inv X pins (σ.set jj (some (.ref D))) H5 {s7 with heap:=h8}:=I7.turned (t':=s7.toks) (it:=D+1) (fun b o hb e=>(sb8.2 b hb).trans e) I6.free (Ne.symm (q0r (q0V lx))) (.inr (by
    have:=I2.sz
    rw[hD] at this
    exact Nat.le_succ_of_le this)) (fun x c e z=>by
    obtain⟨v,o,ho,_⟩:=I2.cell x c e
    have:=low _ o ho
    rw[z] at this
    exact absurd this (Nat.not_lt.mpr (Nat.le_succ _))) (fun p hp z=>by
    have:=low _ _ (I2.pin p hp).1
    rw[z] at this
    exact absurd this (Nat.not_lt.mpr (Nat.le_succ _)))
   exact⟨_,H5,I8,qn⟩
  ·refine wpAny_mono (T.item Y rfl rfl rfl rfl i [] s5 σ5 H5 (fun _ _=>False) I5 (fY fr5) st5 go) (fun r s6 ⟨u,hr,h6⟩=>?_) fun _ _ z=>z.elim
   subst hr
   refine wpAny_bind (wpAny_mono h6 (fun _ s7 ⟨x,H7,I7,r7,y7,st7,fr7⟩=>?_) fun _ _ z=>z.elim)
   have I7':=I7.pinned (fY fr7) (T.obj _ _ st7)
   refine wpAny_bind (wpAny_mono (hg _ _ _ _ _ s7 σ5 H7 x u _ I7' r7 (step x H7 y7)) (fun _ s8 ⟨σ8,H8,I8,q8⟩=>?_) fun _ _ z=>z.elim)
   have again:∀{σ':St}{H':Hp}{s':Shared}{k:Nat},Inv Y ([]++z4Z fp s7.heap) σ' H' s'→W (i+1) k σ' H'→∃i' σ'' H'',Inv Y [] σ'' H'' s'∧tn i' s'.heap∧(∀b∈fp,H'' b=none)∧W i' k σ'' H'':=fun {σ' H' s' k} I' w'=>by
        refine⟨i+1,σ',H',I'.unpinned,T.keep _ _ _ st7 fun b hb o e=>(I'.pin (b,o) (q0I _ (q0I _ (z1G hb e)))).1,fun b hb=>?_,w'⟩
        obtain⟨o,e,d⟩:=T.obj _ _ st7 b hb
        exact (I'.pin (b,o) (q0I _ (q0I _ (z1G hb e)))).2.1
   refine wpAny_bind (wpAny_mono (ht _ _ _ _ _ s8 σ8 H8 _ I8 q8) (fun ok s9 ⟨H9,I9,q9⟩=>?_) fun _ _ z=>z.elim)
   cases ok with
   |false=>
    obtain⟨m',hm',w'⟩:=q9
    exact wpAny_pure ⟨rfl,m',hm',again I9 w'⟩
   |true=>
    refine wpAny_bind (wpAny_bind (wpAny_mono (he _ _ _ _ _ s9 σ8 H9 _ I9 q9) (fun ev s10 ⟨v,H10,I10,r10,acc,m',hacc,hlen,hm',w'⟩=>?_) fun _ _ z=>z.elim))
    refine wpAny_bind (wpAny_mono (z1K (X:=Y) _ s10 σ8 H10 (.ref D) [v] (.ref D) [ev] (fun r H'=>r= .non ∧H'=upd H10 D (.lst (acc++[v]))) I10 rfl (.cons r10 .nil) ⟨D,acc,v,rfl,rfl,hacc,hlen,rfl,rfl⟩) (fun _ s11 ⟨_,H11,I11,_,_,e11⟩=>?_) fun _ _ z=>z.elim)
    subst e11
    exact wpAny_pure (wpAny_pure ⟨rfl,m',hm',again I11 w'⟩)
 exact codeAny_compStart_list (loop _ rfl) (T.self _ _ _ _ _ st4 (loop _ rfl))
end
end L2
set_option maxHeartbeats 4000000
namespace L2
open PySem PySem.Spec PyProof.Rows
namespace Fr
open Builtin.Int (intBits)
structure Low (x y:Int):Prop where
 pos:0<y
 one:Int.gcd x y=1
theorem turn {a0 b0 a b:Int} (h:Int.gcd a b=Int.gcd a0 b0):Int.gcd b (a.fmod b)=Int.gcd a0 b0:=by
 rw[Int.fmod_def,Int.gcd_sub_mul_left_right,Int.gcd_comm b a]
 exact h
theorem less {a b:Int} (h:b≠0):(a.fmod b).natAbs <b.natAbs:=by
 rcases (by lia:0<b∨b<0) with p|p
 ·have h1:=Int.fmod_nonneg_of_pos a p
  have h2:=Int.fmod_lt_of_pos a p
  lia
 ·have e:a.fmod b= -((-a).fmod (-b)):=by
   rw[Int.fmod_def,Int.fmod_def,Int.neg_fdiv_neg]
   rw[Int.neg_mul]
   lia
  have h1:=Int.fmod_nonneg_of_pos (-a) (show 0< -b by lia)
  have h2:=Int.fmod_lt_of_pos (-a) (show 0< -b by lia)
  lia
theorem y4Y {a b a0 b0:Int} (h:Int.gcd a b=Int.gcd a0 b0) (hb:b=0):(if a<0 then -a else a)=(Int.gcd a0 b0:Int):=by
 rw[←h,hb,Int.gcd_zero]
 split<;>lia
theorem y5K {t b s:Int} (hb:b≠0) (hs:s=if b<0 then -(Int.gcd t b:Int) else (Int.gcd t b:Int)):
 s≠0∧Low (t.fdiv s) (b.fdiv s)∧t.fdiv s*b=t*b.fdiv s∧(t.fdiv s).natAbs ≤t.natAbs∧(b.fdiv s).natAbs ≤b.natAbs:=by
 have g0:0<Int.gcd t b:=Int.gcd_pos_of_ne_zero_right t hb
 have g1:(0:Int)<(Int.gcd t b:Int):=by lia
 obtain⟨t',ht⟩:=q1w t b
 obtain⟨b',hb'⟩:=Int.gcd_dvd_right t b
 have co:Int.gcd t' b'=1:=by
  have h:=Int.gcd_ediv_gcd_ediv_gcd (i:=t) (j:=b) g0
  have e1:t/(Int.gcd t b:Int)=t':=by
   conv=>lhs;lhs;rw[ht]
   exact Int.mul_ediv_cancel_left _ (by lia)
  have e2:b/(Int.gcd t b:Int)=b':=by
   conv=>lhs;lhs;rw[hb']
   exact Int.mul_ediv_cancel_left _ (by lia)
  rw[e1,e2] at h
  exact h
 generalize hg:(Int.gcd t b:Int)=g at*
 have sg:b<0↔b'<0:=by
  constructor
  ·intro h
   rcases (by lia:b'<0∨0≤b') with q|q
   ·exact q
   ·have:=q1y (q1v g1) q
    lia
  ·intro h
   have:=Int.mul_neg_of_pos_of_neg g1 h
   lia
 have b0:b'≠0:=fun z=>hb (by rw[hb',z,q0T])
 have fd:∀z:Int,(g*z).fdiv g=z:=fun z=>Int.mul_fdiv_cancel_left z (by lia)
 have fn:∀z:Int,(g*z).fdiv (-g)= -z:=fun z=>by
  have e:g*z= -g* -z:=by rw[Int.neg_mul_neg]
  rw[e]
  exact Int.mul_fdiv_cancel_left (-z) (by lia)
 have na:∀z:Int,z.natAbs≤(g*z).natAbs :=fun z=>by
  rw[Int.natAbs_mul]
  exact Nat.le_mul_of_pos_left _ (by lia)
 by_cases h:b<0
 ·rw[if_pos h] at hs
  rw[hs]
  refine⟨by lia,?_⟩
  have e1:t.fdiv (-g)= -t':=by rw[ht];exact fn t'
  have e2:b.fdiv (-g)= -b':=by rw[hb'];exact fn b'
  rw[e1,e2]
  refine⟨⟨by have:=sg.mp h;lia,by rw[Int.gcd_neg,Int.neg_gcd];exact co⟩,?_,?_,?_⟩
  ·rw[hb',ht,Int.neg_mul,Int.mul_neg,Int.mul_assoc,Int.mul_left_comm t' g b']
  ·have:=na t'
   rw[←ht] at this
   lia
  ·have:=na b'
   rw[←hb'] at this
   lia
 ·rw[if_neg h] at hs
  rw[hs]
  refine⟨by lia,?_⟩
  have e1:t.fdiv g=t':=by rw[ht];exact fd t'
  have e2:b.fdiv g=b':=by rw[hb'];exact fd b'
  rw[e1,e2]
  refine⟨⟨by have:¬b'<0:=fun z=>h (sg.mpr z);lia,co⟩,?_,?_,?_⟩
  ·rw[hb',ht,Int.mul_assoc,Int.mul_left_comm t' g b']
  ·have:=na t'
   rw[←ht] at this
   exact this
  ·have:=na b'
   rw[←hb'] at this
   exact this
end Fr
end L2
namespace L2
open PySem PySem.Spec PyProof.Rows
namespace Wl
open Builtin.Int (intBits)
def z1S (rs:List Int):Nat:=rs.foldl (fun (g:Nat) n=>Int.gcd (g:Int) n) 0
theorem z4h:∀(rs:List Int) (g0:Nat),(((rs.foldl (fun (g:Nat) n=>Int.gcd (g:Int) n) g0:Nat):Int)∣(g0:Int))∧∀n∈rs,((rs.foldl (fun (g:Nat) n=>Int.gcd (g:Int) n) g0:Nat):Int)∣n
 |[],g0=>⟨Int.dvd_refl _,fun n h=>by simp at h⟩
 |m::r,g0=>by
  obtain⟨h1,h2⟩:=z4h r (Int.gcd (g0:Int) m)
  rw[List.foldl_cons]
  refine⟨Int.dvd_trans h1 (q1w _ _),fun n hn=>?_⟩
  rcases q0l.mp hn with rfl|hn
  ·exact Int.dvd_trans h1 (Int.gcd_dvd_right _ _)
  ·exact h2 n hn
theorem z4g {rs:List Int}{n:Int} (h:n∈rs):(z1S rs:Int)∣n:=(z4h rs 0).2 n h
theorem z2k {rs:List Int} (h:∃n∈rs,n≠0):0<z1S rs:=by
 obtain⟨n,hn,n0⟩:=h
 have d:=z4g hn
 rcases Nat.eq_zero_or_pos (z1S rs) with z|z
 ·rw[z] at d
  exact absurd (Int.zero_dvd.mp d) n0
 ·exact z
theorem z6J (rs:List Int) (n:Int):z1S (rs++[n])=Int.gcd (z1S rs:Int) n:=by
 unfold z1S
 rw[q1L];rfl
theorem z8D {d:Int}:∀(rs:List Int) (g0:Nat),d∣(g0:Int)→(∀n∈rs,d∣n)→d∣((rs.foldl (fun (g:Nat) n=>Int.gcd (g:Int) n) g0:Nat):Int)
 |[],g0,h,_=>h
 |m::r,g0,h,hr=>z8D r _ (Int.dvd_coe_gcd h (hr m List.mem_cons_self)) fun n hn=>hr n (List.mem_cons_of_mem _ hn)
theorem y2W {rs:List Int}{d:Int} (h:∀n∈rs,d∣n):d∣(z1S rs:Int):=z8D rs 0 (Int.dvd_zero _) h
def z1a:List Int→Int
 |[]=>0
 |n::r=>if n=0 then z1a r else n
theorem z5J {rs:List Int} (h:∃n∈rs,n≠0):z1a rs≠0:=by
 induction rs with
 |nil=>obtain⟨n,hn,_⟩:=h;simp at hn
 |cons m r ih=>
  show (if m=0 then z1a r else m)≠0
  by_cases hm:m=0
  ·rw[if_pos hm]
   obtain⟨n,hn,n0⟩:=h
   rcases q0l.mp hn with rfl|hn
   ·exact absurd hm n0
   ·exact ih ⟨n,hn,n0⟩
  ·rw[if_neg hm];exact hm
def byL (rs:List Int):Int:=if z1a rs<0 then -(z1S rs:Int) else (z1S rs:Int)
def z0l (rs:List Int):List Int:=rs.map fun n=>n.fdiv (byL rs)
theorem z2T {rs:List Int} (h:∃n∈rs,n≠0):byL rs≠0:=by
 have:=z2k h
 unfold byL
 split<;>lia
theorem z5U {rs:List Int}{n:Int} (h:n∈rs):byL rs∣n:=by
 unfold byL
 split
 ·exact Int.neg_dvd.mpr (z4g h)
 ·exact z4g h
theorem fdiv_mul {n s:Int} (h:s∣n):n.fdiv s*s=n:=Int.fdiv_mul_cancel h
theorem fdiv_ne {n s:Int} (h:s∣n) (n0:n≠0):n.fdiv s≠0:=fun z=>by
 have:=fdiv_mul h
 rw[z,q1P] at this
 exact n0 this.symm
theorem z4F {n s:Int} (h:s∣n) (s0:s≠0):(n.fdiv s).natAbs ≤n.natAbs:=by
 have e:=congrArg Int.natAbs (fdiv_mul h)
 rw[Int.natAbs_mul] at e
 have:0<s.natAbs:=by lia
 rw[←e]
 exact Nat.le_mul_of_pos_right _ this
theorem y3c {rs:List Int}{k:Nat} (h:∃n∈rs,n≠0) (hb:∀n∈rs,intBits n≤k):intBits (byL rs)≤k:=by
 obtain⟨n,hn,n0⟩:=h
 refine intBits_le_of_natAbs (y:=n) ?_ (hb n hn)
 obtain⟨m,e⟩:=z5U hn
 have m0:m≠0:=fun z=>n0 (by rw[e,z,q0T])
 have e':=congrArg Int.natAbs e
 rw[Int.natAbs_mul] at e'
 rw[e']
 exact Nat.le_mul_of_pos_right _ (by lia)
end Wl
end L2
namespace L2
open PySem PySem.Spec PyProof.Rows
namespace Sd
open Builtin.Int (intBits)
open Fr
end Sd
theorem z4i {xs:List V}{v:V}:y1R (xs++[v]) none (some (-1))=xs:=by
 have e:HT.sIx (xs++[v]).length (xs++[v]).length (some (-1))=xs.length:=by
  simp only[HT.sIx,q0m,q1m]
  split<;>lia
 unfold y1R
 rw[HT.sIx_none,e,List.drop_zero,Nat.sub_zero]
 simp
theorem y1x {xs:List V}{v:V}:¬(HT.sIx (xs++[v]).length 0 none=0∧HT.sIx (xs++[v]).length (xs++[v]).length (some (-1))=(xs++[v]).length):=by
 rintro⟨_,h⟩
 have e:HT.sIx (xs++[v]).length (xs++[v]).length (some (-1))=xs.length:=by
  simp only[HT.sIx,q0m,q1m]
  split<;>lia
 rw[e] at h
 simp at h
end L2
set_option maxHeartbeats 1000000
namespace L2
open PySem PySem.Spec PySem.W PyProof.Rows
section
variable {X:Cx}{K:Frag}
open Classical in
theorem y1c {pins:List (Addr×Obj)}{σ:St}{H:Hp}{s:Shared}{A:Around} (I:Inv X pins σ H s) (hu:A.units+9<cLine) {x:V}{v:Value}{e:Dt} (hx:IsD X.K H x e) (rx:RelV x v):∀{xs:List V}{ds:List Dt}{its:List Value},IsDs X.K H xs ds→Vals xs its→(∀d∈ds,Dt.ok 9 d e=true)→
 ∃f:Value→Bool,(∀w∈its,SeqAt.EqAt A s w v (f w))∧its.any f=ds.any fun d=>Dt.eqb d e:=by
 intro xs ds its hd rv ok
 have T:=y5d I 9 A hu
 have each:∀{xs:List V}{ds:List Dt}{its:List Value},IsDs X.K H xs ds→Vals xs its→(∀d∈ds,Dt.ok 9 d e=true)→(∀w∈its,∃d,(w,d)∈its.zip ds)∧∀w d,(w,d)∈its.zip ds→SeqAt.EqAt A s w v (Dt.eqb d e):=by
  intro xs ds its hd rv ok
  induction its generalizing xs ds with
  |nil=>exact⟨fun w h=>by simp at h,fun w d h=>by simp at h⟩
  |cons u us ih=>
   cases rv with
   |cons r1 r2=>
    cases hd with
    |cons h1 h2=>
     obtain⟨i1,i2⟩:=ih h2 r2 fun d hd=>ok d (q0i _ hd)
     refine⟨fun w hw=>?_,fun w d hw=>?_⟩
     ·rcases q0l.mp hw with rfl|hw
      ·exact⟨_,q0j⟩
      ·obtain⟨d,q⟩:=i1 w hw
       exact⟨d,q0i _ q⟩
     ·rcases q0l.mp hw with z|hw
      ·cases z
       exact T _ _ _ _ _ _ h1 hx r1 rx (ok _ q0j)
      ·exact i2 w d hw
 obtain⟨i1,i2⟩:=each hd rv ok
 have hlen:its.length=ds.length:=by
  have a:=rv.length
  have b:xs.length=ds.length:=by
   clear rv ok i1 i2 a
   induction ds generalizing xs with
   |nil=>cases hd;rfl
   |cons d r ih=>cases hd with|cons h1 h2=>rw[List.length_cons,List.length_cons,ih h2]
  lia
 refine⟨fun w=>decide (∃d,(w,d)∈its.zip ds∧Dt.eqb d e=true),fun w hw=>?_,?_⟩
 ·by_cases h:∃d,(w,d)∈its.zip ds∧Dt.eqb d e=true
  ·obtain⟨d,h1,h2⟩:=h
   have:=i2 w d h1
   rw[h2] at this
   dsimp only
   rw[decide_eq_true (⟨d,h1,h2⟩:∃d,(w,d)∈its.zip ds∧Dt.eqb d e=true)]
   exact this
  ·obtain⟨d,h1⟩:=i1 w hw
   have:=i2 w d h1
   have hf:Dt.eqb d e=false:=by
        cases z:Dt.eqb d e with
        |false=>rfl
        |true=>exact absurd ⟨d,h1,z⟩ h
   rw[hf] at this
   dsimp only
   rw[decide_eq_false h]
   exact this
 ·rw[q1O,q1S,q1S]
  constructor
  ·rintro⟨w,hw,h⟩
   obtain⟨d,h1,h2⟩:=of_decide_eq_true h
   exact⟨d,(q1C h1).2,h2⟩
  ·rintro⟨d,hd',h⟩
   obtain⟨i,hi,e1⟩:=q0v.mp hd'
   have hi2:i<its.length:=by lia
   have hm:(its[i],d)∈its.zip ds:=by
     refine q0v.mpr ⟨i,by rw[q1e];lia,?_⟩
     rw[List.getElem_zip,e1]
   exact⟨its[i],q0y hi2,decide_eq_true ⟨d,hm,h⟩⟩
def rInD (K:Frag) (neg:Bool):R2:=fun x y H Q=>∃p xs ds e,y= .ref p∧SqA K H p xs∧IsDs K H xs ds∧IsD K H x e∧(∀d∈ds,Dt.ok 9 d e=true)∧Q (.bl (if neg then !(ds.any fun d=>Dt.eqb d e) else ds.any fun d=>Dt.eqb d e)) H
theorem z9g (h:X.K=K) (hu:X.A.units+64<cLine):OpR X (compareOp .NotIn) (rInD K true):=by
 subst h
 intro pins s σ H x y v u Q I rx ry h
 obtain⟨p,xs,ds,e,rfl,hq,hd,hx,ok,q⟩:=h
 cases ry
 rcases hq with hq|hq
 ·obtain⟨its,r,pl,hz⟩:=I.list hq
  obtain⟨f,f1,f2⟩:=y1c (A:=X.A.in1) I (by show X.A.units+1+9<cLine;lia) hx rx hd r ok
  refine SeqAt.notIn_listAt f pl.isList (fun w hw=>f1 w (by simpa using hw)) ⟨.bl _,H,I,rfl,?_⟩
  rw[show its.toArray.any f=its.any f by simp,f2]
  exact q
 ·obtain⟨its,r,pl,hz⟩:=I.tuple hq
  obtain⟨f,f1,f2⟩:=y1c (A:=X.A.in1) I (by show X.A.units+1+9<cLine;lia) hx rx hd r ok
  refine SeqAt.notIn_tupleAt f pl (fun w hw=>f1 w (by simpa using hw)) ⟨.bl _,H,I,rfl,?_⟩
  rw[show its.toArray.any f=its.any f by simp,f2]
  exact q
def y4o:V→List V→Hp→VK→Prop:=fun x vs H Q=>∃(l:Addr) (xs:List V) (y:V) (k:Int),x= .ref l∧vs=[.int k,y]∧H l=some (.lst xs)∧0≤k∧k≤xs.length∧xs.length<sizeLine∧Q .non (upd H l (.lst (xs.take k.toNat++y::xs.drop k.toNat)))
theorem y1a (l:Addr) (its:Array Value) (n:Nat) (k:Int) (t:Tok) (u:Value) (hfit:¬(!Builtin.List.listFitsIndex k)=true) (hsz:its.size≤sizeLine):
 Meets (Builtin.«list.insert» ⟨[.ref l,.int k t,u],[]⟩) (fun _ R s=>s.heap.get? l=some {cls:= .type "list",dict:=none,data:= .seq its n,slots:= #[]}∧R (.ok (.ret Value.none)) {s with heap:=s.heap.update l (Obj.mapSeq fun xs=>(xs.extract 0 (if k<0 then (k+(xs.size:Int)).toNat else min k.toNat xs.size)).push u++xs.extract (if k<0 then (k+(xs.size:Int)).toNat else min k.toNat xs.size)),toks:=s.toks}):=
 AutoListH.list_insert_list_int_val_1 l its n k t u hfit hsz
theorem y0G:MtM X "list.insert" y4o:=by
 intro pins s σ H x vs v us Q I rx rv h
 obtain⟨l,xs,y,k,rfl,rfl,hH,k0,hk,hz,q⟩:=h
 cases rx
 obtain⟨u1,u,rfl,r1,ru⟩:=y1U rv
 obtain⟨t,rfl⟩:=r1
 obtain⟨z,its,n,r,hl,e⟩:=I.lstM hH
 have hs:sizeLine=16777216:=sizeLine_eq
 have hfit:¬(!Builtin.List.listFitsIndex k)=true:=by
  rw[fitsIndex_both (show -(2^63)≤k by lia) (show k<2^63 by lia)]
  exact q0B
 have hsz:its.toArray.size≤sizeLine:=by rw[q0h];lia
 refine call_meets F.slot_list_insert ⟨_,e,rfl⟩ F.entry_list_insert (F.args_list_insert_3 _ _ _) (y1a l its.toArray n k t u hfit hsz) ⟨e,?_⟩
 have ek:(if k<0 then (k+(its.toArray.size:Int)).toNat else min k.toNat its.toArray.size)=k.toNat:=by
  rw[if_neg (by lia),q0h];lia
 refine⟨.non,_,I.lset (t':=s.toks) (f:=fun xs=>(xs.extract 0 (if k<0 then (k+(xs.size:Int)).toNat else min k.toNat xs.size)).push u++xs.extract (if k<0 then (k+(xs.size:Int)).toNat else min k.toNat xs.size)) (its':=its.take k.toNat++u::its.drop k.toNat) hH e ?_ ((r.take k.toNat).append (.cons ru (r.drop k.toNat))) ?_,rfl,q⟩
 ·rw[ek]
  apply Array.toList_inj.mp
  simp
  exact List.take_of_length_le (by rw[q1R];lia)
 ·rw[q0m,q0J,q0n,q1R];lia
end
end L2
set_option maxHeartbeats 4000000
namespace L2
open PySem PySem.Spec PyProof.Rows
open Builtin.Int (intBits)
def TsA (H:Hp) (as:List Addr) (ts:List (List Int)):Prop:=as.length=ts.length∧∀(i:Nat) (a:Addr) (t:List Int),as[i]? =some a→ts[i]? =some t→H a=some (.tup (t.map V.int))
theorem TsA.same {H H':Hp}{as:List Addr}{ts:List (List Int)} (g:Same H H') (h:TsA H as ts):TsA H' as ts:=⟨h.1,fun i a t e1 e2=>g _ _ (h.2 i a t e1 e2)⟩
theorem TsA.nil {H:Hp}:TsA H [] []:=⟨rfl,fun i a t e=>by simp at e⟩
theorem TsA.snoc {H:Hp}{as:List Addr}{ts:List (List Int)}{r:Addr}{t:List Int} (h:TsA H as ts) (e:H r=some (.tup (t.map V.int))):TsA H (as++[r]) (ts++[t]):=by
 refine⟨by simp[h.1],fun i a p e1 e2=>?_⟩
 by_cases hi:i<as.length
 ·rw[q0N hi] at e1
  rw[q0N (by rw[←h.1];exact hi)] at e2
  exact h.2 i a p e1 e2
 ·rw[q0D (by lia)] at e1
  rw[q0D (by rw[←h.1];lia),←h.1] at e2
  have hz:i - as.length=0:=by
   have:=(q0E.mp e1).1
   simp at this
   lia
  rw[hz] at e1 e2
  cases e1;cases e2
  exact e
def dtT (t:List Int):Dt:= .t (t.map Dt.i)
theorem TsA.isDs {K:PySem.W.Frag}{H:Hp}:∀{as:List Addr}{ts:List (List Int)},TsA H as ts→IsDs K H (as.map V.ref) (ts.map dtT)
 |[],[],_=> .nil
 |a::r,t::q,h=> .cons (.t (SqT.of (h.2 0 a t rfl rfl)) (z3m t)) (TsA.isDs ⟨by simpa using h.1,fun i b u e1 e2=>h.2 (i+1) b u (by simpa using e1) (by simpa using e2)⟩)
 |[],_::_,h=>by have:=h.1;simp at this
 |_::_,[],h=>by have:=h.1;simp at this
theorem y6b (a b:List Int):Dt.eqb (dtT a) (dtT b)=decide (a=b):=z8B a b
theorem ok_t (a b:List Int):Dt.ok 9 (dtT a) (dtT b)=true:=z3h 8 a b
theorem ok_ts {ts:List (List Int)}{b:List Int}:∀d∈ts.map dtT,Dt.ok 9 d (dtT b)=true:=fun d hd=>by
 obtain⟨t,_,rfl⟩:=q0f.mp hd
 exact ok_t t b
theorem any_t (ts:List (List Int)) (b:List Int):((ts.map dtT).any fun d=>Dt.eqb d (dtT b))=decide (b∈ts):=by
 rw[q1O,q1S,decide_eq_true_eq]
 constructor
 ·rintro⟨d,hd,h⟩
  obtain⟨t,ht,rfl⟩:=q0f.mp hd
  rw[y6b,decide_eq_true_eq] at h
  rw[←h];exact ht
 ·intro h
  exact⟨dtT b,q0z h,by rw[y6b];simp⟩
theorem isD_t {K:PySem.W.Frag}{H:Hp}{a:Addr}{t:List Int} (h:H a=some (.tup (t.map V.int))):IsD K H (.ref a) (dtT t):= .t (SqT.of h) (z3m t)
theorem z8h:∀(ts us:List (List Int)),Dt.oks 8 (ts.map dtT) (us.map dtT)=true
 |[],_=>by simp[Dt.oks]
 |_::_,[]=>by simp[Dt.oks]
 |t::r,u::q=>by
  simp only[q0t,Dt.oks,q1i]
  exact⟨z3h 7 t u,z8h r q⟩
theorem z5h {K:PySem.W.Frag}{H:Hp}{l:Addr}{as:List Addr}{ts:List (List Int)} (h:H l=some (.lst (as.map V.ref))) (t:TsA H as ts):IsD K H (.ref l) (.l (ts.map dtT)):= .l (SqL.of h) t.isDs
theorem z8J {xs:List V}{hi:Int} (h1:0≤hi) (h2:hi≤xs.length):y1R xs none (some hi)=xs.take hi.toNat:=by
 have e2:HT.sIx xs.length xs.length (some hi)=hi.toNat:=by
  show (if hi<0 then _ else _)=_
  rw[if_neg (by lia)];lia
 unfold y1R
 rw[e2,HT.sIx_none,List.drop_zero,Nat.sub_zero]
namespace Wl
end Wl
end L2
set_option maxHeartbeats 1000000
namespace L2
open PySem PySem.Spec PySem.W PyProof.Rows
section
variable {X:Cx}{K:Frag}
def rCatA (K:Frag):R2:=fun x y H Q=>∃(a b:Addr) (xs ys:List V),x= .ref a∧y= .ref b∧SqT K H a xs∧H b=some (.tup ys)∧ys≠[]∧xs.length+ys.length≤sizeLine∧∀p H',Same H H'→H' p=some (.tup (xs++ys))→Q (.ref p) H'
theorem y2w (h:X.K=K):OpR X (binaryOp .Add) (rCatA K):=by
 subst h
 intro pins s σ H x y v u Q I rx ry h
 obtain⟨a,b,xs,ys,rfl,rfl,ha,hb,hy,hz,q⟩:=h
 by_cases hx:xs=[]
 ·subst hx
  cases rx
  cases ry
  obtain⟨its,r1,p1,_⟩:=I.tuple ha
  obtain⟨its2,r2,p2,_⟩:=I.tuple (SqT.of hb)
  have e1:its=[]:=r1.nil_iff.mpr rfl
  obtain⟨⟨cls,dd,data,sl⟩,ho,hc,n,hd⟩:=id p1
  obtain⟨⟨cls2,dd2,data2,sl2⟩,ho2,hc2,n2,hd2⟩:=id p2
  simp only at hc hd hc2 hd2
  subst hc hd hc2 hd2
  exact concat_meets ⟨_,ho,rfl⟩ ⟨_,ho2,rfl⟩ noFill_tuple_add seq_tuple_add PySem.F.slot_tuple_add PySem.F.entry_tuple_add (PySem.F.args_tuple_add_2 _ _)
   (tuple_addW0 a b its.toArray its2.toArray n n2 dd dd2 sl sl2 (by simp[e1])) ⟨ho,ho2,⟨.ref b,H,I,rfl,q b H (Same.refl _) hb⟩⟩
 ·exact y4A pins s σ H _ _ v u Q I rx ry ⟨a,b,xs,ys,rfl,rfl,ha,SqT.of hb,hx,hz,fun z=>absurd z hy,fun _ p hp=>q p _ (z0f hp _) z0c⟩
end
end L2
namespace L2
namespace Rk
inductive Sm (A:List (Nat→Int)):(Nat→Int)→Prop
 |zero:Sm A (fun _=>0)
 |more (c:Int) {r x:Nat→Int}:r∈A→Sm A x→Sm A (fun j=>c*r j+x j)
theorem Sm.cast {A:List (Nat→Int)}{x y:Nat→Int} (h:Sm A x) (e:∀j,x j=y j):Sm A y:=by
 rw[show y=x from funext fun j=>(e j).symm];exact h
theorem Sm.add {A:List (Nat→Int)}{x y:Nat→Int} (h:Sm A x) (h2:Sm A y):Sm A (fun j=>x j+y j):=by
 induction h with
 |zero=>exact h2.cast fun j=>by simp
 |more c hr _ ih=>exact (Sm.more c hr ih).cast fun j=>by dsimp only;lia
theorem Sm.mul {A:List (Nat→Int)}{x:Nat→Int} (c:Int) (h:Sm A x):Sm A (fun j=>c*x j):=by
 induction h with
 |zero=>exact Sm.zero.cast fun j=>by simp
 |more d hr _ ih=>exact (Sm.more (c*d) hr ih).cast fun j=>by dsimp only;grind
theorem Sm.one {A:List (Nat→Int)}{r:Nat→Int} (h:r∈A):Sm A r:=(Sm.more 1 h Sm.zero).cast fun j=>by simp
def In (A:List (Nat→Int)) (x:Nat→Int):Prop:=∃d:Int,d≠0∧Sm A fun j=>d*x j
theorem In.one {A:List (Nat→Int)}{r:Nat→Int} (h:r∈A):In A r:=⟨1,by decide,(Sm.one h).cast fun j=>by simp⟩
theorem In.of {A:List (Nat→Int)}{x:Nat→Int} (h:Sm A x):In A x:=⟨1,by decide,h.cast fun j=>by simp⟩
theorem In.zero {A:List (Nat→Int)}:In A fun _=>0:=In.of Sm.zero
theorem In.add {A:List (Nat→Int)}{x y:Nat→Int} (h:In A x) (h2:In A y):In A fun j=>x j+y j:=by
 obtain⟨d,d0,hd⟩:=h
 obtain⟨e,e0,he⟩:=h2
 exact⟨d*e,q1g d0 e0,((hd.mul e).add (he.mul d)).cast fun j=>by dsimp only;grind⟩
theorem In.mul {A:List (Nat→Int)}{x:Nat→Int} (c:Int) (h:In A x):In A fun j=>c*x j:=by
 obtain⟨d,d0,hd⟩:=h
 exact⟨d,d0,(hd.mul c).cast fun j=>by dsimp only;grind⟩
theorem In.div {A:List (Nat→Int)}{x:Nat→Int}{c:Int} (c0:c≠0) (h:In A fun j=>c*x j):In A x:=by
 obtain⟨d,d0,hd⟩:=h
 exact⟨d*c,q1g d0 c0,hd.cast fun j=>by dsimp only;grind⟩
theorem In.cast {A:List (Nat→Int)}{x y:Nat→Int} (h:In A x) (e:∀j,x j=y j):In A y:=by
 rw[show y=x from funext fun j=>(e j).symm];exact h
theorem In.sub {A B:List (Nat→Int)} (h:∀r∈A,In B r) {x:Nat→Int} (hx:In A x):In B x:=by
 obtain⟨d,d0,hd⟩:=hx
 have:∀y,Sm A y→In B y:=fun y hy=>by
  induction hy with
  |zero=>exact In.zero
  |more c hr _ ih=>exact ((h _ hr).mul c).add ih
 exact In.div d0 (this _ hd)
theorem In.same {A B:List (Nat→Int)} (h:∀r∈A,In B r) (h2:∀r∈B,In A r):In A=In B:=funext fun _=>propext ⟨In.sub h,In.sub h2⟩
open Classical in
noncomputable def dim:Nat→((Nat→Int)→Prop)→Nat
 |0,_=>0
 |m+1,S=>(if ∃x,S x∧x 0≠0 then 1 else 0)+dim m fun y=>∃x,S x∧x 0=0∧∀j,y j=x (j+1)
open Classical in
theorem z8I:∀(m:Nat) (S:(Nat→Int)→Prop),dim (m+1) S=dim m S+(if ∃x,S x∧(∀j,j<m→x j=0)∧x m≠0 then 1 else 0)
 |0,S=>by
  simp only[dim]
  have e:(∃x,S x∧x 0≠0)↔∃x,S x∧(∀j,j<0→x j=0)∧x 0≠0:=⟨fun⟨x,h1,h2⟩=>⟨x,h1,fun j h=>by lia,h2⟩,fun⟨x,h1,_,h2⟩=>⟨x,h1,h2⟩⟩
  simp only[e]
  lia
 |m+1,S=>by
  rw[dim,z8I m,dim]
  have e:(∃y:Nat→Int,(∃x,S x∧x 0=0∧∀j,y j=x (j+1))∧(∀j,j<m→y j=0)∧y m≠0)↔∃x,S x∧(∀j,j<m+1→x j=0)∧x (m+1)≠0:=by
   constructor
   ·rintro⟨y,⟨x,h1,h2,h3⟩,h4,h5⟩
    refine⟨x,h1,fun j hj=>?_,by rw[←h3];exact h5⟩
    cases j with
    |zero=>exact h2
    |succ j=>rw[←h3];exact h4 j (by lia)
   ·rintro⟨x,h1,h2,h3⟩
    exact⟨fun j=>x (j+1),⟨x,h1,h2 0 (by lia),fun _=>rfl⟩,fun j hj=>h2 (j+1) (by lia),h3⟩
  simp only[e]
  lia
def sh (x:Nat→Int):Nat→Int:=fun j=>x (j+1)
theorem Sm.head0 {A:List (Nat→Int)} (h:∀r∈A,r 0=0) {x:Nat→Int} (hx:Sm A x):x 0=0:=by
 induction hx with
 |zero=>rfl
 |more c hr _ ih=>dsimp only;rw[h _ hr,ih];lia
theorem Sm.sh {A:List (Nat→Int)}{x:Nat→Int} (hx:Sm A x):Sm (A.map sh) (Rk.sh x):=by
 induction hx with
 |zero=>exact Sm.zero
 |more c hr _ ih=>exact Sm.more c (List.mem_map_of_mem hr) ih
def zs (y:Nat→Int):Nat→Int
 |0=>0
 |j+1=>y j
theorem z8H {A:List (Nat→Int)}{m:Nat} (h:∀r∈A,r 0=0):dim (m+1) (In A)=dim m (In (A.map sh)):=by
 rw[dim,if_neg,Nat.zero_add]
 ·congr 1
  funext y
  refine propext ⟨?_,?_⟩
  ·rintro⟨x,⟨d,d0,hd⟩,h0,hy⟩
   exact⟨d,d0,hd.sh.cast fun j=>by show d*x (j+1)=_;rw[hy]⟩
  ·rintro⟨d,d0,hd⟩
   refine⟨zs y,⟨d,d0,?_⟩,rfl,fun _=>rfl⟩
   have:∀z,Sm (A.map sh) z→Sm A (zs z):=fun z hz=>by
        induction hz with
        |zero=>exact Sm.zero.cast fun j=>by cases j<;>rfl
        |more c hr _ ih=>
         obtain⟨r,hr2,rfl⟩:=q0f.mp hr
         refine (Sm.more c hr2 ih).cast fun j=>?_
         cases j with
         |zero=>show c*r 0+0=0;rw[h r hr2];lia
         |succ j=>rfl
   refine (this _ hd).cast fun j=>?_
   cases j with
   |zero=>show (0:Int)=d*0;lia
   |succ j=>rfl
 ·rintro⟨x,⟨d,d0,hd⟩,h0⟩
  have:=Sm.head0 h hd
  exact h0 ((q1u.mp this).resolve_left d0)
def cl (h r:Nat→Int):Nat→Int:=fun j=>h 0*r j - r 0*h j
theorem y2Z {A B:List (Nat→Int)}{h:Nat→Int}{m:Nat} (h0:h 0≠0) (hA:∀r,r∈A↔r=h∨r∈B):dim (m+1) (In A)=1+dim m (In (B.map fun r=>sh (cl h r))):=by
 have hh:h∈A:=(hA h).mpr (.inl rfl)
 rw[dim,if_pos ⟨h,In.one hh,h0⟩]
 congr 2
 funext y
 refine propext ⟨?_,?_⟩
 ·rintro⟨x,⟨d,d0,hd⟩,hx,hy⟩
  have key:∀z,Sm A z→Sm (B.map fun r=>sh (cl h r)) (sh (cl h z)):=fun z hz=>by
   induction hz with
   |zero=>exact Sm.zero.cast fun j=>by show (0:Int)=h 0*0 - 0*h (j+1);lia
   | @more c r x hr _ ih=>
     rcases (hA r).mp hr with rfl|hb
     ·exact ih.cast fun j=>by show r 0*x (j+1) - x 0*r (j+1)=r 0*(c*r (j+1)+x (j+1)) - (c*r 0+x 0)*r (j+1);grind
     ·exact (Sm.more c (q0z (f:=fun r=>sh (cl h r)) hb) ih).cast fun j=>by
         show c*(h 0*r (j+1) - r 0*h (j+1))+(h 0*x (j+1) - x 0*h (j+1))=h 0*(c*r (j+1)+x (j+1)) - (c*r 0+x 0)*h (j+1)
         grind
  refine⟨h 0*d,q1g h0 d0,(key _ hd).cast fun j=>?_⟩
  show h 0*(d*x (j+1)) - d*x 0*h (j+1)=h 0*d*y j
  rw[hx,hy];grind
 ·rintro⟨d,d0,hd⟩
  refine⟨zs y,⟨d,d0,?_⟩,rfl,fun _=>rfl⟩
  have key:∀z,Sm (B.map fun r=>sh (cl h r)) z→Sm A (zs z):=fun z hz=>by
   induction hz with
   |zero=>exact Sm.zero.cast fun j=>by cases j<;>rfl
   |more c hr _ ih=>
    obtain⟨r,hr2,rfl⟩:=q0f.mp hr
    refine (Sm.more (c*h 0) ((hA r).mpr (.inr hr2)) (Sm.more (-(c*r 0)) hh ih)).cast fun j=>?_
    cases j with
    |zero=>show c*h 0*r 0+(-(c*r 0)*h 0+0)=0;grind
    |succ j=>show c*h 0*r (j+1)+(-(c*r 0)*h (j+1)+_)=c*(h 0*r (j+1) - r 0*h (j+1))+_;grind [zs]
  refine (key _ hd).cast fun j=>?_
  cases j with
  |zero=>show (0:Int)=d*0;lia
  |succ j=>rfl
inductive Ech:Nat→List (Nat→Int)→Prop
 |nil {m:Nat}:Ech m []
 |skip {m:Nat}{A:List (Nat→Int)}:(∀r∈A,r 0=0)→Ech m (A.map sh)→Ech (m+1) A
 |head {m:Nat}{h:Nat→Int}{B:List (Nat→Int)}:h 0≠0→(∀r∈B,r 0=0)→Ech m (B.map sh)→Ech (m+1) (h::B)
theorem y1r:∀m:Nat,dim m (In [])=0
 |0=>rfl
 |m+1=>by rw[z8H (fun r h=>by simp at h)];exact y1r m
theorem Ech.dim {m:Nat}{A:List (Nat→Int)} (h:Ech m A):Rk.dim m (In A)=A.length:=by
 induction h with
 |nil=>exact y1r _
 |skip h _ ih=>rw[z8H h,ih,List.length_map]
 | @head m h B h0 hB _ ih=>
   rw[y2Z h0 (B:=B) (fun r=>by simp)]
   have e:In (B.map fun r=>sh (cl h r))=In (B.map sh):=by
    have ec:∀r∈B,sh (cl h r)=fun j=>h 0*sh r j:=fun r hr=>funext fun j=>by
        show h 0*r (j+1) - r 0*h (j+1)=h 0*r (j+1)
        rw[hB r hr];lia
    refine In.same (fun r hr=>?_) (fun r hr=>?_)
    ·obtain⟨u,hu,rfl⟩:=q0f.mp hr
     rw[ec u hu]
     exact In.mul _ (In.one (q0z hu))
    ·obtain⟨u,hu,rfl⟩:=q0f.mp hr
     refine In.div h0 ?_
     rw[←ec u hu]
     exact In.one (q0z (f:=fun r=>sh (cl h r)) hu)
   rw[e,ih,q0b,q0J];lia
def z8O (m:Nat) (p:(Nat→Int)×Nat):Prop:=p.2<m∧p.1 p.2≠0∧∀j,j<p.2→p.1 j=0
theorem y3M:∀(m:Nat) (ps:List ((Nat→Int)×Nat)),ps.Pairwise (fun a b=>a.2<b.2)→(∀p∈ps,z8O m p)→Ech m (ps.map Prod.fst)
 |_,[],_,_=> .nil
 |0,p::_,_,h=>absurd (h p List.mem_cons_self).1 (by lia)
 |m+1,p::ps,hp,h=>by
  have low:∀q∈ps,p.2<q.2:=(List.pairwise_cons.mp hp).1
  have down:∀qs:List ((Nat→Int)×Nat),qs.Pairwise (fun a b=>a.2<b.2)→(∀q∈qs,z8O (m+1) q∧0<q.2)→Ech m ((qs.map Prod.fst).map sh):=fun qs h1 h2=>by
   have:=y3M m (qs.map fun q=>(sh q.1,q.2 - 1)) ?_ ?_
   ·rw[q0M] at this ⊢
    exact this
   ·rw[q0Z]
    refine List.Pairwise.imp_of_mem (fun {a b} ha hb hab=>?_) h1
    have:=(h2 a ha).2
    have:=(h2 b hb).2
    show a.2 - 1<b.2 - 1
    lia
   ·intro q hq
    obtain⟨u,hu,rfl⟩:=q0f.mp hq
    obtain⟨⟨y1,y2,y3⟩,y4⟩:=h2 u hu
    refine⟨by show u.2 - 1<m;lia,?_,fun j hj=>?_⟩
    ·show u.1 (u.2 - 1+1)≠0
     rw[Nat.sub_add_cancel y4];exact y2
    ·exact y3 (j+1) (by have:j<u.2 - 1:=hj;lia)
  obtain⟨y1,y2,y3⟩:=h p q0j
  by_cases h0:p.2=0
  ·rw[h0] at y2
   refine .head y2 (fun r hr=>?_) (down ps (List.pairwise_cons.mp hp).2 fun q hq=>⟨h q (q0i _ hq),by have:=low q hq;lia⟩)
   obtain⟨q,hq,rfl⟩:=q0f.mp hr
   exact (h q (q0i _ hq)).2.2 0 (by have:=low q hq;lia)
  ·have pos:∀q∈p::ps,0<q.2:=fun q hq=>by
    rcases q0l.mp hq with rfl|hq
    ·lia
    ·have:=low q hq;lia
   refine .skip (fun r hr=>?_) (down (p::ps) hp fun q hq=>⟨h q hq,pos q hq⟩)
   obtain⟨q,hq,rfl⟩:=q0f.mp hr
   exact (h q hq).2.2 0 (pos q hq)
def v (r:List Int):Nat→Int:=fun j=>r.getD j 0
theorem y3Z {f:Int→Int→Int} (f0:f 0 0=0):∀(r h:List Int),r.length=h.length→∀j,v (List.zipWith f r h) j=f (v r j) (v h j)
 |[],[],_,j=>by show (0:Int)=f 0 0;rw[f0]
 |x::r,y::h,e,0=>rfl
 |x::r,y::h,e,j+1=>y3Z f0 r h (by simpa using e) j
 |[],_::_,e,_=>by simp at e
 |_::_,[],e,_=>by simp at e
end Rk
end L2
namespace L2
namespace Rk
structure Red (m:Nat) (R:List ((Nat→Int)×Nat)):Prop where
 lead:∀p∈R,z8O m p
 up:R.Pairwise fun a b=>a.2<b.2
 off:∀p∈R,∀q∈R,p.2≠q.2→p.1 q.2=0
theorem Red.dim {m n:Nat}{R:List ((Nat→Int)×Nat)} (h:Red m R) (hn:m≤n):Rk.dim n (In (R.map Prod.fst))=R.length:=by
 rw[(y3M n R h.up fun p hp=>⟨by have:=(h.lead p hp).1;lia,(h.lead p hp).2⟩).dim,q0b]
def z2g {α:Type} (f:α→Int):List α→Int
 |[]=>0
 |a::l=>f a+z2g f l
theorem Red.more {m:Nat}{R R':List ((Nat→Int)×Nat)}{x:Nat→Int}{l:Nat} (k:(Nat→Int)×Nat→Nat→Int) (h:Red m R) (hx:z8O m (x,l)) (hz:∀p∈R,x p.2=0)
 (hk:∀p∈R,∃s own less:Int,s≠0∧own≠0∧own*p.1 l=less*x l∧∀j,s*k p j=own*p.1 j - less*x j)
 (hm:∀q,q∈R'↔q=(x,l)∨∃p∈R,q=(k p,p.2)) (hu:R'.Pairwise fun a b=>a.2<b.2):
 Red m R'∧In (R'.map Prod.fst)=In (x::R.map Prod.fst):=by
 have s0:∀{s a:Int},s≠0→s*a=0→a=0:=fun h1 h2=>(q1u.mp h2).resolve_left h1
 have less0:∀p∈R,∀less own:Int,own*p.1 l=less*x l→l<p.2→less=0:=fun p hp less own e hl=>by
  rw[(h.lead p hp).2.2 l hl,q0T] at e
  exact (q1u.mp e.symm).resolve_right hx.2.1
 have ne:∀p∈R,p.2≠l:=fun p hp e=>hx.2.1 (by show x l=0;rw[←e];exact hz p hp)
 refine⟨⟨fun q hq=>?_,hu,fun a ha b hb hne=>?_⟩,?_⟩
 ·rcases (hm q).mp hq with rfl|⟨p,hp,rfl⟩
  ·exact hx
  ·obtain⟨s,own,less,s1,o1,e1,e2⟩:=hk p hp
   obtain⟨y1,y2,y3⟩:=h.lead p hp
   refine⟨y1,fun z=>?_,fun j hj=>s0 s1 ?_⟩
   ·have:=e2 p.2
    rw[show k p p.2=0 from z,hz p hp,q0T,q0T,Int.sub_zero] at this
    exact y2 (s0 o1 this.symm)
   ·show s*k p j=0
    rw[e2,y3 j hj]
    by_cases hl:l<p.2
    ·rw[less0 p hp less own e1 hl];lia
    ·rw[show x j=0 from hx.2.2 j (by have:=ne p hp;have:j<p.2:=hj;show j<l;lia)];lia
 ·rcases (hm a).mp ha with rfl|⟨p,hp,rfl⟩<;>rcases (hm b).mp hb with rfl|⟨q,hq,rfl⟩
  ·exact absurd rfl hne
  ·exact hz q hq
  ·obtain⟨s,own,less,s1,o1,e1,e2⟩:=hk p hp
   refine s0 s1 ?_
   show s*k p l=0
   rw[e2,e1];lia
  ·obtain⟨s,own,less,s1,o1,e1,e2⟩:=hk p hp
   refine s0 s1 ?_
   show s*k p q.2=0
   rw[e2,h.off p hp q hq hne,hz q hq];lia
 ·have hxm:x∈R'.map Prod.fst:=q0f.mpr ⟨(x,l),(hm _).mpr (.inl rfl),rfl⟩
  refine In.same (fun r hr=>?_) (fun r hr=>?_)
  ·obtain⟨q,hq,rfl⟩:=q0f.mp hr
   rcases (hm q).mp hq with rfl|⟨p,hp,rfl⟩
   ·exact In.one q0j
   ·obtain⟨s,own,less,s1,o1,e1,e2⟩:=hk p hp
    refine In.div s1 ?_
    have a1:In (x::R.map Prod.fst) p.1:=In.one (q0i _ (q0z hp))
    have a2:In (x::R.map Prod.fst) x:=In.one q0j
    exact ((a1.mul own).add (a2.mul (-less))).cast fun j=>by rw[e2];grind
  ·rcases q0l.mp hr with rfl|hr
   ·exact In.one hxm
   ·obtain⟨p,hp,rfl⟩:=q0f.mp hr
    obtain⟨s,own,less,s1,o1,e1,e2⟩:=hk p hp
    refine In.div o1 ?_
    have a1:In (R'.map Prod.fst) (k p):=In.one (q0f.mpr ⟨(k p,p.2),(hm _).mpr (.inr ⟨p,hp,rfl⟩),rfl⟩)
    have a2:In (R'.map Prod.fst) x:=In.one hxm
    exact ((a1.mul s).add (a2.mul less)).cast fun j=>by rw[e2];grind
theorem y0g {m:Nat}{R:List ((Nat→Int)×Nat)} (h:Red m R) {q:(Nat→Int)×Nat} (hq:q∈R) {x y x0:Nat→Int}{own less c:Int} (o:own≠0) (e:own*x q.2=less*q.1 q.2) (hy:∀j,y j=own*x j - less*q.1 j)
 (hc:c≠0) (hs:Sm (R.map Prod.fst) fun j=>x j - c*x0 j):y q.2=0∧(∀p∈R,x p.2=0→y p.2=0)∧own*c≠0∧Sm (R.map Prod.fst) fun j=>y j - own*c*x0 j:=by
 have y0:y q.2=0:=by rw[hy,e];lia
 refine⟨y0,fun p hp hz=>?_,q1g o hc,?_⟩
 ·by_cases hne:p.2=q.2
  ·rw[hne];exact y0
  ·rw[hy,hz,h.off q hq p hp fun z=>hne z.symm];lia
 ·exact (Sm.more (-less) (q0z hq) (hs.mul own)).cast fun j=>by rw[hy];grind
theorem z6t {A:List (Nat→Int)}{x x0:Nat→Int}{c:Int} (hc:c≠0) (hs:Sm A fun j=>x j - c*x0 j):In (x::A)=In (x0::A):=by
 have up:∀{r:Nat→Int}{z:Nat→Int},Sm A z→In (r::A) z:=fun h=>In.sub (fun r hr=>In.one (q0i _ hr)) (In.of h)
 refine In.same (fun r hr=>?_) (fun r hr=>?_)
 ·rcases q0l.mp hr with rfl|hr
  ·exact ((up hs).add ((In.one q0j).mul c)).cast fun j=>by lia
  ·exact In.one (q0i _ hr)
 ·rcases q0l.mp hr with rfl|hr
  ·refine In.div hc ?_
   exact ((In.one (r:=x) q0j).add ((up hs).mul (-1))).cast fun j=>by grind
  ·exact In.one (q0i _ hr)
theorem In.mono {A B:List (Nat→Int)} (h:∀r∈A,r∈B) {x:Nat→Int} (hx:In A x):In B x:=In.sub (fun r hr=>In.one (h r hr)) hx
theorem y0h {A:List (Nat→Int)}{x x0:Nat→Int}{c:Int} (hc:c≠0) (hs:Sm A fun j=>x j - c*x0 j) (h0:∀j,x j=0):In (x0::A)=In A:=by
 have hx:In A x0:=In.div hc (((In.of hs).mul (-1)).cast fun j=>by rw[h0];grind)
 refine In.same (fun r hr=>?_) (fun r hr=>In.one (q0i _ hr))
 rcases q0l.mp hr with rfl|hr
 ·exact hx
 ·exact In.one hr
theorem y2Y {A:List (Nat→Int)}{m:Nat}{x:Nat→Int} (h:In A x) (h0:∀j,j<m→x j=0) (h1:x m≠0):dim (m+1) (In A)=dim m (In A)+1:=by
 rw[z8I,if_pos ⟨x,h,h0,h1⟩]
end Rk
end L2
namespace L2
open PySem PySem.Spec PyProof.Rows
theorem z8E {prog:Program}{w:World}{A:Around} (hh:A.handled=none) (b:Bool) (it a:Addr) (hne:a≠it) (its:Array Value):
 Draws prog w A it [it,a] its.size (fun i v=>its[i]? =some v) (fun i h=>SIt b h it a i∧SAt b h a its) where
 live:=fun _ _ st=>let ⟨o,_,ho,_⟩:=st.1.ob;⟨o,ho⟩
 frame:=fun _ _ _ st hk=>⟨st.1.keep fun o e=>hk it (by simp) o e,st.2.keep fun o e=>hk a (by simp) o e⟩
 item:=fun i s Q E hi st hQ=>by
  refine z3i st.1 st.2 (x:=its[i]) (by simp[hi]) fun h' hit' hs'=>?_
  exact hQ _ h' s.toks (by simp[hi]) ⟨hit',st.2.keep fun o e=>hs'.extBut _ o hne e⟩ hs'
 done:=fun s Q E st hE=>z5G hh st.1 st.2 (by simp) hE
abbrev eA (h:Heap) (b:Bool) (a:Addr):Heap:=h.push (itO b a)
abbrev eB (h:Heap) (b:Bool) (a:Addr):Heap:=(eA h b a).push {cls:= .type "enumerate",data:= .fields #[.none,.bool false,.ref h.objs.size,rawInt 0,.none,.none]}
theorem z9p (b:Bool) (l:Addr) (xs:Array Value):
 Meets (Builtin.«enumerate.__new__» ⟨[.type "enumerate",.ref l],[]⟩) (fun _ R s=>SAt b s.heap l xs∧R (.ok (.ret (.ref (eA s.heap b l).objs.size))) {s with heap:=eB s.heap b l}):=
 .of_wp fun prog w A R s h=>by
  obtain⟨hp,g,d,tk,os⟩:=s;obtain⟨h1,h⟩:=h
  have hsub:=sub_enumerate
  have k1:SAt b (Shared.heap ⟨hp,g,d,tk,os⟩) l xs:=h1
  wp_walk
  refine wpAny_stack_any fun st=>wpAny_pure ?_
  split
  ·rename_i c _ _ _ _ _
   cases (c==Value.type "enumerate")
   ·wp_walk using z4C k1
    exact⟨_,rfl,h⟩
   ·wp_walk using z4C k1
    exact⟨_,rfl,h⟩
  ·wp_walk using z4C k1
   exact⟨_,rfl,h⟩
section
variable {prog:Program}{w:World}{A:Around}{E:Value→Shared→Prop}{s:Shared}
theorem z9z {b:Bool}{l:Addr}{xs:Array Value}{Q:Value→Shared→Prop} (hl:SAt b s.heap l xs)
 (h:∀h',IsEnum h' (s.heap.objs.size+1) s.heap.objs.size 0 .none →SIt b h' s.heap.objs.size l 0→(∀p o,s.heap.get? p=some o→h'.get? p=some o)→Q (.ref (s.heap.objs.size+1)) {s with heap:=h'}):
 wpAny (model prog w) A (call (.type "enumerate") [.ref l]) Q E s:=by
 refine callType_new F.called_enumerate (by decide) (F.typeCall_enumerate_1 _) (F.newCall_enumerate_1 _) (fun obj=>F.args_object_init_2 obj _) F.entry_enumerate_new (z9p b l xs) ⟨hl,?_⟩
 have z1:(eA s.heap b l).objs.size =s.heap.objs.size+1:=q1z ..
 have g2:(eB s.heap b l).get? (eA s.heap b l).objs.size =some _:=q0q _ rfl
 have g1:SIt b (eB s.heap b l) s.heap.objs.size l 0:=SIt.new.keep fun o e=>q0d _ e
 show _∧_
 rw[z1] at g2
 rw[z1]
 exact⟨⟨_,g2,rfl⟩,h _ g2 g1 fun p o e=>q0d _ (q0d _ e)⟩
end
def Iteb (K:PySem.W.Frag) (b:Bool) (a:Addr):It:=
 ⟨fun i H=>∃xs x,SqB b K H a xs∧xs[i]? =some x,
  fun i H x H'=>∃p v,x= .ref p∧H p=none∧(∀xs,SqB b K H a xs→xs[i]? =some v)∧H'=upd H p (.tup [.int i,v]),
  fun i H=>∃xs,SqB b K H a xs∧xs.length=i⟩
theorem z8Q {P:Program}{w:World}{K:PySem.W.Frag}{elts:List Expr}{k:Nat}{pos:Pos} (b:Bool) (a e it:Addr) (hne:e≠it):
 y3T P w K (.Tuple elts k pos) (Iteb K b a) [e,it] e (fun i h=>(∃old,IsEnum h e it ((i:Nat):Int) old)∧SIt b h it a i) where
 mem:=by simp
 obj:=fun i h st c hb=>by
  obtain⟨⟨old,st1⟩,st2⟩:=st
  rcases q0l.mp hb with rfl|hb
  ·exact⟨_,st1,fun v z=>by
        have z':Data.fields _=Data.cell v:=z
        cases z'⟩
  ·have e':=q0g.mp hb
   subst e'
   obtain⟨o,_,q,_,_,d⟩:=st2.ob
   exact⟨o,q,fun v z=>by rw[d] at z;cases z⟩
 keep:=fun i h h' st k=>⟨let ⟨old,q⟩:=st.1;⟨old,k e (by simp) _ q⟩,st.2.keep fun o q=>k it (by simp) o q⟩
 item:=by
  intro X hP hw hK hc i pins s σ H E I hf st hg
  subst hP hw hK
  obtain⟨xs,x,hq,hx⟩:=hg
  obtain⟨its,rv,p,hz⟩:=I.sq hq
  obtain⟨u,hu,ru⟩:=rv.get hx
  obtain⟨⟨old,st1⟩,st2⟩:=st
  have he:=hf e (by simp)
  have hi:=hf it (by simp)
  have hlt:e<s.heap.objs.size:=q0p st1
  have hlt2:it<s.heap.objs.size:=by obtain⟨o,_,q,_⟩:=st2.ob;exact q0p q
  have ane:a≠it:=I.sq_ne hq hi
  have aee:a≠e:=I.sq_ne hq he
  have hlt3:i<its.toArray.size:=by
   rw[q0h]
   exact (q0E.mp hu).1
  refine wpAny_pyNext_enum_itemD (z8E (prog:=X.prog) (w:=X.w) (A:=X.A.in1) (I.ok.hd hc) b it a ane its.toArray) st1 ⟨st2,p⟩ hlt3 hne (by simp[hne,Ne.symm aee]) fun x2 h' tk hP ho' st' hT hsz kk=>?_
  have ex:x2=u:=by
   have:its[i]? =some x2:=by simpa using hP
   rw[hu] at this
   exact (Option.some.inj this).symm
  subst ex
  refine⟨_,rfl,wpAny_letOwnedTupleGo_enum ho' fun h2 he2 hs2=>?_⟩
  have hT2:h2.get? s.heap.objs.size=some {cls:= .type "tuple",data:= .seq #[.int i tk,x2]}:=hs2.extBut _ _ (Nat.ne_of_gt hlt) hT
  have I1:Inv X pins σ (upd H s.heap.objs.size (.tup [.int i,x])) {s with heap:=h2,toks:=tk+1}:=by
   refine I.turnedLaid (fp:=[e,it]) hf (fun c ob hb q=>?_) (q0e _) ?_
   ·have hb1:c≠e:=fun z=>hb (by simp[z])
    have hb2:c≠it:=fun z=>hb (by simp[z])
    exact hs2.extBut c ob hb1 (kk c ob hb1 hb2 q)
   ·exact⟨by show 2≤sizeLine;decide,[.int i tk,x2],.cons ⟨_,rfl⟩ (.cons ru .nil),_,hT2,rfl,_,rfl⟩
  refine⟨.ref s.heap.objs.size,_,I1,rfl,⟨_,x,rfl,I.hok.fresh (q0e _),fun ys hy=>by rw[I.sq_inj hy hq];exact hx,rfl⟩,⟨⟨_,by simpa using he2⟩,?_⟩,fun c hb=>?_⟩
  ·exact st'.1.keep fun o q=>hs2.extBut it o (Ne.symm hne) q
  ·rcases q0l.mp hb with rfl|hb
   ·rw[z0m (q0r hlt)];exact he.1
   ·have e':=q0g.mp hb
    subst e'
    rw[z0m (q0r hlt2)];exact hi.1
 done:=by
  intro X hP hw hK hc i pins s σ H E I hf st hg
  subst hP hw hK
  obtain⟨xs,hq,hx⟩:=hg
  obtain⟨its,rv,p,hz⟩:=I.sq hq
  obtain⟨⟨old,st1⟩,st2⟩:=st
  have hl:=rv.length
  have ane:a≠it:=I.sq_ne hq (hf it (by simp))
  have en:i=its.toArray.size:=by rw[q0h];lia
  subst en
  refine wpAny_pyNext_enum_endD (z8E (prog:=X.prog) (w:=X.w) (A:=X.A.in1) (I.ok.hd hc) b it a ane its.toArray) st1 ⟨st2,p⟩ fun h' eb=>⟨rfl,?_⟩
  exact I.turnedAll (t':=s.toks) (fp:=[e,it]) hf fun c ob hb q=>eb c ob (fun z=>hb (by simp[z])) q
 self:=fun _ _ _ _ _ st h=>let ⟨_,q⟩:=st.1;wpAny_pyIter_enum q h
section
variable {X:Cx}{K:PySem.W.Frag}
def y5W (K:PySem.W.Frag) (tl:TA):TI:=fun σ H R=>tl σ H fun vs H1=>∃a b xs,vs=[.ref a]∧SqB b K H1 a xs∧R (Iteb K b a) H1
theorem z8b (h:X.K=K) {elts:List Expr}{k:Nat}{tpos:Pos}{l:Expr}{tl:TA}{p pos:Pos} (hg:Gl X "enumerate") (hm:X.mg "enumerate"=none) (ha:PA X [l] tl) (hs:starEach [l] X.env=[(false,eval l X.env)]:=by rfl):
 PI X (.Tuple elts k tpos) (.Call (.Name "enumerate" p) [l] [] pos) (y5W K tl):=by
 subst h
 intro pins s σ H R I h
 refine Call_ (z3P I hg hm boot_enumerate (PyProof.Rows.callWith_type1 (thn (ha pos pins s σ H _ I h) fun us s1 ⟨vs,H1,I1,r1,q1⟩=>?_) hs rfl))
 obtain⟨a,b,xs,e,hq,q⟩:=q1
 subst e
 cases r1 with
 |cons r rr=>
  cases rr
  cases r
  obtain⟨its,rv,p1,_⟩:=I1.sq hq
  refine z9z p1 fun h' he hit kk=>wpAny_pyIter_enum he ?_
  have I2:Inv X pins σ H1 {s1 with heap:=h'}:=I1.kept (t':=s1.toks) kk
  refine⟨_,[s1.heap.objs.size+1,s1.heap.objs.size],_,_,H1,rfl,I2,z8Q b a _ _ (Nat.succ_ne_self _),⟨⟨_,he⟩,hit⟩,fun c hb=>?_,q⟩
  have fr:∀c,s1.heap.objs.size≤c→H1 c=none:=fun c hc=>I1.hok.fresh hc
  rcases q0l.mp hb with rfl|hb
  ·exact I1.fpOk (Nat.le_succ _) (fr _ (Nat.le_succ _))
  ·have e':=q0g.mp hb
   subst e'
   exact I1.fpOk (q0e _) (fr _ (q0e _))
theorem z8Z (K:PySem.W.Frag) (b:Bool) (a:Addr) (xs:List V):z6a (Iteb K b a) xs.length (fun H=>SqB b K H a xs) (fun i H x H'=>∃p v,x= .ref p∧H p=none∧xs[i]? =some v∧H'=upd H p (.tup [.int i,v])) where
 go:=fun i H h hi=>⟨xs,xs[i],h,by simp[hi]⟩
 stop:=fun H h=>⟨xs,h,rfl⟩
 yld:=fun i H x H' h hi y=>let ⟨p,v,e,hn,hv,e2⟩:=y;⟨p,v,e,hn,hv xs h,e2⟩
end
end L2
namespace L2
open PySem PySem.Spec PyProof.Rows
theorem y4j {α:Type} (L:List α) (a b c d:α):((((L.set 0 a).set 1 b).set 0 c).set 1 d)=(L.set 0 c).set 1 d:=by
 match L with
 |[]=>rfl
 |[_]=>rfl
 |_::_::_=>rfl
theorem z2A {J:It}{n:Nat}{Ok:Hp→Prop}{ps:List (V×V)} (hx:n=ps.length) (R:z6a J n Ok (fun i H x H'=>∃p u v,x= .ref p∧H p=none∧ps[i]? =some (u,v)∧H'=upd H p (.tup [u,v]))) {fr:List (Option Nat)}{g:TG}{tt:TT}{te:TE}{σ:St}{H1:Hp}{Q:VK}{D:Addr} (hD:H1 D=none) (tst:V×V→Bool) (val:V×V→V)
 (hg:∀p u v σ H,H p=some (.tup [u,v])→∀S:St→Hp→Prop,S ((σ.set 0 (some u)).set 1 (some v)) H→g (.ref p) σ H S)
 (hok:∀H,Same H1 H→Ok H) (hn:n≤sizeLine)
 (ht:∀c∈ps,∀Hc,Same H1 Hc→∀S:Bool→Hp→Prop,S (tst c) Hc→tt (((z0G fr σ).set 0 (some c.1)).set 1 (some c.2)) Hc S)
 (hv:∀c∈ps,tst c=true→∀Hc,Same H1 Hc→∀S:VK,S (val c) Hc→te (((z0G fr σ).set 0 (some c.1)).set 1 (some c.2)) Hc S)
 (q:∀H',Same H1 H'→H' D=some (.lst ((ps.filter tst).map val))→Q (.ref D) H'):
 z3U J g tt te Q D (z0G fr σ) (upd H1 D (.lst [])):=by
 subst hx
 refine z4H R (fun i acc σ' H'=>((∃o1 o2,σ'=((z0G fr σ).set 0 o1).set 1 o2)∨σ'=z0G fr σ)∧Same H1 H'∧H' D=some (.lst acc)∧acc=((ps.take i).filter tst).map val) ⟨.inr rfl,z0f hD _,z0c,by simp⟩ ?_ hn ?_ ?_
 ·rintro i acc σ' H' hi ⟨_,hs,_,rfl⟩
  refine⟨hok _ hs,?_⟩
  rw[q0b]
  refine q0o (q1I _ _) ?_
  rw[q0n];lia
 ·rintro N i x acc σ' H' H'' hi ⟨hσ,hs,hd,ha⟩ ⟨p,u,v,rfl,hp,hc,rfl⟩ n1 n2
  have g2:=z0f hp (.tup [u,v])
  have hs2:=hs.trans g2
  have hd2:=g2 _ _ hd
  have e2:upd H' p (.tup [u,v]) p=some (.tup [u,v]):=z0c
  generalize upd H' p (.tup [u,v])=H2 at*
  have hm:(u,v)∈ps:=q0u hc
  have tk:ps.take (i+1)=ps.take i++[(u,v)]:=by rw[q0Q,hc];rfl
  have eσ:(σ'.set 0 (some u)).set 1 (some v)=((z0G fr σ).set 0 (some u)).set 1 (some v):=by
   rcases hσ with⟨o1,o2,rfl⟩|rfl
   ·exact y4j _ _ _ _ _
   ·rfl
  refine hg p u v σ' H2 e2 _ ?_
  rw[eσ]
  refine ht (u,v) hm H2 hs2 _ ?_
  cases hb:tst (u,v) with
  |true=>
   refine z7x ?_
   refine hv (u,v) hm hb H2 hs2 _ ?_
   refine n1 _ _ _ hd2 ⟨.inl ⟨_,_,rfl⟩,fun b o e=>?_,z0c,?_⟩
   ·rw[z0m (z0i e hD)];exact hs2 _ _ e
   ·rw[tk,ha,q1c,q0H,q0O hb];rfl
  |false=>
   refine z3r ?_
   refine n2 _ _ ⟨.inl ⟨_,_,rfl⟩,hs2,hd2,?_⟩
   rw[tk,ha,q1c,q0H,q0U (by simp[hb])];simp
 ·rintro acc σ' H' ⟨_,hs,hd,ha⟩
  rw[q0R] at ha
  exact q H' hs (by rw[hd,ha])
def z4N (xs:List V):List (V×V):=xs.mapIdx fun i x=>(.int (i:Nat),x)
theorem z4Y (K:PySem.W.Frag) (b:Bool) (a:Addr) (xs:List V):z6a (Iteb K b a) (z4N xs).length (fun H=>SqB b K H a xs) (fun i H x H'=>∃p u v,x= .ref p∧H p=none∧(z4N xs)[i]? =some (u,v)∧H'=upd H p (.tup [u,v])):=by
 have r:=z8Z K b a xs
 have el:(z4N xs).length =xs.length:=List.length_mapIdx
 rw[el]
 exact⟨r.go,r.stop,fun i H x H' h hi y=>by
  obtain⟨p,v,e,hn,hv,e2⟩:=r.yld i H x H' h hi y
  exact⟨p,_,v,e,hn,by unfold z4N;rw[List.getElem?_mapIdx,hv];rfl,e2⟩⟩
theorem z2b (K:PySem.W.Frag) (b c:Bool) (l m:Addr) (xs ys:List V):z6a (Itz K b c l m) (xs.zip ys).length (fun H=>SqB b K H l xs∧SqB c K H m ys) (fun i H x H'=>∃p u v,x= .ref p∧H p=none∧(xs.zip ys)[i]? =some (u,v)∧H'=upd H p (.tup [u,v])):=by
 have r:=y2j K b c l m xs ys
 have el:(xs.zip ys).length =min xs.length ys.length:=q1e
 rw[el]
 exact⟨r.go,r.stop,fun i H x H' h hi y=>by
  obtain⟨p,u,v,e,hn,hu,hv,e2⟩:=r.yld i H x H' h hi y
  exact⟨p,u,v,e,hn,by rw[q0Y];exact⟨hu,hv⟩,e2⟩⟩
end L2
namespace L2
open PySem PySem.Spec PyProof.Rows
open Builtin.Int (intBits)
namespace Rk
def fp (r:List Int):Nat:=r.findIdx (· != 0)
theorem y2T {r:List Int} (h:∃n∈r,n≠0):fp r<r.length:=by
 unfold fp
 rw[List.findIdx_lt_length]
 obtain⟨n,hn,h0⟩:=h
 exact⟨n,hn,by simpa using h0⟩
theorem z2q {r:List Int} (h:∃n∈r,n≠0):v r (fp r)≠0:=by
 have hl:=y2T h
 show r.getD (fp r) 0≠0
 rw[q0a,q0c hl,Option.getD_some]
 have:=List.findIdx_getElem (xs:=r) (p:=fun n=>n != 0) (w:=hl)
 intro z
 have z':r[List.findIdx (fun n=>n != 0) r]=0:=z
 rw[z'] at this
 exact absurd this (by decide)
theorem z1f {r:List Int}{j:Nat} (h:j<fp r):v r j=0:=by
 show r.getD j 0=0
 rw[q0a]
 cases e:r[j]? with
 |none=>rfl
 |some n=>
  obtain⟨hl,e2⟩:=q0E.mp e
  have:=List.not_of_lt_findIdx (p:=fun n=>n != 0) (xs:=r) h
  rw[←e2]
  simpa using this
theorem z1M {r:List Int}{l:Nat} (h1:v r l≠0) (h2:∀j,j<l→v r j=0):fp r=l:=by
 have hex:∃n∈r,n≠0:=by
  have hl:l<r.length:=q0w fun hn=>h1 (by
   show r.getD l 0=0
   rw[q0a,q1o (by lia)];rfl)
  refine⟨r[l],q0y hl,fun z=>h1 ?_⟩
  show r.getD l 0=0
  rw[q0a,q0c hl,Option.getD_some,z]
 rcases Nat.lt_trichotomy (fp r) l with h|h|h
 ·exact absurd (h2 _ h) (z2q hex)
 ·exact h
 ·exact absurd (z1f h) h1
theorem z5k:∀(r:List Int) (k:Nat),(∃n∈r,n≠0)→((((r.map V.int).mapIdx fun i x=>(V.int ((i+k:Nat):Int),x)).filter fun c=>match c.2 with| .int n=> !decide (V.int n=V.int 0)|_=>false).map Prod.fst)[0]? =some (V.int ((fp r+k:Nat):Int))
 |[],_,h=>by obtain⟨n,hn,_⟩:=h;simp at hn
 |m::r,k,h=>by
  rw[q0t,List.mapIdx_cons]
  by_cases hm:m=0
  ·subst hm
   rw[q0U (by simp)]
   have h':∃n∈r,n≠0:=by
        obtain⟨n,hn,h0⟩:=h
        rcases q0l.mp hn with rfl|hn
        ·exact absurd rfl h0
        ·exact⟨n,hn,h0⟩
   have ih:=z5k r (k+1) h'
   have e:fp (0::r)=fp r+1:=by unfold fp;rw[List.findIdx_cons];rfl
   rw[e,show fp r+1+k=fp r+(k+1) by lia]
   rw[show (fun i x=>(fun i x=>(V.int ((i+k:Nat):Int),x)) (i+1) x)=(fun (i:Nat) (x:V)=>(V.int ((i+(k+1):Nat):Int),x)) from by funext i x;show (V.int ((i+1+k:Nat):Int),x)=_;rw[show i+1+k=i+(k+1) by lia]]
   exact ih
  ·rw[q0O (by simp[hm])]
   have e:fp (m::r)=0:=by unfold fp;rw[List.findIdx_cons,show (m != 0)=true from by simpa using hm];rfl
   rw[e];rfl
def z3O (xs rs:List Int):Int:=(v rs (fp rs)).fdiv (Int.gcd (v rs (fp rs)) (v xs (fp rs)))
def z2j (xs rs:List Int):Int:=(v xs (fp rs)).fdiv (Int.gcd (v rs (fp rs)) (v xs (fp rs)))
def z0p (xs rs:List Int):List Int:=List.zipWith (fun one other=>z3O xs rs*one - z2j xs rs*other) xs rs
theorem z8A {a b:Int} (h:a≠0):((Int.gcd a b:Nat):Int)≠0:=fun z=>h (Int.gcd_eq_zero_iff.mp (Int.ofNat_eq_zero.mp z)).1
theorem z8f {xs rs:List Int} (h:∃n∈rs,n≠0):z3O xs rs≠0:=Wl.fdiv_ne (q1w ..) (z2q h)
theorem z3g {xs rs:List Int} (h:∃n∈rs,n≠0):z3O xs rs*v xs (fp rs)=z2j xs rs*v rs (fp rs):=by
 have g0:=z8A (b:=v xs (fp rs)) (z2q h)
 have e1:=Wl.fdiv_mul (q1w (a:=v rs (fp rs)) (b:=v xs (fp rs)))
 have e2:=Wl.fdiv_mul (Int.gcd_dvd_right (a:=v rs (fp rs)) (b:=v xs (fp rs)))
 unfold z3O z2j
 generalize ((Int.gcd (v rs (fp rs)) (v xs (fp rs)):Nat):Int)=g at*
 generalize (v rs (fp rs)).fdiv g=o at*
 generalize (v xs (fp rs)).fdiv g=l at*
 rw[←e1,←e2]
 grind
theorem z2l {xs rs:List Int} (hl:xs.length=rs.length) (j:Nat):v (z0p xs rs) j=z3O xs rs*v xs j - z2j xs rs*v rs j:=
 y3Z (f:=fun one other=>z3O xs rs*one - z2j xs rs*other) (by simp) xs rs hl j
theorem z1N {xs rs:List Int} (hl:xs.length=rs.length):(z0p xs rs).length =xs.length:=by
 unfold z0p;rw[List.length_zipWith];lia
end Rk
end L2
namespace L2
open PySem PySem.Spec PyProof.Rows
open Builtin.Int (intBits)
namespace Rk
open Wl
theorem z1w {r:List Int} (j:Nat):v (z0l r) j*byL r=v r j:=by
 show (z0l r).getD j 0*byL r=r.getD j 0
 unfold z0l
 rw[q0a,q0a,q0k]
 cases e:r[j]? with
 |none=>simp
 |some n=>
  show n.fdiv (byL r)*byL r=n
  exact fdiv_mul (z5U (q0u e))
theorem plain_len (r:List Int):(z0l r).length =r.length:=by unfold z0l;rw[List.length_map]
theorem z1F {r:List Int} (h:∃n∈r,n≠0) (j:Nat):v (z0l r) j=0↔v r j=0:=by
 constructor
 ·intro z
  rw[←z1w,z];lia
 ·intro z
  have:=z1w (r:=r) j
  rw[z] at this
  exact (q1u.mp this).resolve_right (z2T h)
theorem y2q {r:List Int} (h:∃n∈r,n≠0):∃n∈z0l r,n≠0:=by
 obtain⟨n,hn,h0⟩:=h
 refine⟨n.fdiv (byL r),?_,fdiv_ne (z5U hn) h0⟩
 unfold z0l
 exact q0z hn
theorem z8t {s:Int}:∀(r:List Int),(∀n∈r,s∣n)→z1a (r.map fun n=>n.fdiv s)=(z1a r).fdiv s
 |[],_=>by show (0:Int)=(0:Int).fdiv s;simp
 |n::r,h=>by
  show (if n.fdiv s=0 then z1a (r.map fun n=>n.fdiv s) else n.fdiv s)=(if n=0 then z1a r else n).fdiv s
  have ih:=z8t r fun m hm=>h m (q0i _ hm)
  by_cases h0:n=0
  ·subst h0
   rw[if_pos (by simp),if_pos rfl,ih]
  ·rw[if_neg (fdiv_ne (h n q0j) h0),if_neg h0]
theorem z1J {r:List Int} (h:∃n∈r,n≠0):z0l (z0l r)=z0l r:=by
 have b0:=z2T h
 have dv:∀n∈r,byL r∣n:=fun n hn=>z5U hn
 have el:z1a (z0l r)=(z1a r).fdiv (byL r):=z8t r dv
 have ln:=z5J h
 have ld:byL r∣z1a r:=by
  have:z1a r∈r∨z1a r=0:=by
   clear h b0 dv el ln
   induction r with
   |nil=>exact .inr rfl
   |cons n r ih=>
    by_cases h0:n=0
    ·have e:z1a (n::r)=z1a r:=if_pos h0
     rw[e]
     rcases ih with ih|ih
     ·exact .inl (q0i _ ih)
     ·exact .inr ih
    ·have e:z1a (n::r)=n:=if_neg h0
     rw[e];exact .inl q0j
  rcases this with h1|h1
  ·exact dv _ h1
  ·exact absurd h1 ln
 have em:=fdiv_mul ld
 have pos:0<z1a (z0l r):=by
  rw[el]
  generalize hq:(z1a r).fdiv (byL r)=q at*
  have hg:0<(z1S r:Int):=by have:=z2k h;lia
  by_cases hn:z1a r<0
  ·have eb:byL r= -(z1S r:Int):=by unfold byL;rw[if_pos hn]
   rw[eb] at em
   refine q0w fun hc=>?_
   have:0≤(-q)*(z1S r:Int):=q1y (by lia) (by lia)
   have e2:q* -(z1S r:Int)=(-q)*(z1S r:Int):=by grind
   lia
  ·have eb:byL r=(z1S r:Int):=by unfold byL;rw[if_neg hn]
   rw[eb] at em
   refine q0w fun hc=>?_
   have:0≤(-q)*(z1S r:Int):=q1y (by lia) (by lia)
   have e2:q*(z1S r:Int)= -((-q)*(z1S r:Int)):=by grind
   lia
 have g1:(z1S (z0l r):Int)∣1:=by
  have hb:∀n∈r,(z1S (z0l r):Int)*byL r∣n:=fun n hn=>by
   have h1:(z1S (z0l r):Int)∣n.fdiv (byL r):=z4g (by unfold z0l;exact List.mem_map_of_mem hn)
   have:=Int.mul_dvd_mul h1 (Int.dvd_refl (byL r))
   rw[fdiv_mul (dv n hn)] at this
   exact this
  have h2:=y2W hb
  have h3:(z1S r:Int)∣byL r:=by
   unfold byL
   split
   ·exact Int.dvd_neg.mpr (Int.dvd_refl _)
   ·exact Int.dvd_refl _
  have h4:=Int.dvd_trans h2 h3
  obtain⟨c,hc⟩:=h4
  refine⟨c,?_⟩
  have:byL r*(z1S (z0l r)*c)=byL r*1:=by rw[Int.mul_one];conv=>rhs;rw[hc]
                                         grind
  exact (Int.eq_of_mul_eq_mul_left b0 this).symm
 have g2:(z1S (z0l r):Int)=1:=by
  have:=Int.eq_one_of_dvd_one (by lia) g1
  exact this
 have eb:byL (z0l r)=1:=by
  unfold byL
  rw[if_neg (by lia),g2]
 have:z0l (z0l r)=(z0l r).map fun n=>n.fdiv 1:=by
  show (z0l r).map (fun n=>n.fdiv (byL (z0l r)))=_
  rw[eb]
 rw[this]
 conv=>rhs;rw[←List.map_id (z0l r)]
 exact q1l fun n _=>by simp
end Rk
end L2
namespace L2
namespace Rk
open Wl
structure Rws (m:Nat) (us:List (List Int)):Prop where
 row:∀t∈us,t.length=m+1∧fp t<m∧z0l t=t
 up:us.Pairwise fun a b=>fp a<fp b
 off:∀s∈us,∀t∈us,fp s≠fp t→v s (fp t)=0
theorem Rws.nil {m:Nat}:Rws m []:=⟨fun t h=>by simp at h,.nil,fun t h=>by simp at h⟩
theorem z3G {t:List Int}{j:Nat} (h:v t j≠0):∃n∈t,n≠0:=by
 have h':t.getD j 0≠0:=h
 rw[q0a] at h'
 cases e:t[j]? with
 |none=>rw[e] at h';exact absurd rfl h'
 |some n=>rw[e] at h';exact⟨n,List.mem_of_getElem? e,h'⟩
theorem z6E {t:List Int} (h:fp t<t.length):∃n∈t,n≠0:=by
 unfold fp at h
 rw[List.findIdx_lt_length] at h
 obtain⟨n,hn,h0⟩:=h
 exact⟨n,hn,by simpa using h0⟩
theorem z1Q {r:List Int} (h:∃n∈r,n≠0):fp (z0l r)=fp r:=
 z1M (fun z=>z2q h ((z1F h _).mp z)) fun j hj=>(z1F h j).mpr (z1f hj)
theorem Rws.nz {m:Nat}{us:List (List Int)} (h:Rws m us) {t:List Int} (ht:t∈us):∃n∈t,n≠0:=by
 obtain⟨a,b,_⟩:=h.row t ht
 exact z6E (by lia)
theorem Rws.inj {m:Nat}{us:List (List Int)} (h:Rws m us) {s t:List Int} (hs:s∈us) (ht:t∈us) (e:fp s=fp t):s=t:=by
 have hu:=h.up
 clear h
 induction hu with
 |nil=>simp at hs
 |cons h1 _ ih=>
  rcases q0l.mp hs with e1|h2<;>rcases q0l.mp ht with e2|h3
  ·rw[e1,e2]
  ·have:=h1 _ h3;rw[e1] at e;lia
  ·have:=h1 _ h2;rw[e2] at e;lia
  ·exact ih h2 h3
theorem Rws.red {m:Nat}{us:List (List Int)} (h:Rws m us):Red m (us.map fun t=>(v t,fp t)):=by
 refine⟨fun p hp=>?_,?_,fun p hp q hq hne=>?_⟩
 ·obtain⟨t,ht,rfl⟩:=q0f.mp hp
  exact⟨(h.row t ht).2.1,z2q (h.nz ht),fun j hj=>z1f hj⟩
 ·rw[q0Z];exact h.up
 ·obtain⟨s,hs,rfl⟩:=q0f.mp hp
  obtain⟨t,ht,rfl⟩:=q0f.mp hq
  exact h.off s hs t ht hne
theorem z4E (us:List (List Int)):(us.map fun t=>(v t,fp t)).map Prod.fst=us.map v:=by rw[q0M];rfl
theorem Rws.dim {m n:Nat}{us:List (List Int)} (h:Rws m us) (hn:m≤n):Rk.dim n (In (us.map v))=us.length:=by
 have:=h.red.dim hn
 rw[z4E,q0b] at this
 exact this
theorem y0i {m:Nat}{us:List (List Int)} (h:Rws m us) {xs:List Int}:∀(todo:List (List Int)) (y:List Int) (c:Int) (seen:List (List Int)),(∀t∈todo,t∈us)→(∀t∈seen,t∈us∧v y (fp t)=0)→y.length=m+1→c≠0→Sm (us.map v) (fun j=>v y j - c*v xs j)→
 (todo.foldl z0p y).length =m+1∧(∀t∈seen++todo,v (todo.foldl z0p y) (fp t)=0)∧∃c',c'≠0∧Sm (us.map v) fun j=>v (todo.foldl z0p y) j - c'*v xs j
 |[],y,c,seen,_,hs,hl,hc,hS=>⟨hl,fun t ht=>(hs t (by simpa using ht)).2,c,hc,hS⟩
 |t::todo,y,c,seen,ht,hs,hl,hc,hS=>by
  have htu:=ht t q0j
  have hlen:y.length=t.length:=by rw[hl,(h.row t htu).1]
  have st:=y0g (R:=us.map fun t=>(v t,fp t)) h.red (q:=(v t,fp t)) (q0f.mpr ⟨t,htu,rfl⟩) (x:=v y) (y:=v (z0p y t)) (x0:=v xs) (own:=z3O y t) (less:=z2j y t) (c:=c) (z8f (h.nz htu)) (z3g (h.nz htu)) (fun j=>z2l hlen j) hc (by rw[z4E];exact hS)
  rw[z4E] at st
  obtain⟨a1,a2,a3,a4⟩:=st
  have r:=y0i h (xs:=xs) todo (z0p y t) (z3O y t*c) (seen++[t]) (fun s hs'=>ht s (q0i _ hs')) (fun s hs'=>by
   rcases q0s.mp hs' with h1|h1
   ·obtain⟨b1,b2⟩:=hs s h1
    exact⟨b1,a2 (v s,fp s) (q0f.mpr ⟨s,b1,rfl⟩) b2⟩
   ·rw[q0g.mp h1];exact⟨htu,a1⟩) (by rw[z1N hlen,hl]) a3 a4
  rw[q1B,List.singleton_append] at r
  exact r
theorem Rws.rest {m:Nat}{us:List (List Int)} (h:Rws m us) {xs:List Int} (hl:xs.length=m+1):
 (us.foldl z0p xs).length =m+1∧(∀t∈us,v (us.foldl z0p xs) (fp t)=0)∧∃c,c≠0∧Sm (us.map v) fun j=>v (us.foldl z0p xs) j - c*v xs j:=by
 have:=y0i h (xs:=xs) us xs 1 [] (fun t ht=>ht) (fun t ht=>by simp at ht) hl (by decide) (Sm.zero.cast fun j=>by lia)
 simpa using this
def z2R (r:List Int) (t:List Int):List Int:=z0l (z0p t r)
theorem Rws.more {m:Nat}{us us':List (List Int)}{xs:List Int} (h:Rws m us) (hl:xs.length=m+1) (hnz:∃j,j<m∧v (us.foldl z0p xs) j≠0)
 (hp:us'.Perm (us.map (z2R (z0l (us.foldl z0p xs)))++[z0l (us.foldl z0p xs)])) (hs:us'.Pairwise fun a b=>fp a≤fp b):
 Rws m us'∧In (us'.map v)=In (v xs::us.map v)∧us'.length=us.length+1:=by
 obtain⟨r1,r2,c,c0,r3⟩:=h.rest hl
 generalize us.foldl z0p xs=rest at*
 obtain⟨j0,hj0,hj1⟩:=hnz
 have nzr:∃n∈rest,n≠0:=z3G hj1
 have ha:z0l (z0l rest)=z0l rest:=z1J nzr
 have nza:=y2q nzr
 have la:(z0l rest).length =m+1:=by rw[plain_len,r1]
 have za:∀t∈us,v (z0l rest) (fp t)=0:=fun t ht=>(z1F nzr _).mpr (r2 t ht)
 have fpa:fp (z0l rest)<m:=by
  rw[z1Q nzr]
  refine q0w fun hc=>hj1 (z1f ?_)
  lia
 have spn:In (v (z0l rest)::us.map v)=In (v xs::us.map v):=by
  rw[←z6t c0 r3]
  refine In.same (fun r hr=>?_) (fun r hr=>?_)
  ·rcases q0l.mp hr with rfl|hr
   ·refine In.div (z2T nzr) ?_
    exact (In.one (r:=v rest) q0j).cast fun j=>by rw[←z1w (r:=rest) j,q1p]
   ·exact In.one (q0i _ hr)
  ·rcases q0l.mp hr with rfl|hr
   ·exact ((In.one (r:=v (z0l rest)) q0j).mul (byL rest)).cast fun j=>by rw[←z1w (r:=rest) j,q1p]
   ·exact In.one (q0i _ hr)
 generalize z0l rest=a at*
 have cl:∀t∈us,t.length=a.length:=fun t ht=>by rw[(h.row t ht).1,la]
 have cv:∀t∈us,∀j,v (z0p t a) j=z3O t a*v t j - z2j t a*v a j:=fun t ht j=>z2l (cl t ht) j
 have ne:∀t∈us,fp t≠fp a:=fun t ht e=>z2q nza (by rw[←e];exact za t ht)
 have l0:∀t∈us,fp a<fp t→z2j t a=0:=fun t ht hlt=>by
  have e:=z3g (xs:=t) nza
  rw[z1f hlt,q0T] at e
  exact (q1u.mp e.symm).resolve_right (z2q nza)
 have kn0:∀t∈us,v (z0p t a) (fp t)≠0:=fun t ht=>by
  rw[cv t ht,za t ht,q0T,Int.sub_zero]
  exact q1g (z8f nza) (z2q (h.nz ht))
 have knz:∀t∈us,∃n∈z0p t a,n≠0:=fun t ht=>z3G (kn0 t ht)
 have kfp0:∀t∈us,fp (z0p t a)=fp t:=fun t ht=>z1M (kn0 t ht) fun j hj=>by
  rw[cv t ht,z1f hj,q0T]
  by_cases hlt:fp a<fp t
  ·rw[l0 t ht hlt];lia
  ·rw[z1f (r:=a) (j:=j) (by have:=ne t ht;lia)];lia
 have kfp:∀t∈us,fp (z2R a t)=fp t:=fun t ht=>by unfold z2R;rw[z1Q (knz t ht),kfp0 t ht]
 have mem':∀u,u∈us'↔u=a∨∃t∈us,u=z2R a t:=fun u=>by
  rw[hp.mem_iff,q0s,q0f,q0g]
  constructor
  ·rintro (⟨t,ht,rfl⟩|rfl)
   ·exact .inr ⟨t,ht,rfl⟩
   ·exact .inl rfl
  ·rintro (rfl|⟨t,ht,rfl⟩)
   ·exact .inr rfl
   ·exact .inl ⟨t,ht,rfl⟩
 have nd:(us'.map fp).Nodup :=by
  have e:(us.map (z2R a)++[a]).map fp=us.map fp++[fp a]:=by
   rw[q0H,q0M]
   congr 1
   exact q1l fun t ht=>kfp t ht
  refine ((hp.map fp).nodup_iff).mpr ?_
  rw[e]
  refine q1A.mpr ⟨?_,by simp,fun x hx y hy=>?_⟩
  ·have:(us.map fp).Pairwise (· < ·):=by rw[q0Z];exact h.up
   exact this.imp fun hlt=>by lia
  ·rw[q0g] at hy
   obtain⟨t,ht,rfl⟩:=q0f.mp hx
   rw[hy];exact ne t ht
 have up':us'.Pairwise fun a b=>fp a<fp b:=by
  have nd':us'.Pairwise fun a b=>fp a≠fp b:=by
   have:(us'.map fp).Pairwise (· ≠ ·):=nd
   rw[q0Z] at this
   exact this
  exact hs.imp₂ (fun hle hne=>by lia) nd'
 let k:(Nat→Int)×Nat→Nat→Int:=fun p=>match us.find? fun t=>fp t==p.2 with
  |some t=>v (z2R a t)
  |none=>fun _=>0
 have kk:∀t∈us,k (v t,fp t)=v (z2R a t):=fun t ht=>by
  show (match us.find? fun s=>fp s==fp t with|some s=>v (z2R a s)|none=>fun _=>0)=_
  cases e:us.find? fun s=>fp s==fp t with
  |none=>
   have:=List.find?_eq_none.mp e t ht
   simp at this
  |some s=>
   have h1:=List.mem_of_find?_eq_some e
   have h2:=List.find?_some e
   rw[h.inj h1 ht (by simpa using h2)]
 have rm:=Red.more (R:=us.map fun t=>(v t,fp t)) (R':=us'.map fun t=>(v t,fp t)) (x:=v a) (l:=fp a) k h.red ⟨fpa,z2q nza,fun j hj=>z1f hj⟩ (fun p hp=>by
  obtain⟨t,ht,rfl⟩:=q0f.mp hp
  exact za t ht) (fun p hp=>by
  obtain⟨t,ht,rfl⟩:=q0f.mp hp
  refine⟨byL (z0p t a),z3O t a,z2j t a,z2T (knz t ht),z8f nza,z3g nza,fun j=>?_⟩
  rw[kk t ht,q1p]
  show v (z0l (z0p t a)) j*_=_
  rw[z1w,cv t ht]) (fun q=>by
  rw[q0f]
  constructor
  ·rintro⟨u,hu,rfl⟩
   rcases (mem' u).mp hu with rfl|⟨t,ht,rfl⟩
   ·exact .inl rfl
   ·exact .inr ⟨(v t,fp t),q0f.mpr ⟨t,ht,rfl⟩,by rw[kk t ht,kfp t ht]⟩
  ·rintro (rfl|⟨p,hp,rfl⟩)
   ·exact⟨a,(mem' a).mpr (.inl rfl),rfl⟩
   ·obtain⟨t,ht,rfl⟩:=q0f.mp hp
    exact⟨z2R a t,(mem' _).mpr (.inr ⟨t,ht,rfl⟩),by rw[kk t ht,kfp t ht]⟩) (by rw[q0Z];exact up')
 rw[z4E,z4E] at rm
 refine⟨⟨fun u hu=>?_,up',fun s hs t ht hne=>?_⟩,rm.2.trans spn,?_⟩
 ·rcases (mem' u).mp hu with rfl|⟨t,ht,rfl⟩
  ·exact⟨la,fpa,ha⟩
  ·refine⟨?_,?_,z1J (knz t ht)⟩
   ·unfold z2R;rw[plain_len,z1N (cl t ht),cl t ht,la]
   ·rw[kfp t ht];exact (h.row t ht).2.1
 ·exact rm.1.off (v s,fp s) (q0f.mpr ⟨s,hs,rfl⟩) (v t,fp t) (q0f.mpr ⟨t,ht,rfl⟩) hne
 ·rw[hp.length_eq,q0m,q0b];rfl
theorem Rws.same {m:Nat}{us:List (List Int)}{xs:List Int} (h:Rws m us) (hl:xs.length=m+1) (h0:∀j,v (us.foldl z0p xs) j=0):In (us.map v)=In (v xs::us.map v):=by
 obtain⟨_,_,c,c0,r3⟩:=h.rest hl
 exact (y0h c0 r3 h0).symm
theorem Rws.off_all {m:Nat}{us:List (List Int)}{xs:List Int} (h:Rws m us) (hl:xs.length=m+1):In (v xs::us.map v) (v (us.foldl z0p xs)):=by
 obtain⟨_,_,c,c0,r3⟩:=h.rest hl
 rw[←z6t c0 r3]
 exact In.one q0j
end Rk
end L2
namespace L2
open PySem PySem.Spec PyProof.Rows
inductive Each {α β:Type} (R:α→β→Prop):List α→List β→Prop
 |nil:Each R [] []
 |cons {a:α}{b:β}{as:List α}{bs:List β}:R a b→Each R as bs→Each R (a::as) (b::bs)
theorem Each.snoc {α β:Type}{R:α→β→Prop}{as:List α}{bs:List β}{a:α}{b:β} (h:Each R as bs) (e:R a b):Each R (as++[a]) (bs++[b]):=by
 induction h with
 |nil=>exact .cons e .nil
 |cons h1 _ ih=>exact .cons h1 ih
theorem Each.imp {α β:Type}{R S:α→β→Prop}{as:List α}{bs:List β} (f:∀a b,R a b→S a b) (h:Each R as bs):Each S as bs:=by
 induction h with
 |nil=>exact .nil
 |cons h1 _ ih=>exact .cons (f _ _ h1) ih
theorem Each.length {α β:Type}{R:α→β→Prop}{as:List α}{bs:List β} (h:Each R as bs):as.length=bs.length:=by
 induction h with
 |nil=>rfl
 |cons _ _ ih=>rw[List.length_cons,List.length_cons,ih]
theorem Each.get {α β:Type}{R:α→β→Prop}{as:List α}{bs:List β} (h:Each R as bs):∀{i:Nat}{a:α}{b:β},as[i]? =some a→bs[i]? =some b→R a b:=by
 induction h with
 |nil=>intro i a b e;simp at e
 |cons h1 _ ih=>
  intro i a b e1 e2
  cases i with
  |zero=>cases e1;cases e2;exact h1
  |succ i=>exact ih (by simpa using e1) (by simpa using e2)
theorem z2e {J:It}{n:Nat}{Ok:Hp→Prop}{xs:List V} (hx:n=xs.length) (R:z6a J n Ok (fun i H x H'=>H'=H∧xs[i]? =some x)) {fr:List (Option Nat)}{tt:TT}{te:TE}{σ:St}{H1:Hp}{Q:VK}{D:Addr} (hD:H1 D=none) (tst:V→Bool) (Rel:Hp→V→V→Prop)
 (hrel:∀H H' x u,(∀b o,b≠D→H b=some o→H' b=some o)→(∃acc,H D=some (.lst acc))→Rel H x u→Rel H' x u)
 (hok:∀H,Same H1 H→Ok H) (hn:n≤sizeLine)
 (ht:∀x∈xs,∀Hc,Same H1 Hc→∀S:Bool→Hp→Prop,(∀H',Same Hc H'→S (tst x) H')→tt ((z0G fr σ).set 0 (some x)) Hc S)
 (hv:∀x∈xs,tst x=true→∀Hc,Same H1 Hc→(∃acc,Hc D=some (.lst acc))→∀S:VK,(∀u H',Same Hc H'→Rel H' x u→S u H')→te ((z0G fr σ).set 0 (some x)) Hc S)
 (q:∀us H',Same H1 H'→H' D=some (.lst us)→Each (Rel H') (xs.filter tst) us→Q (.ref D) H'):
 z3U J (z9t 0) tt te Q D (z0G fr σ) (upd H1 D (.lst [])):=by
 subst hx
 refine z4H R (fun i acc σ' H'=>(∃o,σ'=(z0G fr σ).set 0 o∨σ'=z0G fr σ)∧Same H1 H'∧H' D=some (.lst acc)∧Each (Rel H') ((xs.take i).filter tst) acc) ⟨⟨none,.inr rfl⟩,z0f hD _,z0c,.nil⟩ ?_ hn ?_ ?_
 ·rintro i acc σ' H' hi ⟨_,hs,_,he⟩
  refine⟨hok _ hs,?_⟩
  rw[←he.length]
  refine q0o (q1I _ _) ?_
  rw[q0n];lia
 ·rintro N i x acc σ' H' H'' hi ⟨hσ,hs,hd,he⟩ ⟨rfl,hx⟩ n1 n2
  have hm:x∈xs:=q0u hx
  have es:σ'.set 0 (some x)=(z0G fr σ).set 0 (some x):=by
   obtain⟨o,e|e⟩:=hσ
   ·rw[e,List.set_set]
   ·rw[e]
  show tt (σ'.set 0 (some x)) _ _
  rw[es]
  have tk:xs.take (i+1)=xs.take i++[x]:=by rw[q0Q,hx];rfl
  refine ht x hm _ hs _ fun H3 g3=>?_
  have hs3:=hs.trans g3
  have hd3:=g3 _ _ hd
  have he3:Each (Rel H3) ((xs.take i).filter tst) acc:=he.imp fun a b h=>hrel _ _ _ _ (fun c o _ e=>g3 _ _ e) ⟨_,hd⟩ h
  cases hb:tst x with
  |true=>
   refine z7x ?_
   refine hv x hm hb _ hs3 ⟨_,hd3⟩ _ fun u H4 g4 hr=>?_
   have hd4:=g4 _ _ hd3
   refine n1 _ _ _ hd4 ⟨⟨_,.inl rfl⟩,fun c o e=>?_,z0c,?_⟩
   ·rw[z0m (z0i e hD)];exact g4 _ _ (hs3 _ _ e)
   ·have up:∀a b,Rel H4 a b→Rel (upd H4 D (.lst (acc++[u]))) a b:=fun a b h=>hrel _ _ _ _ (fun c o hc e=>by rw[z0m hc];exact e) ⟨_,hd4⟩ h
    rw[tk,q1c,q0O hb]
    exact ((he3.imp fun a b h=>up a b (hrel _ _ _ _ (fun c o _ e=>g4 _ _ e) ⟨_,hd3⟩ h)).snoc (up _ _ hr))
  |false=>
   refine z3r ?_
   refine n2 _ _ ⟨⟨_,.inl rfl⟩,hs3,hd3,?_⟩
   rw[tk,q1c,q0U (by simp[hb])]
   simpa using he3
 ·rintro acc σ' H' ⟨_,hs,hd,he⟩
  rw[q0R] at he
  exact q acc H' hs hd he
theorem z6L {J:It}{n:Nat}{Ok:Hp→Prop}{xs:List V} (hx:n=xs.length) (R:z6a J n Ok (fun i H x H'=>H'=H∧xs[i]? =some x)) {fr:List (Option Nat)}{tt:TT}{te:TE}{σ:St}{H1:Hp}{Q:VK}{D:Addr} (hD:H1 D=none) (tst:V→Bool) (Rel:Hp→V→V→Prop)
 (hrel:∀H H' x u,(∀b o,b≠D→H b=some o→H' b=some o)→(∃acc,H D=some (.lst acc))→Rel H x u→Rel H' x u)
 (hok:∀H,Same H1 H→Ok H) (hn:n≤sizeLine)
 (ht:∀x∈xs,∀Hc,Same H1 Hc→∀S:Bool→Hp→Prop,(∀H',Same Hc H'→S (tst x) H')→tt ((z0G fr σ).set 0 (some x)) Hc S)
 (hv:∀x∈xs,tst x=true→∀Hc,Same H1 Hc→∀S:VK,(∀u H',Same Hc H'→Rel H' x u→S u H')→te ((z0G fr σ).set 0 (some x)) Hc S)
 (q:∀us H',Same H1 H'→H' D=some (.lst us)→Each (Rel H') (xs.filter tst) us→Q (.ref D) H'):
 z3U J (z9t 0) tt te Q D (z0G fr σ) (upd H1 D (.lst [])):=
 z2e hx R hD tst Rel hrel hok hn ht (fun x hx1 ht1 Hc g1 _=>hv x hx1 ht1 Hc g1) q
end L2
namespace L2
open PySem PySem.Spec PyProof.Rows
def EL (a:Addr) (e1:Nat):HO:= .ext fun h=>h.get? a=some (seqObj "list" #[] e1)
theorem EL.ok {P:Program}{w:World}{H:Hp}{h:Heap}{a:Addr}{e1:Nat} (e:h.get? a=some (seqObj "list" #[] e1)):ObjOk P w H h a (EL a e1):=⟨e,⟨_,e⟩,fun h1 h2 q k=>k _ q⟩
theorem z6G:∀{kz:List Int}{us:List Value},Vals (kz.map V.int) us→IntsAre us kz
 |[],_,.nil => .nil
 |k::kz,_,.cons r t=>by
  obtain⟨tk,rfl⟩:=r
  exact .cons k tk (z6G t)
section
variable {X:Cx}{pins:List (Addr×Obj)}{σ:St}{H:Hp}{s:Shared}{A:Around}{E:Value→Shared→Prop}{kS a:Addr}{e1:Nat}{xs:List V}{us:List Value}{kz:List Int}{W:PySem.Fin→Shared→Prop}
end
section
variable {X:Cx}{pins:List (Addr×Obj)}{σ:St}{H:Hp}{s:Shared}{k:Nat}{g l:Addr}{gd:FuncData}{ps:List Str}{sp:Sp}{xs:List V}{kz:List Int}
end
end L2
namespace L2
open PySem PySem.Spec PyProof.Rows PySem.MeetsSeq
section
variable {X:Cx}{K:PySem.W.Frag}
end
end L2
namespace L2
open PySem PySem.Spec PyProof.Rows
section
variable {X:Cx}{tg iter elt:Expr}{ifs:List Expr}{scope:Scope}{pos:Pos}{cl:List (Str×Addr)}{Nc:List Str}{fr:List (Option Nat)}{wi:TI}{g:TG}{tt:TT}{te:TE}
end
end L2
namespace L2
open PySem PySem.Spec PyProof.Rows
open Builtin.Int (intBits)
def LsA (H:Hp) (as:List Addr) (ts:List (List Int)):Prop:=as.length=ts.length∧∀(i:Nat) (a:Addr) (t:List Int),as[i]? =some a→ts[i]? =some t→H a=some (.lst (t.map V.int))
theorem LsA.same {H H':Hp}{as:List Addr}{ts:List (List Int)} (g:Same H H') (h:LsA H as ts):LsA H' as ts:=⟨h.1,fun i a t e1 e2=>g _ _ (h.2 i a t e1 e2)⟩
theorem LsA.nil {H:Hp}:LsA H [] []:=⟨rfl,fun i a t e=>by simp at e⟩
abbrev dtL (t:List Int):Dt:= .l (t.map Dt.i)
theorem y0X {K:PySem.W.Frag}{H:Hp}{a:Addr}{ns:List Int} (h:H a=some (.lst (ns.map V.int))):IsD K H (.ref a) (dtL ns):= .l (SqL.of h) (z3m ns)
theorem LsA.isDs {K:PySem.W.Frag}{H:Hp}:∀{as:List Addr}{ts:List (List Int)},LsA H as ts→IsDs K H (as.map V.ref) (ts.map dtL)
 |[],[],_=> .nil
 |a::as,t::ts,h=> .cons (y0X (h.2 0 a t rfl rfl)) (LsA.isDs ⟨by simpa using h.1,fun i b u e1 e2=>h.2 (i+1) b u (by simpa using e1) (by simpa using e2)⟩)
 |[],_::_,h=>by have:=h.1;simp at this
 |_::_,[],h=>by have:=h.1;simp at this
theorem y3H {K:PySem.W.Frag}{H:Hp}{l:Addr}{as:List Addr}{ts:List (List Int)} (h:H l=some (.lst (as.map V.ref))) (t:LsA H as ts):IsD K H (.ref l) (.l (ts.map dtL)):= .l (SqL.of h) t.isDs
theorem z3o {H1 H':Hp}{G F:List V→HO}{g:List Int→List Int} (inj:∀xs ys,G xs=G ys→xs=ys) {as:List Addr}{ts:List (List Int)}{us:List V} (hl:as.length=ts.length) (h:∀(i:Nat) (a:Addr) (t:List Int),as[i]? =some a→ts[i]? =some t→H1 a=some (G (t.map V.int)))
 (e:Each (fun x u=>∃(a:Addr) (t:List Int) (p:Addr),x=V.ref a∧u=V.ref p∧H1 a=some (G (t.map V.int))∧H' p=some (F ((g t).map V.int))) (as.map V.ref) us):
 ∃as':List Addr,us=as'.map V.ref∧as'.length=(ts.map g).length ∧∀(i:Nat) (a:Addr) (t:List Int),as'[i]? =some a→(ts.map g)[i]? =some t→H' a=some (F (t.map V.int)):=by
 induction us generalizing as ts with
 |nil=>
  have:=e.length
  rw[q0b] at this
  have h0:as=[]:=q1j.mp this
  subst h0
  have h1:ts=[]:=q1j.mp (by rw[←hl];rfl)
  subst h1
  exact⟨[],rfl,rfl,fun i a t e=>by simp at e⟩
 |cons u us ih=>
  cases as with
  |nil=>cases e
  |cons a as=>
   cases ts with
   |nil=>simp at hl
   |cons t ts=>
    cases e with
    |cons e1 e2=>
     obtain⟨b,t',p,hb,rfl,h1,h2⟩:=e1
     cases hb
     have ht:=h 0 a t rfl rfl
     rw[ht] at h1
     have et:t=t':=by
      have z:t.map V.int=t'.map V.int:=inj _ _ (Option.some.inj h1)
      exact List.map_inj_right (fun x y h=>by injection h) |>.mp z
     subst et
     obtain⟨as',rfl,hh1,hh2⟩:=ih (by simpa using hl) (fun i b u e1 e2=>h (i+1) b u (by simpa using e1) (by simpa using e2)) e2
     refine⟨p::as',rfl,by simpa using hh1,fun i b u e1 e2=>?_⟩
     cases i with
     |zero=>cases e1;cases e2;exact h2
     |succ i=>exact hh2 i b u (by simpa using e1) (by simpa using e2)
namespace Rk
end Rk
end L2
namespace L2
namespace Rk
open Wl
theorem v_map {c:Int} (rs:List Int) (j:Nat):v (rs.map fun n=>c*n) j=c*v rs j:=by
 show (rs.map fun n=>c*n).getD j 0=c*rs.getD j 0
 rw[q0a,q0a,q0k]
 cases rs[j]? with
 |none=>simp
 |some n=>rfl
theorem y3E:∀r:List Int,z1a r=v r (fp r)
 |[]=>rfl
 |n::r=>by
  by_cases h0:n=0
  ·have e:z1a (n::r)=z1a r:=if_pos h0
   have e2:fp (n::r)=fp r+1:=by unfold fp;rw[List.findIdx_cons,h0];rfl
   rw[e,e2,y3E r];rfl
  ·have e:z1a (n::r)=n:=if_neg h0
   have e2:fp (n::r)=0:=by unfold fp;rw[List.findIdx_cons,show (n != 0)=true from by simpa using h0];rfl
   rw[e,e2];rfl
end Rk
end L2
namespace L2
namespace Dm
open Rk
end Dm
end L2
namespace L2
namespace Pt
open Rk
end Pt
end L2
namespace L2
namespace Rk
open Wl
theorem z7Z {r:List Int} (h:∃n∈r,n≠0) (hp:z0l r=r):byL r=1:=by
 have e:=z1w (r:=r) (fp r)
 rw[hp] at e
 have n0:=z2q h
 have:v r (fp r)*byL r=v r (fp r)*1:=by rw[Int.mul_one];exact e
 exact Int.eq_of_mul_eq_mul_left n0 this
theorem z6v {r:List Int} (h:∃n∈r,n≠0) (hp:z0l r=r):(z1S r:Int)=1:=by
 have hb:=z7Z h hp
 unfold byL at hb
 have hg:=z2k h
 split at hb<;>lia
theorem mem_v {r:List Int}{n:Int} (h:n∈r):∃j,v r j=n:=by
 obtain⟨j,hj,e⟩:=q0v.mp h
 refine⟨j,?_⟩
 show r.getD j 0=n
 rw[q0a,q0c hj,e];rfl
theorem y4a {r s:List Int} (hl:r.length=s.length) (h:∀j,v r j=v s j):r=s:=by
 refine List.ext_getElem hl fun j h1 h2=>?_
 have:=h j
 have e1:v r j=r[j]:=by
  show r.getD j 0=_
  rw[q0a,q0c h1];rfl
 have e2:v s j=s[j]:=by
  show s.getD j 0=_
  rw[q0a,q0c h2];rfl
 rw[←e1,←e2,this]
theorem z8l {a b:Int} (ha:0<a):∀(r:List Int) (g0:Nat),b∣a*(g0:Int)→(∀n∈r,b∣a*n)→b∣a*((r.foldl (fun (g:Nat) n=>Int.gcd (g:Int) n) g0:Nat):Int)
 |[],g0,h,_=>h
 |n::r,g0,h,hr=>by
  rw[List.foldl_cons]
  refine z8l ha r _ ?_ fun m hm=>hr m (q0i _ hm)
  have h1:b∣((Int.gcd (a*(g0:Int)) (a*n):Nat):Int):=Int.dvd_coe_gcd h (hr n q0j)
  rw[Int.gcd_mul_left] at h1
  rw[Int.natCast_mul,Int.natAbs_of_nonneg (by lia)] at h1
  exact h1
theorem y0m {r s:List Int}{a b:Int} (hl:r.length=s.length) (hr:∃n∈r,n≠0) (hs:∃n∈s,n≠0) (pr:z0l r=r) (ps:z0l s=s) (ha:0<a) (hb:0<b) (h:∀j,a*v r j=b*v s j):r=s:=by
 have g1:=z6v hr pr
 have g2:=z6v hs ps
 have d:∀{r s:List Int}{a b:Int},0<a→(z1S r:Int)=1→(∀j,a*v r j=b*v s j)→b∣a:=fun {r s a b} a0 g h=>by
  have:=z8l a0 r 0 (by simp) fun n hn=>by
   obtain⟨j,rfl⟩:=mem_v hn
   exact⟨v s j,h j⟩
  have e:((r.foldl (fun (g:Nat) n=>Int.gcd (g:Int) n) 0:Nat):Int)=1:=g
  rw[e,Int.mul_one] at this
  exact this
 have d1:=d ha g1 h
 have d2:=d hb g2 fun j=>(h j).symm
 have e:a=b:=Int.dvd_antisymm (by lia) (by lia) d2 d1
 subst e
 exact y4a hl fun j=>Int.eq_of_mul_eq_mul_left (by lia) (h j)
end Rk
end L2
namespace L2
open PySem PySem.Spec PyProof.Rows
section
variable {X:Cx}{K:PySem.W.Frag}
def cSum (K:PySem.W.Frag):List V→Hp→VK→Prop:=fun xs H Q=>∃(p:Addr) (ns:List Int),xs=[.ref p]∧SqL K H p (ns.map V.int)∧Q (.int ns.sum) H
theorem y1A (hK:X.K=K) (hc:X.calm=true):z2B X (.builtin "sum") (cSum K):=by
 subst hK
 intro pins s σ H xs us Q I r h
 obtain⟨p,ns,rfl,hq,q⟩:=h
 obtain⟨u,rfl,rx⟩:=r.one
 cases rx
 obtain⟨its,r',pl,hz⟩:=I.list hq
 have hi:=z6G r'
 have hl:=pl.isList
 have hn:numsOf its.toArray.toList=ns:=by rw[show its.toArray.toList=its from rfl,hi.numsOf]
 obtain⟨zs,e⟩:=hi.allInts.items
 rw[e] at hl hn
 rw[nums_intItems] at hn
 refine sum_intListG (I.ok.hd hc) hl fun h' tk t' hk=>?_
 refine⟨.int ns.sum,H,I.kept (t':=tk) hk,⟨t',?_⟩,q⟩
 rw[preSum_eq,List.take_of_length_le (by simp)]
 rw[←hn]
end
end L2
namespace L2
open PySem PySem.Spec PyProof.Rows
open Builtin.Int (intBits)
namespace Rk
open Wl
end Rk
end L2
namespace L2
open PySem PySem.Spec PyProof.Rows
open Builtin.Int (intBits)
namespace Rk
open Wl
def dd (acc l:List (List Int)):List (List Int):=l.foldl (fun acc t=>if t∈acc then acc else acc++[t]) acc
theorem y3O (acc:List (List Int)):dd acc []=acc:=rfl
theorem y1v {x:List Int}:∀(l acc:List (List Int)),x∈dd acc l↔x∈acc∨x∈l
 |[],acc=>by simp[y3O]
 |t::l,acc=>by
  have:dd acc (t::l)=dd (if t∈acc then acc else acc++[t]) l:=rfl
  rw[this,y1v l]
  by_cases ht:t∈acc
  ·rw[if_pos ht,q0l]
   constructor
   ·rintro (h|h)
    ·exact .inl h
    ·exact .inr (.inr h)
   ·rintro (h|rfl|h)
    ·exact .inl h
    ·exact .inl ht
    ·exact .inr h
  ·rw[if_neg ht,q0s,q0g,q0l]
   grind
theorem y3P:∀(l acc:List (List Int)),(dd acc l).length ≤acc.length+l.length
 |[],acc=>by rw[y3O];simp
 |t::l,acc=>by
  have:dd acc (t::l)=dd (if t∈acc then acc else acc++[t]) l:=rfl
  rw[this]
  have:=y3P l (if t∈acc then acc else acc++[t])
  rw[q0J]
  split at this
  ·rw[if_pos (by assumption)];lia
  ·rw[if_neg (by assumption)];rw[q0m,q1m] at this;lia
end Rk
end L2
namespace L2
namespace Dm
open Rk Wl
end Dm
end L2
namespace L2
namespace Pt
open Rk Wl
end Pt
end L2
namespace L2
namespace Pt
open Rk Wl Dm
end Pt
end L2
set_option maxHeartbeats 4000000
namespace L2
namespace Pt
open Rk Wl Dm
def skp (pl c:Nat):Nat:=if c<pl then c else c+1
def Drw (pl m:Nat) (t u d:List Int) (k:Int):Prop:=∀c,c<m→k*v d c=v t pl*v u (skp pl c) - v u pl*v t (skp pl c)
end Pt
end L2
namespace L2
namespace Pt
open Rk Wl Dm
end Pt
end L2
namespace L2
namespace Pt
open Rk Wl Dm
def z2N (pl:Nat) (z:Int) (y:List Int):List Int:=y.take pl++z::y.drop pl
theorem y5S {m pl:Nat}{x:List Int} (hpl:pl<m+1) (hx:x.length=m+1):x=z2N pl (v x pl) (x.eraseIdx pl):=by
 unfold z2N
 have e:v x pl=x[pl]'(by lia):=by
  show x.getD pl 0=_
  rw[q0a,q0c (by lia)];rfl
 rw[e,List.eraseIdx_eq_take_drop_succ,List.take_append_of_le_length (by rw[q0n];lia),List.take_take,Nat.min_self,List.drop_append_of_le_length (by rw[q0n];lia)]
 rw[show (x.take pl).drop pl=[] from List.drop_eq_nil_of_le (by rw[q0n];lia),List.nil_append]
 rw[←q1t (by lia),List.take_append_drop]
def drR (t u:List Int):List Int:=(z0p u t).eraseIdx (fp t)
def drF (t u:List Int):Option (List Int):=if (drR t u).dropLast.any (· != 0) then some (z0l (drR t u)) else none
def wd (F:List Int→Option (List Int)) (ts:List (List Int)):List (List Int):=dd [] (ts.filterMap F)
theorem z3s (l:List Int) (pl c:Nat):v (l.eraseIdx pl) c=v l (skp pl c):=by
 show (l.eraseIdx pl).getD c 0=l.getD (skp pl c) 0
 rw[q0a,q0a,List.getElem?_eraseIdx]
 unfold skp
 split<;>rfl
theorem y1q {m:Nat}{t u:List Int} (hl:u.length=t.length) (hn:∃n∈t,n≠0):Drw (fp t) m t u (drR t u) (Int.gcd (v t (fp t)) (v u (fp t)):Nat):=by
 intro c _
 unfold drR
 rw[z3s,z2l hl]
 have e1:z3O u t*((Int.gcd (v t (fp t)) (v u (fp t)):Nat):Int)=v t (fp t):=fdiv_mul (q1w ..)
 have e2:z2j u t*((Int.gcd (v t (fp t)) (v u (fp t)):Nat):Int)=v u (fp t):=fdiv_mul (Int.gcd_dvd_right ..)
 generalize ((Int.gcd (v t (fp t)) (v u (fp t)):Nat):Int)=g at*
 rw[←e1,←e2]
 grind
theorem z2z {t u:List Int} (hl:u.length=t.length) (hn:∃n∈t,n≠0):(drR t u).length +1=t.length:=by
 unfold drR
 have:=y2T hn
 rw[List.length_eraseIdx,if_pos (by rw[z1N hl];lia),z1N hl]
 lia
end Pt
end L2
namespace L2
namespace Pt
open Rk Wl Dm
structure WL (m:Nat) (t:List Int):Prop where
 len:t.length=m+1
 pl:z0l t=t
 way:∃j,j<m∧v t j≠0
theorem z6d {t:List Int}{j:Nat} (h:v t j≠0):j<t.length∧v t j∈t:=by
 have h':t.getD j 0≠0:=h
 rw[q0a] at h'
 cases e:t[j]? with
 |none=>rw[e] at h';exact absurd rfl h'
 |some n=>
  have hv:v t j=n:=by show t.getD j 0=n;rw[q0a,e];rfl
  exact⟨(q0E.mp e).1,by rw[hv];exact q0u e⟩
theorem WL.nz {m:Nat}{t:List Int} (h:WL m t):∃n∈t,n≠0:=let ⟨_,_,hj⟩:=h.way;⟨_,(z6d hj).2,hj⟩
theorem WL.fp {m:Nat}{t:List Int} (h:WL m t):fp t<m:=by
 obtain⟨j,hj,hn⟩:=h.way
 refine q0w fun c=>hn (z1f (r:=t) (by lia))
theorem WL.pos {m:Nat}{t:List Int} (h:WL m t):0<v t (Rk.fp t):=by
 have h1:=z7Z h.nz h.pl
 have h2:=z5J h.nz
 rw[←y3E]
 unfold byL at h1
 split at h1
 ·have:=z2k h.nz;lia
 ·lia
theorem z1t {m:Nat}{l:List Int} (hl:l.length=m+1):l.dropLast.any (· != 0)=true↔∃j,j<m∧v l j≠0:=by
 rw[q1S]
 have hg:∀j,j<m→l.dropLast[j]? =l[j]? :=fun j hj=>by rw[List.getElem?_dropLast,if_pos (by lia)]
 constructor
 ·rintro⟨n,hn,h0⟩
  obtain⟨j,hj⟩:=List.mem_iff_getElem?.mp hn
  have hjm:j<m:=by
   have:=(q0E.mp hj).1
   rw[List.length_dropLast] at this;lia
  rw[hg j hjm] at hj
  refine⟨j,hjm,?_⟩
  show l.getD j 0≠0
  rw[q0a,hj]
  simpa using h0
 ·rintro⟨j,hj,h0⟩
  have h1:=(z6d h0).1
  have e:l[j]? =some (v l j):=by
   rw[q0c h1]
   show _=some (l.getD j 0)
   rw[q0a,q0c h1];rfl
  exact⟨v l j,q0u (by rw[hg j hj];exact e),by simpa using h0⟩
theorem gcd0 {a b:Int} (h:a≠0):((Int.gcd a b:Nat):Int)≠0:=z8A h
theorem y1p {m:Nat}{t:List Int} (h:WL (m+1) t):drF t t=none:=by
 unfold drF
 have hl:=z2z (t:=t) rfl h.nz
 rw[if_neg]
 intro z
 obtain⟨j,hj,hn⟩:=(z1t (m:=m) (by have:=h.len;lia)).mp z
 have:=y1q (m:=m+2) (t:=t) (u:=t) rfl h.nz j (by lia)
 have e0:v t (fp t)*v t (skp (fp t) j) - v t (fp t)*v t (skp (fp t) j)=0:=by lia
 rw[e0] at this
 exact hn ((q1u.mp this).resolve_left (gcd0 (z2q h.nz)))
theorem y1T {m:Nat}{t:List Int}{ts:List (List Int)} (ht:WL (m+1) t) (hs:∀u∈ts,u.length=m+2):∀d∈wd (drF t) ts,WL m d:=fun d hd=>by
 unfold wd at hd
 rcases (y1v _ _).mp hd with hd|hd
 ·cases hd
 obtain⟨u,hu,hF⟩:=List.mem_filterMap.mp hd
 unfold drF at hF
 split at hF
 ·rename_i c
  have e:=Option.some.inj hF
  have hl:=z2z (t:=t) (u:=u) (by rw[hs u hu,ht.len]) ht.nz
  have hl':(drR t u).length =m+1:=by have:=ht.len;lia
  obtain⟨j,hj,hn⟩:=(z1t hl').mp c
  have nz:∃n∈drR t u,n≠0:=⟨_,(z6d hn).2,hn⟩
  subst e
  exact⟨by rw[plain_len];exact hl',z1J nz,j,hj,fun z=>hn ((z1F nz j).mp z)⟩
 ·cases hF
theorem z3p:∀(l acc:List (List Int)),acc.Nodup→(dd acc l).Nodup
 |[],acc,h=>h
 |t::l,acc,h=>by
  show (dd (if t∈acc then acc else acc++[t]) l).Nodup
  by_cases ht:t∈acc
  ·rw[if_pos ht];exact z3p l acc h
  ·rw[if_neg ht]
   refine z3p l _ (q1A.mpr ⟨h,by simp,fun a ha b hb e=>?_⟩)
   rw[q0g.mp hb] at e
   exact ht (e▸ha)
theorem y0F {m:Nat}{t u:List Int} (ht:WL (m+1) t) (hu:WL (m+1) u) (hne:u≠t) (h:∀c,c<m→v (drR t u) c=0):v (drR t u) m≠0:=fun z=>by
 have hc:∀c,c<m+1→v (drR t u) c=0:=fun c hc=>by
  by_cases h':c<m
  ·exact h c h'
  ·rw[show c=m by lia];exact z
 have hd:=y1q (m:=m+1) (t:=t) (u:=u) (by rw[hu.len,ht.len]) ht.nz
 have hfp:fp t<m+1:=ht.fp
 have all:∀j,v t (fp t)*v u j=v u (fp t)*v t j:=fun j=>by
  by_cases hj:j=fp t
  ·rw[hj,q1p]
  by_cases hj2:j<m+2
  ·obtain⟨c,hc1,hc2⟩:∃c,c<m+1∧skp (fp t) c=j:=by
        by_cases h':j<fp t
        ·exact⟨j,by lia,by unfold skp;rw[if_pos h']⟩
        ·exact⟨j - 1,by lia,by unfold skp;rw[if_neg (by lia)];lia⟩
   have:=hd c hc1
   rw[hc c hc1,hc2,q0T] at this
   lia
  ·have e1:v u j=0:=q0w fun z=>by have:=(z6d z).1;rw[hu.len] at this;lia
   have e2:v t j=0:=q0w fun z=>by have:=(z6d z).1;rw[ht.len] at this;lia
   rw[e1,e2];lia
 have tp:=ht.pos
 have un:v u (fp t)≠0:=fun z=>by
  obtain⟨j,_,hj⟩:=hu.way
  have:=all j
  rw[z,q1P] at this
  exact hj ((q1u.mp this).resolve_left (by lia))
 have ef:fp u=fp t:=z1M un fun j hj=>by
  have:=all j
  rw[z1f hj,q0T] at this
  exact (q1u.mp this).resolve_left (by lia)
 have up:=hu.pos
 rw[ef] at up
 exact hne (y0m (by rw[hu.len,ht.len]) hu.nz ht.nz hu.pl ht.pl tp up all)
theorem z8F {t u d:List Int} (h:drF t u=some d):(drR t u).dropLast.any (· != 0)=true∧d=z0l (drR t u):=by
 unfold drF at h
 split at h
 ·exact⟨by assumption,(Option.some.inj h).symm⟩
 ·cases h
end Pt
end L2
namespace L2
namespace Pt
open Rk Wl Dm
def Wp (l:List Int) (q:Int):Int:=l.foldr (fun a acc=>acc*q+a) 0
def bto:Nat→Nat→List (List Int)→List Int
 |0,m,_=>List.replicate m 0++[1]
 |n+1,m,ts=>match ts.getLast? with
  |none=>List.replicate m 0++[1]
  |some t=>List.zipWith (fun a b=>a - b) (bto n m ts.dropLast) (bto n (m - 1) (wd (drF t) ts)++[0])
theorem z7G (n m:Nat):bto n m []=List.replicate m 0++[1]:=by cases n<;>rfl
theorem z5V (n m:Nat) (ts:List (List Int)) (t:List Int):bto (n+1) m (ts++[t])=List.zipWith (fun a b=>a - b) (bto n m ts) (bto n (m - 1) (wd (drF t) (ts++[t]))++[0]):=by
 show (match (ts++[t]).getLast? with|none=>_|some t'=>List.zipWith (fun a b=>a - b) (bto n m (ts++[t]).dropLast) (bto n (m - 1) (wd (drF t') (ts++[t]))++[0]))=_
 rw[List.getLast?_concat,List.dropLast_concat]
theorem z4o {ts:List (List Int)} (h:ts≠[]):∃ts' t,ts=ts'++[t]:=⟨ts.dropLast,ts.getLast h,(q0W h).symm⟩
theorem z6Y {m:Nat}{ts:List (List Int)}{t:List Int} (ht:WL (m+1) t):wd (drF t) (ts++[t])=wd (drF t) ts:=by
 unfold wd
 rw[List.filterMap_append,show [t].filterMap (drF t)=[] by simp[y1p ht],q1N]
theorem z9F (F:List Int→Option (List Int)) (ts:List (List Int)):(wd F ts).length ≤ts.length:=by
 unfold wd
 have:=y3P (ts.filterMap F) []
 have:=List.length_filterMap_le F ts
 simp at*
 lia
theorem z5W:∀(n m:Nat) (ts:List (List Int)),(∀t∈ts,WL m t)→(bto n m ts).length =m+1
 |0,m,ts,_=>by simp[bto]
 |n+1,m,ts,h=>by
  by_cases hn:ts=[]
  ·rw[hn,z7G];simp
  obtain⟨ts',t,rfl⟩:=z4o hn
  have ht:=h t (by simp)
  obtain⟨m,rfl⟩:∃k,m=k+1:=⟨m - 1,by have:=ht.fp;lia⟩
  rw[z5V,q1D,z5W n _ ts' fun u hu=>h u (q0C _ hu),q0m]
  rw[Nat.add_sub_cancel,z6Y ht,z5W n m _ (y1T ht fun u hu=>(h u (q0C _ hu)).len)]
  simp
theorem y1H:∀(n m:Nat) (ts:List (List Int)),∀c∈bto n m ts,c.natAbs≤2^n
 |0,m,ts,c,hc=>by
  unfold bto at hc
  rcases q0s.mp hc with hc|hc
  ·rw[(List.mem_replicate.mp hc).2];decide
  ·rw[q0g.mp hc];decide
 |n+1,m,ts,c,hc=>by
  have one:1≤2^(n+1):=Nat.one_le_two_pow
  by_cases hn:ts=[]
  ·rw[hn,z7G] at hc
   rcases q0s.mp hc with hc|hc
   ·rw[(List.mem_replicate.mp hc).2];simp
   ·rw[q0g.mp hc];exact one
  obtain⟨ts',t,rfl⟩:=z4o hn
  rw[z5V] at hc
  have zw:∀(l k:List Int),c∈List.zipWith (fun a b=>a - b) l k→∃a∈l,∃b∈k,c=a - b:=by
   intro l
   induction l with
   |nil=>intro k h;simp at h
   |cons x l ih=>
    intro k h
    cases k with
    |nil=>simp at h
    |cons y k=>
     rw[List.zipWith_cons_cons] at h
     rcases q0l.mp h with h|h
     ·exact⟨x,by simp,y,by simp,h⟩
     ·obtain⟨a,ha,b,hb,e⟩:=ih k h
      exact⟨a,q0i _ ha,b,q0i _ hb,e⟩
  obtain⟨a,ha,b,hb,rfl⟩:=zw _ _ hc
  have h1:=y1H n m _ a ha
  have h2:b.natAbs≤2^n:=by
   rcases q0s.mp hb with hb|hb
   ·exact y1H n _ _ b hb
   ·rw[q0g.mp hb];simp
  have:2^(n+1)=2^n+2^n:=by rw[Nat.pow_succ];lia
  lia
end Pt
end L2
set_option maxHeartbeats 1000000
namespace L2
open Fr Wl Pt
namespace Rk
def z8i (m:Nat) (L:List (List Int)):Prop:=∃z,In (L.map v) z∧(∀j,j<m→z j=0)∧z m≠0
open Classical in
noncomputable def gS (m:Nat) (L:List (List Int)) (k:Nat):Int:=if z8i m L then 0 else if dim m (In (L.map v))+k=m then 1 else 0
noncomputable def pS (m:Nat):List (List Int)→List (List Int)→Nat→Int
 |L,[],k=>gS m L k
 |L,w::ws,k=>pS m L ws k - pS m (w::L) ws k
theorem z7z {A B:List (Nat→Int)} (h:In A=In B) (x:Nat→Int):In (x::A)=In (x::B):=by
 have half:∀{A B:List (Nat→Int)},In A=In B→∀r∈x::A,In (x::B) r:=fun h r hr=>by
  rcases q0l.mp hr with rfl|hr
  ·exact In.one q0j
  ·exact In.mono (fun s hs=>q0i _ hs) (h▸In.one hr)
 exact In.same (half h) (half h.symm)
theorem y1b (A:List (Nat→Int)) (x y:Nat→Int):In (x::y::A)=In (y::x::A):=
 by
 have half:∀x y:Nat→Int,∀r∈x::y::A,In (y::x::A) r:=fun x y r hr=>In.one (by
  simp only[q0l] at*
  rcases hr with h|h|h
  ·exact .inr (.inl h)
  ·exact .inl h
  ·exact .inr (.inr h))
 exact In.same (half x y) (half y x)
theorem y4N {A:List (Nat→Int)}{x:Nat→Int} (h:In A x):In (x::A)=In A:=
 In.same (fun r hr=>by
  rcases q0l.mp hr with rfl|hr
  ·exact h
  ·exact In.one hr) (fun r hr=>In.one (q0i _ hr))
theorem z6C {m:Nat}{L L':List (List Int)} (h:In (L.map v)=In (L'.map v)):z8i m L↔z8i m L':=by unfold z8i;rw[h]
theorem y1j {m:Nat}{L L':List (List Int)} (h:In (L.map v)=In (L'.map v)) (k:Nat):gS m L k=gS m L' k:=by
 unfold gS
 rw[h]
 by_cases c:z8i m L
 ·rw[if_pos c,if_pos ((z6C h).mp c)]
 ·rw[if_neg c,if_neg fun z=>c ((z6C h).mpr z)]
theorem z3D {m:Nat}:∀(ws:List (List Int)) {L L':List (List Int)} (h:In (L.map v)=In (L'.map v)) (k:Nat),pS m L ws k=pS m L' ws k
 |[],_,_,h,k=>y1j h k
 |w::ws,L,L',h,k=>by
  rw[pS,pS,z3D ws h,z3D ws (L:=w::L) (L':=w::L') (by rw[q0t,q0t];exact z7z h _)]
theorem z6D {m:Nat}{L:List (List Int)} (h:z8i m L) (w:List Int):z8i m (w::L):=by
 obtain⟨z,h1,h2,h3⟩:=h
 exact⟨z,In.mono (fun s hs=>by rw[q0t];exact q0i _ hs) h1,h2,h3⟩
theorem y0s {m:Nat}:∀(ws:List (List Int)) {L:List (List Int)} (h:z8i m L) (k:Nat),pS m L ws k=0
 |[],_,h,k=>by rw[pS,gS,if_pos h]
 |w::ws,L,h,k=>by rw[pS,y0s ws h,y0s ws (z6D h w)];rfl
theorem y4u {m:Nat}{L:List (List Int)}{w:List Int} (h:z8i m (w::L)) (ws:List (List Int)) (k:Nat):pS m L (w::ws) k=pS m L ws k:=by
 rw[pS,y0s ws h,Int.sub_zero]
theorem y4v {m:Nat}{L:List (List Int)}{w:List Int} (h:In (L.map v) (v w)) (ws:List (List Int)) (k:Nat):pS m L (w::ws) k=0:=by
 rw[pS,z3D ws (L:=w::L) (L':=L) (by rw[q0t];exact y4N h)];lia
theorem z5A {m:Nat}{ws ws':List (List Int)} (h:ws.Perm ws'):∀(L:List (List Int)) (k:Nat),pS m L ws k=pS m L ws' k:=by
 induction h with
 |nil=>intro L k;rfl
 |cons w _ ih=>intro L k;rw[pS,pS,ih,ih]
 |swap a b ws=>
  intro L k
  rw[pS,pS,pS,pS,pS,pS,z3D ws (L:=a::b::L) (L':=b::a::L) (by rw[q0t,q0t,q0t,q0t];exact y1b _ _ _)]
  lia
 |trans _ _ ih1 ih2=>intro L k;rw[ih1,ih2]
theorem y5A {m:Nat}{L:List (List Int)} (w:List Int) (ws:List (List Int)) (k:Nat):pS m L (w::w::ws) k=pS m L (w::ws) k:=by
 have e:pS m (w::L) (w::ws) k=0:=y4v (In.one (by rw[q0t];exact q0j)) ws k
 rw[pS,e,Int.sub_zero]
theorem y5B {m:Nat}{L:List (List Int)} (k:Nat):∀(l acc:List (List Int)),pS m L (dd acc l) k=pS m L (acc++l) k
 |[],acc=>by rw[List.append_nil];rfl
 |t::l,acc=>by
  show pS m L (dd (if t∈acc then acc else acc++[t]) l) k=_
  rw[y5B k l]
  by_cases h:t∈acc
  ·rw[if_pos h]
   obtain⟨a1,a2,rfl⟩:=List.append_of_mem h
   have p1:((a1++t::a2)++l).Perm (t::(a1++a2++l)):=by
        rw[q1B,List.cons_append,q1B];exact List.perm_middle
   have p2:((a1++t::a2)++t::l).Perm (t::t::(a1++a2++l)):=by
        refine List.perm_middle.trans ((List.Perm.cons t p1))
   rw[z5A p1,z5A p2,y5A]
  ·rw[if_neg h,q1B];rfl
def lf (pl:Nat) (y:List Int):List Int:=z2N pl 0 y
theorem z5p {pl:Nat}{y:List Int} (h:pl≤y.length):v (lf pl y) pl=0:=by
 show (z2N pl 0 y).getD pl 0=0
 unfold z2N
 rw[q0a,q0D (by rw[q0n];lia),q0n,Nat.min_eq_left h,q1G];rfl
theorem z7a {pl j:Nat}{y:List Int} (h:pl≤y.length) (hj:j<pl):v (lf pl y) j=v y j:=by
 show (z2N pl 0 y).getD j 0=y.getD j 0
 unfold z2N
 rw[q0a,q0a,q0N (by rw[q0n];lia),List.getElem?_take,if_pos hj]
theorem z7b {pl j:Nat}{y:List Int} (h:pl≤y.length) (hj:pl≤j):v (lf pl y) (j+1)=v y j:=by
 show (z2N pl 0 y).getD (j+1) 0=y.getD j 0
 unfold z2N
 rw[q0a,q0a,q0D (by rw[q0n];lia),q0n,Nat.min_eq_left h,show j+1 - pl=(j - pl)+1 by lia,List.getElem?_cons_succ,List.getElem?_drop,show pl+(j - pl)=j by lia]
theorem z8r {pl:Nat}{y:List Int} (h:pl≤y.length):(lf pl y).length =y.length+1:=by
 show (z2N pl 0 y).length =_
 unfold z2N
 rw[q0m,q0J,q0n,q1R];lia
def lfF (pl:Nat) (x:Nat→Int):Nat→Int:=fun j=>if j<pl then x j else if j=pl then 0 else x (j - 1)
theorem v_lf {pl:Nat}{y:List Int} (h:pl≤y.length):v (lf pl y)=lfF pl (v y):=by
 funext j
 unfold lfF
 by_cases h1:j<pl
 ·rw[if_pos h1,z7a h h1]
 ·rw[if_neg h1]
  by_cases h2:j=pl
  ·rw[if_pos h2,h2,z5p h]
  ·rw[if_neg h2]
   obtain⟨i,rfl⟩:∃i,j=i+1:=⟨j - 1,by lia⟩
   rw[z7b h (by lia)];rfl
theorem y4G (pl:Nat) (c:Int) (x y:Nat→Int):lfF pl (fun j=>c*x j+y j)=fun j=>c*lfF pl x j+lfF pl y j:=by
 funext j
 unfold lfF
 by_cases h1:j<pl
 ·rw[if_pos h1,if_pos h1,if_pos h1]
 ·rw[if_neg h1,if_neg h1,if_neg h1]
  by_cases h2:j=pl
  ·rw[if_pos h2,if_pos h2,if_pos h2];lia
  ·rw[if_neg h2,if_neg h2,if_neg h2]
theorem y4F (pl:Nat) (c:Int) (x:Nat→Int):lfF pl (fun j=>c*x j)=fun j=>c*lfF pl x j:=by
 funext j
 unfold lfF
 by_cases h1:j<pl
 ·rw[if_pos h1,if_pos h1]
 ·rw[if_neg h1,if_neg h1]
  by_cases h2:j=pl
  ·rw[if_pos h2,if_pos h2];lia
  ·rw[if_neg h2,if_neg h2]
theorem y2K (pl j:Nat):lfF pl (fun _=>0) j=0:=by
 unfold lfF
 split
 ·rfl
 ·split<;>rfl
theorem Sm.lf {A:List (Nat→Int)}{x:Nat→Int} (pl:Nat) (h:Sm A x):Sm (A.map (lfF pl)) (lfF pl x):=by
 induction h with
 |zero=>exact Sm.zero.cast fun j=>(y2K pl j).symm
 |more c hr _ ih=>rw[y4G];exact Sm.more c (List.mem_map_of_mem hr) ih
theorem In.lf {A:List (Nat→Int)}{x:Nat→Int} (pl:Nat) (h:In A x):In (A.map (lfF pl)) (lfF pl x):=by
 obtain⟨d,d0,hd⟩:=h
 exact⟨d,d0,by have:=hd.lf pl;rw[y4F] at this;exact this⟩
theorem in_lf {A B:List (Nat→Int)} (pl:Nat) (h:In A=In B):In (A.map (lfF pl))=In (B.map (lfF pl)):=by
 have half:∀{A B:List (Nat→Int)},In A=In B→∀r∈A.map (lfF pl),In (B.map (lfF pl)) r:=fun h r hr=>by
  obtain⟨x,hx,rfl⟩:=q0f.mp hr
  exact (h▸In.one hx:In _ x).lf pl
 exact In.same (half h) (half h.symm)
theorem z5o {pl j:Nat}{y:List Int} (h:pl≤y.length):v (lf pl y) (skp pl j)=v y j:=by
 unfold skp
 by_cases h1:j<pl
 ·rw[if_pos h1,z7a h h1]
 ·rw[if_neg h1,z7b h (by lia)]
theorem fp_lf {pl:Nat}{y:List Int} (h:pl≤y.length) (hn:∃n∈y,n≠0):fp (lf pl y)=skp pl (fp y):=by
 refine z1M (by rw[z5o h];exact z2q hn) fun j hj=>?_
 unfold skp at hj
 by_cases h1:j<pl
 ·rw[z7a h h1]
  refine z1f ?_
  split at hj<;>lia
 ·by_cases h2:j=pl
  ·rw[h2,z5p h]
  ·obtain⟨i,rfl⟩:∃i,j=i+1:=⟨j - 1,by lia⟩
   rw[z7b h (by lia)]
   refine z1f ?_
   split at hj<;>lia
theorem z8u:∀(a b:List Int),z1a (a++0::b)=z1a (a++b)
 |[],b=>if_pos rfl
 |n::a,b=>by
  show (if n=0 then z1a (a++0::b) else n)=if n=0 then z1a (a++b) else n
  rw[z8u a b]
theorem y4Q (a b:List Int):z1S (a++0::b)=z1S (a++b):=by
 unfold z1S
 rw[q1L,q1L,List.foldl_cons]
 congr 1
 generalize List.foldl (fun (g:Nat) (n:Int)=>Int.gcd (g:Int) n) 0 a=g
 rw[Int.gcd_zero_right,Int.natAbs_natCast]
theorem by_lf (pl:Nat) (y:List Int):byL (lf pl y)=byL y:=by
 show byL (y.take pl++0::y.drop pl)=byL y
 unfold byL
 rw[z8u,y4Q,List.take_append_drop]
theorem y2r (pl:Nat) (y:List Int):z0l (lf pl y)=lf pl (z0l y):=by
 unfold z0l
 rw[by_lf]
 show (y.take pl++0::y.drop pl).map _=(y.map _).take pl++0::(y.map _).drop pl
 rw[q0H,q0t,List.map_take,List.map_drop,Int.zero_fdiv]
theorem y5k {pl a b:Nat} (h:a<b):skp pl a<skp pl b:=by
 unfold skp
 split<;>split<;>lia
theorem Rws.lf {m pl:Nat}{us:List (List Int)} (h:Rws m us) (hpl:pl≤m):Rws (m+1) (us.map (Rk.lf pl)):=by
 have hlen:∀t∈us,pl≤t.length:=fun t ht=>by have:=(h.row t ht).1;lia
 have hfp:∀t∈us,fp (Rk.lf pl t)=skp pl (fp t):=fun t ht=>fp_lf (hlen t ht) (h.nz ht)
 refine⟨fun u hu=>?_,?_,fun s hs u hu hne=>?_⟩
 ·obtain⟨t,ht,rfl⟩:=q0f.mp hu
  obtain⟨h1,h2,h3⟩:=h.row t ht
  refine⟨by rw[z8r (hlen t ht),h1],?_,by rw[y2r,h3]⟩
  rw[hfp t ht]
  unfold skp
  split<;>lia
 ·rw[q0Z]
  exact h.up.imp_of_mem fun {a b} ha hb hab=>by rw[hfp a ha,hfp b hb];exact y5k hab
 ·obtain⟨s,hs',rfl⟩:=q0f.mp hs
  obtain⟨u,hu',rfl⟩:=q0f.mp hu
  clear hs hu
  have hs:=hs'
  have hu:=hu'
  rw[hfp s hs,hfp u hu] at hne
  rw[hfp u hu,z5o (hlen s hs)]
  exact h.off s hs u hu fun e=>hne (by rw[e])
theorem Rws.noff {m:Nat}{us L:List (List Int)} (h:Rws m us) (e:In (us.map v)=In (L.map v)):¬z8i m L:=by
 rintro⟨z,h1,h2,h3⟩
 rw[←e] at h1
 have:=y2Y h1 h2 h3
 rw[h.dim (Nat.le_succ m),h.dim (q0e m)] at this
 lia
theorem Rws.gS {m:Nat}{us:List (List Int)} (h:Rws m us) (k:Nat):gS m us k=if us.length+k=m then 1 else 0:=by
 unfold Rk.gS
 rw[if_neg (h.noff rfl),h.dim (q0e m)]
theorem y0f {m:Nat}:∀(L:List (List Int)),(∀r∈L,r.length=m+1)→¬z8i m L→∃us,Rws m us∧In (us.map v)=In (L.map v)
 |[],_,_=>⟨[],Rws.nil,rfl⟩
 |xs::L,hL,ho=>by
  obtain⟨us,hR,hI⟩:=y0f L (fun r hr=>hL r (q0i _ hr)) fun z=>ho (z6D z xs)
  have xl:=hL xs q0j
  have hIx:In (v xs::us.map v)=In ((xs::L).map v):=by rw[q0t];exact z7z hI _
  by_cases hnz:∃j,j<m∧v (us.foldl z0p xs) j≠0
  ·obtain⟨us',p1,p2⟩:=(⟨(us.map (z2R (z0l (us.foldl z0p xs)))++[z0l (us.foldl z0p xs)]).mergeSort fun a b=>decide (fp a≤fp b),List.mergeSort_perm _ _,by
        have:=List.pairwise_mergeSort (le:=fun a b:List Int=>decide (fp a≤fp b)) (fun a b c h1 h2=>by simp at*;lia) (fun a b=>by simp;lia) (us.map (z2R (z0l (us.foldl z0p xs)))++[z0l (us.foldl z0p xs)])
        exact this.imp fun h=>by simpa using h⟩:∃us':List (List Int),us'.Perm (us.map (z2R (z0l (us.foldl z0p xs)))++[z0l (us.foldl z0p xs)])∧us'.Pairwise (fun a b=>fp a≤fp b))
   obtain⟨q1,q2,_⟩:=hR.more xl hnz p1 p2
   exact⟨us',q1,q2.trans hIx⟩
  ·have z0:∀j,j<m→v (us.foldl z0p xs) j=0:=fun j hj=>q0w fun hc=>hnz ⟨j,hj,hc⟩
   obtain⟨rl,_,_⟩:=hR.rest xl
   have zm:v (us.foldl z0p xs) m=0:=q0w fun hc=>ho ⟨_,hIx▸hR.off_all xl,z0,hc⟩
   refine⟨us,hR,?_⟩
   rw[←hIx]
   refine hR.same xl fun j=>?_
   by_cases hj:j<m
   ·exact z0 j hj
   ·by_cases hj2:j=m
    ·rw[hj2];exact zm
    ·show (us.foldl z0p xs).getD j 0=0
     rw[q0a,q1o (by lia)];rfl
theorem Sm.at0 {A:List (Nat→Int)}{j:Nat} (h:∀r∈A,r j=0) {x:Nat→Int} (hx:Sm A x):x j=0:=by
 induction hx with
 |zero=>rfl
 |more c hr _ ih=>dsimp only;rw[h _ hr,ih];lia
theorem lf_dr {m:Nat}{t u:List Int} (ht:WL (m+1) t) (hu:u.length=m+2):lf (fp t) (drR t u)=z0p u t:=by
 have hl:u.length=t.length:=by rw[hu,ht.len]
 have hc:(z0p u t).length =m+1+1:=by rw[z1N hl,hu]
 have z:v (z0p u t) (fp t)=0:=by rw[z2l hl,z3g ht.nz];lia
 have:=y5S (m:=m+1) (pl:=fp t) (by have:=ht.fp;lia) hc
 rw[z] at this
 exact this.symm
theorem y4O {m:Nat}{t:List Int} (ht:WL (m+1) t) {S:List (List Int)} (hS:∀u∈S,u.length=m+2):In (v t::((S.map (drR t)).map v).map (lfF (fp t)))=In ((t::S).map v):=by
 have hl:∀u∈S,u.length=t.length:=fun u hu=>by rw[hS u hu,ht.len]
 have e:((S.map (drR t)).map v).map (lfF (fp t))=S.map fun u=>v (z0p u t):=by
  rw[q0M,q0M]
  refine q1l fun u hu=>?_
  show lfF (fp t) (v (drR t u))=_
  rw[←v_lf (by have:=z2z (hl u hu) ht.nz;have:=ht.fp;have:=ht.len;lia),lf_dr ht (hS u hu)]
 rw[e,q0t]
 refine In.same (fun r hr=>?_) (fun r hr=>?_)
 ·rcases q0l.mp hr with rfl|hr
  ·exact In.one q0j
  ·obtain⟨u,hu,rfl⟩:=q0f.mp hr
   refine (((In.one (q0i _ (q0z (f:=v) hu))).mul (z3O u t)).add ((In.one (A:=v t::S.map v) q0j).mul (-z2j u t))).cast fun j=>?_
   rw[z2l (hl u hu)];grind
 ·rcases q0l.mp hr with rfl|hr
  ·exact In.one q0j
  ·obtain⟨u,hu,rfl⟩:=q0f.mp hr
   refine In.div (z8f (xs:=u) ht.nz) (((In.one (q0i _ (q0z (f:=fun u=>v (z0p u t)) hu))).add ((In.one (A:=v t::S.map fun u=>v (z0p u t)) q0j).mul (z2j u t))).cast fun j=>?_)
   rw[z2l (hl u hu)];grind
theorem y4S {m:Nat}{t:List Int} (ht:WL (m+1) t) {S:List (List Int)} (hS:∀u∈S,u.length=m+2) (k:Nat):gS (m+1) (t::S) k=gS m (S.map (drR t)) k:=by
 have hl:∀u∈S,u.length=t.length:=fun u hu=>by rw[hS u hu,ht.len]
 have hI:=y4O ht hS
 have hpl:fp t≤m:=by have:=ht.fp;lia
 by_cases ho:z8i m (S.map (drR t))
 ·have h2:z8i (m+1) (t::S):=by
   obtain⟨z,h1,h2,h3⟩:=ho
   refine⟨lfF (fp t) z,?_,fun j hj=>?_,?_⟩
   ·rw[←hI]
    exact In.mono (fun s hs=>q0i _ hs) (h1.lf (fp t))
   ·unfold lfF
    by_cases c1:j<fp t
    ·rw[if_pos c1];exact h2 j (by lia)
    ·rw[if_neg c1]
     by_cases c2:j=fp t
     ·rw[if_pos c2]
     ·rw[if_neg c2];exact h2 (j - 1) (by lia)
   ·unfold lfF
    rw[if_neg (by lia),if_neg (by lia)];exact h3
  unfold gS
  rw[if_pos ho,if_pos h2]
 ·obtain⟨us,hR,hU⟩:=y0f (S.map (drR t)) (fun r hr=>by
   obtain⟨u,hu,rfl⟩:=q0f.mp hr
   have:=z2z (hl u hu) ht.nz;have:=ht.len;lia) ho
  have hRl:=hR.lf hpl
  have hul:∀u∈us,fp t≤u.length:=fun u hu=>by have:=(hR.row u hu).1;lia
  have emap:(us.map (Rk.lf (fp t))).map v=(us.map v).map (lfF (fp t)):=by
   rw[q0M,q0M]
   exact q1l fun u hu=>v_lf (hul u hu)
  have hnz:∃j,j<m+1∧v ((us.map (Rk.lf (fp t))).foldl z0p t) j≠0:=by
   refine⟨fp t,by lia,?_⟩
   obtain⟨_,_,c,c0,hs⟩:=hRl.rest ht.len
   have:=Sm.at0 (j:=fp t) (fun r hr=>by
        obtain⟨x,hx,rfl⟩:=q0f.mp hr
        obtain⟨u,hu,rfl⟩:=q0f.mp hx
        exact z5p (hul u hu)) hs
   have n0:=q1g c0 (z2q ht.nz)
   intro z
   rw[z] at this
   lia
  obtain⟨us',p1,p2⟩:=(⟨((us.map (Rk.lf (fp t))).map (z2R (z0l ((us.map (Rk.lf (fp t))).foldl z0p t)))++[z0l ((us.map (Rk.lf (fp t))).foldl z0p t)]).mergeSort fun a b=>decide (fp a≤fp b),List.mergeSort_perm _ _,by
        have:=List.pairwise_mergeSort (le:=fun a b:List Int=>decide (fp a≤fp b)) (fun a b c h1 h2=>by simp at*;lia) (fun a b=>by simp;lia) ((us.map (Rk.lf (fp t))).map (z2R (z0l ((us.map (Rk.lf (fp t))).foldl z0p t)))++[z0l ((us.map (Rk.lf (fp t))).foldl z0p t)])
        exact this.imp fun h=>by simpa using h⟩:∃us':List (List Int),us'.Perm ((us.map (Rk.lf (fp t))).map (z2R (z0l ((us.map (Rk.lf (fp t))).foldl z0p t)))++[z0l ((us.map (Rk.lf (fp t))).foldl z0p t)])∧us'.Pairwise (fun a b=>fp a≤fp b))
  obtain⟨q1,q2,q3⟩:=hRl.more ht.len hnz p1 p2
  rw[q0b] at q3
  have e1:In (us'.map v)=In ((t::S).map v):=by
   rw[q2,emap,←hI]
   exact z7z (in_lf _ hU) _
  unfold gS
  rw[if_neg ho,if_neg (q1.noff e1),←e1,←hU,q1.dim (q0e _),hR.dim (q0e _),q3]
  by_cases c:us.length+k=m
  ·rw[if_pos c,if_pos (by lia)]
  ·rw[if_neg c,if_neg (by lia)]
theorem z7p {m:Nat}{t:List Int} (ht:WL (m+1) t) (k:Nat):∀(ws S:List (List Int)),(∀u∈ws,u.length=m+2)→(∀u∈S,u.length=m+2)→pS (m+1) (t::S) ws k=pS m (S.map (drR t)) (ws.map (drR t)) k
 |[],S,_,hS=>y4S ht hS k
 |w::ws,S,hw,hS=>by
  have hw':∀u∈ws,u.length=m+2:=fun u hu=>hw u (q0i _ hu)
  have e:=z7p ht k ws (w::S) hw' fun u hu=>by
   rcases q0l.mp hu with rfl|hu
   ·exact hw _ q0j
   ·exact hS u hu
  rw[q0t,pS,pS,z7p ht k ws S hw' hS,z3D ws (L:=w::t::S) (L':=t::w::S) (by rw[q0t,q0t,q0t,q0t];exact y1b _ _ _),e]
  rfl
theorem y1W {r:List Int}{j:Nat} (h:r.length≤j):v r j=0:=by
 show r.getD j 0=0
 rw[q0a,q1o h];rfl
theorem z5B {m:Nat}{t:List Int} (ht:WL (m+1) t) (k:Nat):∀(ws L:List (List Int)),(∀u∈ws,WL (m+1) u∧u≠t)→pS m L (ws.map (drR t)) k=pS m L (ws.filterMap (drF t)) k
 |[],L,_=>rfl
 |u::ws,L,hw=>by
  obtain⟨hu,hne⟩:=hw u q0j
  have hw':∀u∈ws,WL (m+1) u∧u≠t:=fun u hu=>hw u (q0i _ hu)
  have hul:u.length=t.length:=by rw[hu.len,ht.len]
  have hl:(drR t u).length =m+1:=by have:=z2z hul ht.nz;have:=ht.len;lia
  rw[q0t]
  by_cases hc:(drR t u).dropLast.any (· != 0)=true
  ·have hF:drF t u=some (z0l (drR t u)):=by unfold drF;rw[if_pos hc]
   obtain⟨j,hj,hjn⟩:=(z1t hl).mp hc
   have hnz:∃n∈drR t u,n≠0:=⟨_,(z6d hjn).2,hjn⟩
   rw[List.filterMap_cons_some hF,pS,pS,z5B ht k ws L hw',z5B ht k ws (drR t u::L) hw']
   congr 1
   refine z3D _ ?_ k
   rw[q0t,q0t]
   refine In.same (fun r hr=>?_) (fun r hr=>?_)
   ·rcases q0l.mp hr with rfl|hr
    ·exact ((In.one (A:=v (z0l (drR t u))::L.map v) q0j).mul (byL (drR t u))).cast fun j=>by rw[←z1w (r:=drR t u) j,q1p]
    ·exact In.one (q0i _ hr)
   ·rcases q0l.mp hr with rfl|hr
    ·exact In.div (z2T hnz) ((In.one (A:=v (drR t u)::L.map v) q0j).cast fun j=>by rw[←z1w (r:=drR t u) j,q1p])
    ·exact In.one (q0i _ hr)
  ·have hF:drF t u=none:=by unfold drF;rw[if_neg hc]
   have z0:∀c,c<m→v (drR t u) c=0:=fun c hcm=>q0w fun z=>hc ((z1t hl).mpr ⟨c,hcm,z⟩)
   rw[List.filterMap_cons_none hF,y4u ⟨v (drR t u),In.one (by rw[q0t];exact q0j),z0,y0F ht hu hne z0⟩,z5B ht k ws L hw']
theorem y3y {m:Nat}{t:List Int}{A B:List (List Int)} (hw:∀u∈A++t::B,WL (m+1) u) (hn:(A++t::B).Nodup) (k:Nat):pS (m+1) [] (A++t::B) k=pS (m+1) [] (A++B) k - pS m [] (wd (drF t) (A++t::B)) k:=by
 have ht:=hw t (by simp)
 have hn':(t::(A++B)).Nodup :=(List.perm_middle.nodup_iff).mp hn
 have hw':∀u∈A++B,WL (m+1) u∧u≠t:=fun u hu=>by
  refine⟨hw u ?_,fun e=>(List.nodup_cons.mp hn').1 (e▸hu)⟩
  rcases q0s.mp hu with h|h
  ·exact q0C _ h
  ·exact q0I _ (q0i _ h)
 have ew:wd (drF t) (A++t::B)=wd (drF t) (A++B):=by
  unfold wd
  rw[List.filterMap_append,List.filterMap_cons_none (y1p ht),←List.filterMap_append]
 rw[z5A List.perm_middle,pS,ew]
 congr 1
 rw[z7p ht k (A++B) [] (fun u hu=>(hw' u hu).1.len) (by simp),z5B ht k (A++B) _ hw']
 unfold wd
 rw[y5B]
 rfl
end Rk
end L2
namespace L2
open Fr Wl Pt Rk
namespace Ld
def sumTo:Nat→(Nat→Int)→Int
 |0,_=>0
 |n+1,f=>sumTo n f+f n
def hg (w:Nat) (a s:Nat→Int):Int:=sumTo w (fun j=>a j*s j) - a w*s w
theorem z2s (c d:Int) (f g:Nat→Int):∀n,sumTo n (fun j=>c*f j+d*g j)=c*sumTo n f+d*sumTo n g
 |0=>by simp[sumTo]
 |n+1=>by rw[sumTo,sumTo,sumTo,z2s c d f g n];grind
theorem sumTo_congr {f g:Nat→Int}:∀n,(∀j,j<n→f j=g j)→sumTo n f=sumTo n g
 |0,_=>rfl
 |n+1,h=>by rw[sumTo,sumTo,sumTo_congr n fun j hj=>h j (by lia),h n (by lia)]
theorem z0X {w:Nat}{a b s t:Nat→Int} (h1:∀j,j≤w→a j=b j) (h2:∀j,j≤w→s j=t j):hg w a s=hg w b t:=by
 unfold hg
 rw[sumTo_congr w (g:=fun j=>b j*t j) fun j hj=>by rw[h1 j (by lia),h2 j (by lia)],h1 w (q0e _),h2 w (q0e _)]
theorem z8z (w:Nat) (a:Nat→Int) (c d:Int) (x y:Nat→Int):hg w a (fun j=>c*x j+d*y j)=c*hg w a x+d*hg w a y:=by
 unfold hg
 have:(fun j=>a j*(c*x j+d*y j))=fun j=>c*(a j*x j)+d*(a j*y j):=by funext j;grind
 rw[this,z2s]
 grind
theorem y1f (w:Nat) (s:Nat→Int) (c d:Int) (a b:Nat→Int):hg w (fun j=>c*a j+d*b j) s=c*hg w a s+d*hg w b s:=by
 unfold hg
 have:(fun j=>(c*a j+d*b j)*s j)=fun j=>c*(a j*s j)+d*(b j*s j):=by funext j;grind
 rw[this,z2s]
 grind
theorem z8y (w:Nat) (a:Nat→Int) (c:Int) (x:Nat→Int):hg w a (fun j=>c*x j)=c*hg w a x:=by
 have:=z8z w a c 0 x x
 rw[z0X (b:=a) (t:=fun j=>c*x j+0*x j) (fun _ _=>rfl) fun j _=>by lia,this]
 lia
theorem y1e (w:Nat) (s:Nat→Int) (c:Int) (a:Nat→Int):hg w (fun j=>c*a j) s=c*hg w a s:=by
 have:=y1f w s c 0 a a
 rw[z0X (b:=fun j=>c*a j+0*a j) (t:=s) (fun j _=>by lia) fun _ _=>rfl,this]
 lia
theorem z4U {p:Nat}{f:Nat→Int}:∀{w:Nat},p≤w→sumTo (w+1) f=sumTo w (fun j=>f (skp p j))+f p
 |0,h=>by
  have:p=0:=by lia
  subst this
  rfl
 |w+1,h=>by
  by_cases c:p≤w
  ·rw[sumTo,z4U c,sumTo]
   have:skp p w=w+1:=by unfold skp;rw[if_neg (by lia)]
   rw[this];lia
  ·have:p=w+1:=by lia
   subst this
   rw[sumTo]
   congr 1
   exact sumTo_congr _ fun j hj=>by unfold skp;rw[if_pos hj]
theorem z7A {p w:Nat}{a s:Nat→Int} (h:p≤w):hg (w+1) a s=hg w (fun j=>a (skp p j)) (fun j=>s (skp p j))+a p*s p:=by
 unfold hg
 rw[z4U h]
 have:skp p w=w+1:=by unfold skp;rw[if_neg (by lia)]
 dsimp only
 rw[this]
 lia
def Spt (w:Nat) (s:List Int):Prop:=s.length=w+1∧0<v s w
def Win (w:Nat) (bs:List (List Int)) (s:List Int):Prop:=Spt w s∧∀b∈bs,0<hg w (v b) (v s)
def Pw (w:Nat) (bs:List (List Int)):Prop:=∃s,Win w bs s
def mkL (w:Nat) (f:Nat→Int):List Int:=(List.range (w+1)).map f
theorem y0H (w:Nat) (f:Nat→Int):(mkL w f).length =w+1:=by unfold mkL;rw[List.length_map,List.length_range]
theorem y4D {w j:Nat}{f:Nat→Int} (h:j≤w):v (mkL w f) j=f j:=by
 show (mkL w f).getD j 0=f j
 unfold mkL
 rw[q0a,q0k,List.getElem?_range (by lia)];rfl
theorem y3I {w:Nat}{a f:Nat→Int}:hg w a (v (mkL w f))=hg w a f:=z0X (fun _ _=>rfl) fun j hj=>y4D hj
theorem z5N {w:Nat}{t u:List Int}{s:Nat→Int} (hp:fp t≤w) (ht:t.length=w+2) (hu:u.length=w+2) (hn:∃n∈t,n≠0):
 hg w (v (drR t u)) (fun j=>s (skp (fp t) j))=z3O u t*hg (w+1) (v u) s+(-z2j u t)*hg (w+1) (v t) s:=by
 have hl:u.length=t.length:=by lia
 rw[←y1f]
 have e:∀j,v (z0p u t) j=z3O u t*v u j+ -z2j u t*v t j:=fun j=>by rw[z2l hl];grind
 rw[z0X (w:=w+1) (b:=v (z0p u t)) (t:=s) (fun j _=>(e j).symm) (fun _ _=>rfl),z7A hp]
 have z:v (z0p u t) (fp t)=0:=by rw[z2l hl,z3g hn];lia
 rw[z,q1P,q1q]
 exact z0X (fun j _=>by unfold drR;rw[z3s]) fun _ _=>rfl
theorem z5C {u t:List Int} (h:0<v t (fp t)):0<z3O u t:=by
 unfold z3O
 have g0:0<Int.gcd (v t (fp t)) (v u (fp t)):=Nat.pos_of_ne_zero fun z=>by
  have:=(Int.gcd_eq_zero_iff.mp z).1;lia
 have:=fdiv_mul (q1w (a:=v t (fp t)) (b:=v u (fp t)))
 refine q0w fun c=>?_
 have h2:(v t (fp t)).fdiv (Int.gcd (v t (fp t)) (v u (fp t)))*((Int.gcd (v t (fp t)) (v u (fp t)):Nat):Int)≤0:=Int.mul_nonpos_of_nonpos_of_nonneg (by lia) (by lia)
 lia
theorem y6d {w:Nat}{bs:List (List Int)}{b s0 s1:List Int} (h0:Win w bs s0) (h0b:hg w (v b) (v s0)≤0) (h1:Win w bs s1) (h1b:0<hg w (v b) (v s1)):
 ∃s,Win w bs s∧hg w (v b) (v s)=0:=by
 generalize e0:hg w (v b) (v s0)=x0 at*
 generalize e1:hg w (v b) (v s1)=x1 at*
 refine⟨mkL w fun j=>(-x0)*v s1 j+x1*v s0 j,⟨⟨y0H _ _,?_⟩,fun c hc=>?_⟩,?_⟩
 ·rw[y4D (q0e _)]
  have a:=h0.1.2;have b:=h1.1.2
  have:=q1E h1b a
  have:=q1y (show 0≤ -x0 by lia) (q1v b)
  lia
 ·rw[y3I,z8z]
  have:=q1E h1b (h0.2 c hc)
  have:=q1y (show 0≤ -x0 by lia) (q1v (h1.2 c hc))
  lia
 ·rw[y3I,z8z,e0,e1]
  grind
def z4M (s:List Int):List Int:=s.map fun n=>n.fdiv (z1S s:Int)
theorem y3D {s:List Int} (j:Nat):(z1S s:Int)*v (z4M s) j=v s j:=by
 show (z1S s:Int)*(z4M s).getD j 0=s.getD j 0
 unfold z4M
 rw[q0a,q0a,q0k]
 cases e:s[j]? with
 |none=>simp
 |some n=>
  show (z1S s:Int)*n.fdiv (z1S s:Int)=n
  rw[q1p]
  exact fdiv_mul ((z4h s 0).2 n (q0u e))
theorem y2I (s:List Int):(z4M s).length =s.length:=by unfold z4M;rw[List.length_map]
theorem y0O {w:Nat}{s:List Int}{a:Nat→Int}:(z1S s:Int)*hg w a (v (z4M s))=hg w a (v s):=by
 rw[←z8y]
 exact z0X (fun _ _=>rfl) fun j _=>y3D j
theorem z2M {a b c:Int} (ha:0<a) (h:a*b=c) (hc:0<c):0<b:=by
 refine q0w fun z=>?_
 have:=Int.mul_nonpos_of_nonneg_of_nonpos (q1v ha) (show b≤0 by lia)
 lia
theorem z5i {s:List Int}{w:Nat} (h:0<v s w):0<(z1S s:Int):=by
 have:=z2k (rs:=s) (z3G (j:=w) (by lia))
 lia
theorem Win.low {w:Nat}{bs:List (List Int)}{s:List Int} (h:Win w bs s):Win w bs (z4M s):=by
 have g:=z5i h.1.2
 exact⟨⟨by rw[y2I,h.1.1],z2M g (y3D w) h.1.2⟩,fun b hb=>z2M g y0O (h.2 b hb)⟩
theorem y2H {w:Nat}{s:List Int}{a:Nat→Int} (hs:0<v s w) (h:hg w a (v s)=0):hg w a (v (z4M s))=0:=by
 have g:=z5i hs
 have:=y0O (w:=w) (s:=s) (a:=a)
 rw[h] at this
 exact (q1u.mp this).resolve_left (by lia)
def upL (w:Nat) (t f:List Int):List Int:=(((z2N (fp t) 0 f).map fun n=>v t (fp t)*n).set (fp t) (0 - hg w (v t) (v (z2N (fp t) 0 f))))
theorem y0Z {pl j:Nat}{f:List Int} (h:pl≤f.length):v (z2N pl 0 f) (skp pl j)=v f j:=z5o h
theorem y5T {pl:Nat}{f:List Int} (h:pl≤f.length):v (z2N pl 0 f) pl=0:=z5p h
theorem y3h {w:Nat}{t f:List Int} (hf:f.length=w+1) (hp:fp t≤w):(upL (w+1) t f).length =w+2:=by
 unfold upL
 rw[List.length_set,q0b]
 have:=z8r (pl:=fp t) (y:=f) (by lia)
 show (lf (fp t) f).length =_
 lia
theorem z7L {c:Int}{l:List Int}{j:Nat}:v (l.map fun n=>c*n) j=c*v l j:=v_map l j
theorem z6e {w j:Nat}{t f:List Int} (hf:f.length=w+1) (hp:fp t≤w):v (upL (w+1) t f) (skp (fp t) j)=v t (fp t)*v f j:=by
 have ne:fp t≠skp (fp t) j:=by unfold skp;split<;>lia
 have:v (upL (w+1) t f) (skp (fp t) j)=v ((z2N (fp t) 0 f).map fun n=>v t (fp t)*n) (skp (fp t) j):=by
  show (upL (w+1) t f).getD _ 0=List.getD _ _ 0
  unfold upL
  rw[q0a,q0a,q1J ne]
 rw[this,z7L,y0Z (by lia)]
theorem up_at {w:Nat}{t f:List Int} (hf:f.length=w+1) (hp:fp t≤w):v (upL (w+1) t f) (fp t)=0 - hg (w+1) (v t) (v (z2N (fp t) 0 f)):=by
 show (upL (w+1) t f).getD _ 0=_
 unfold upL
 rw[q0a,List.getElem?_set_self]
 ·rfl
 ·rw[q0b]
  have:=z8r (pl:=fp t) (y:=f) (by lia)
  show fp t<(lf (fp t) f).length
  lia
theorem y4b {w:Nat}{t f:List Int} (hf:f.length=w+1) (hp:fp t≤w):hg (w+1) (v t) (v (upL (w+1) t f))=0:=by
 rw[z7A hp,up_at hf hp]
 have e1:hg w (fun j=>v t (skp (fp t) j)) (fun j=>v (upL (w+1) t f) (skp (fp t) j))=v t (fp t)*hg w (fun j=>v t (skp (fp t) j)) (v f):=by
  rw[←z8y]
  exact z0X (fun _ _=>rfl) fun j _=>z6e hf hp
 have e2:hg (w+1) (v t) (v (z2N (fp t) 0 f))=hg w (fun j=>v t (skp (fp t) j)) (v f):=by
  rw[z7A hp,y5T (by lia),q0T,q1q]
  exact z0X (fun _ _=>rfl) fun j _=>y0Z (by lia)
 rw[e1,e2]
 grind
theorem z9H {w:Nat}{t f:List Int}{bs:List (List Int)} (hp:fp t≤w) (ht:t.length=w+2) (hpos:0<v t (fp t)) (hb:∀u∈bs,u.length=w+2) (hf:Win w (bs.map (drR t)) f):
 Win (w+1) bs (upL (w+1) t f):=by
 have hn:∃n∈t,n≠0:=z3G (j:=fp t) (by lia)
 have hfl:=hf.1.1
 refine⟨⟨y3h hfl hp,?_⟩,fun u hu=>?_⟩
 ·have e:skp (fp t) w=w+1:=by unfold skp;rw[if_neg (by lia)]
  have e2:=z6e (j:=w) hfl hp
  rw[e] at e2
  rw[e2]
  exact q1E hpos hf.1.2
 ·have h1:=z5N (s:=v (upL (w+1) t f)) hp ht (hb u hu) hn
  rw[y4b hfl hp,q0T,q1q] at h1
  have h2:hg w (v (drR t u)) (fun j=>v (upL (w+1) t f) (skp (fp t) j))=v t (fp t)*hg w (v (drR t u)) (v f):=by
   rw[←z8y]
   exact z0X (fun _ _=>rfl) fun j _=>z6e hfl hp
  have h3:=q1E hpos (hf.2 _ (q0z hu))
  exact z2M (z5C hpos) h1.symm (by rw[h2];exact h3)
theorem z8G {w:Nat}{t s:List Int}{bs:List (List Int)} (hp:fp t≤w) (ht:t.length=w+2) (hpos:0<v t (fp t)) (hb:∀u∈bs,u.length=w+2) (hs:Win (w+1) bs s) (ho:hg (w+1) (v t) (v s)=0):
 Win w (bs.map (drR t)) (s.eraseIdx (fp t)):=by
 have hn:∃n∈t,n≠0:=z3G (j:=fp t) (by lia)
 have hsl:=hs.1.1
 refine⟨⟨by rw[List.length_eraseIdx,if_pos (by lia)];lia,?_⟩,fun d hd=>?_⟩
 ·rw[z3s]
  have e:skp (fp t) w=w+1:=by unfold skp;rw[if_neg (by lia)]
  rw[e];exact hs.1.2
 ·obtain⟨u,hu,rfl⟩:=q0f.mp hd
  have h1:=z5N (s:=v s) hp ht (hb u hu) hn
  rw[ho,q0T,q1q] at h1
  rw[z0X (w:=w) (a:=v (drR t u)) (b:=v (drR t u)) (s:=v (s.eraseIdx (fp t))) (t:=fun j=>v s (skp (fp t) j)) (fun _ _=>rfl) (fun j _=>z3s _ _ _),h1]
  exact q1E (z5C hpos) (hs.2 u hu)
def z4j (w p:Nat) (s:List Int) (bs:List (List Int)):Int:=bs.foldl (fun z b=>max z (((v b p).natAbs :Int)*v s w/hg w (v b) (v s)+1)) 1
theorem z6O {w p:Nat}{s:List Int}:∀(bs:List (List Int)) (z:Int),z≤bs.foldl (fun z b=>max z (((v b p).natAbs :Int)*v s w/hg w (v b) (v s)+1)) z∧∀b∈bs,((v b p).natAbs :Int)*v s w/hg w (v b) (v s)+1≤bs.foldl (fun z b=>max z (((v b p).natAbs :Int)*v s w/hg w (v b) (v s)+1)) z
 |[],z=>⟨Int.le_refl _,fun b h=>by cases h⟩
 |c::bs,z=>by
  obtain⟨h1,h2⟩:=z6O (w:=w) (p:=p) (s:=s) bs (max z (((v c p).natAbs :Int)*v s w/hg w (v c) (v s)+1))
  rw[List.foldl_cons]
  refine⟨by lia,fun b hb=>?_⟩
  rcases q0l.mp hb with rfl|hb
  ·lia
  ·exact h2 b hb
def z6X (w p:Nat) (sg:Int) (s:List Int) (bs:List (List Int)):List Int:=(s.map fun n=>z4j w p s bs*n).set p (z4j w p s bs*v s p+sg*v s w)
theorem z9O {w p:Nat}{sg:Int}{s:List Int}{bs:List (List Int)}:(z6X w p sg s bs).length =s.length:=by unfold z6X;rw[List.length_set,List.length_map]
theorem z9N {w p j:Nat}{sg:Int}{s:List Int}{bs:List (List Int)} (hp:p<s.length):v (z6X w p sg s bs) j=z4j w p s bs*v s j+if j=p then sg*v s w else 0:=by
 show (z6X w p sg s bs).getD j 0=_
 unfold z6X
 rw[q0a]
 by_cases h:j=p
 ·subst h
  rw[List.getElem?_set_self (by rw[q0b];exact hp),if_pos rfl];rfl
 ·rw[q1J (fun z=>h z.symm),if_neg h,←q0a]
  show v (s.map fun n=>z4j w p s bs*n) j=_
  rw[z7L,q1q]
theorem z6g {p:Nat}{f:Nat→Int} (hf:∀j,j≠p→f j=0):∀n,sumTo n f=if p<n then f p else 0
 |0=>rfl
 |n+1=>by
  rw[sumTo,z6g hf n]
  by_cases h:p<n
  ·rw[if_pos h,if_pos (by lia),hf n (by lia),q1q]
  ·rw[if_neg h]
   by_cases h2:p=n
   ·subst h2;rw[if_pos (by lia)];lia
   ·rw[if_neg (by lia),hf n (fun z=>h2 z.symm)];rfl
theorem y5X {w p:Nat}{sg:Int}{s:List Int}{bs:List (List Int)}{a:Nat→Int} (hs:s.length=w+1) (hp:p<w):hg w a (v (z6X w p sg s bs))=z4j w p s bs*hg w a (v s)+a p*(sg*v s w):=by
 have e:hg w a (v (z6X w p sg s bs))=hg w a (fun j=>z4j w p s bs*v s j+1*(if j=p then sg*v s w else 0)):=z0X (fun _ _=>rfl) fun j _=>by rw[z9N (by lia),Int.one_mul]
 rw[e,z8z,Int.one_mul]
 congr 1
 unfold hg
 dsimp only
 rw[z6g (p:=p) (fun j hj=>by rw[if_neg hj,q0T]),if_pos hp,if_pos rfl,if_neg (by lia),q0T,Int.sub_zero]
theorem y2X {a h:Int} (ha:0≤a) (hh:0<h) {z:Int} (hz:a/h+1≤z):a<z*h:=by
 have h1:=Int.lt_ediv_add_one_mul_self a hh
 have h2:=Int.mul_le_mul_of_nonneg_right hz (q1v hh)
 lia
theorem z5s {w p:Nat}{sg:Int}{s b:List Int}{bs:List (List Int)} (hs:Win w bs s) (hp:p<w) (hsg:sg=1∨sg= -1) (hb0:hg w (v b) (v s)=0) (hb:0<v b p*sg):Win w (bs++[b]) (z6X w p sg s bs):=by
 have hl:=hs.1.1
 have hw:=hs.1.2
 have bt1:1≤z4j w p s bs:=(z6O bs 1).1
 refine⟨⟨by rw[z9O,hl],?_⟩,fun c hc=>?_⟩
 ·rw[z9N (by lia),if_neg (by lia),q1q]
  exact q1E (by lia) hw
 ·rw[y5X hl hp]
  rcases q0s.mp hc with hc|hc
  ·have h1:=hs.2 c hc
   have h2:=(z6O (w:=w) (p:=p) (s:=s) bs 1).2 c hc
   have h3:=y2X (q1y (Int.natCast_nonneg (v c p).natAbs) (q1v hw)) h1 h2
   have h4: -(((v c p).natAbs :Int)*v s w)≤v c p*(sg*v s w):=by
     rcases Int.natAbs_eq (v c p) with e|e
     ·generalize (v c p).natAbs =n at*
      rw[e]
      rcases hsg with rfl|rfl
      ·have:=q1y (Int.natCast_nonneg n) (q1v hw);grind
      ·grind
     ·generalize (v c p).natAbs =n at*
      rw[e]
      rcases hsg with rfl|rfl
      ·grind
      ·have:=q1y (Int.natCast_nonneg n) (q1v hw);grind
   have h5:z4j w p s bs*hg w (v c) (v s)=bs.foldl (fun z b=>max z (((v b p).natAbs :Int)*v s w/hg w (v b) (v s)+1)) 1*hg w (v c) (v s):=rfl
   lia
  ·rw[q0g.mp hc,hb0,q0T,Int.zero_add]
   have:=q1E hb hw
   rw[←Int.mul_assoc];exact this
end Ld
end L2
namespace L2
open Fr Wl Pt Rk
namespace Ld
def z0I (sg:Int) (r:List Int):List Int:=r.map fun n=>sg*n
theorem z2r {sg:Int}{r:List Int} (j:Nat):v (z0I sg r) j=sg*v r j:=z7L
theorem z3Y {sg:Int}{r:List Int}:(z0I sg r).length =r.length:=by unfold z0I;rw[List.length_map]
theorem z1s {w:Nat}{sg:Int}{r:List Int}{s:Nat→Int}:hg w (v (z0I sg r)) s=sg*hg w (v r) s:=by
 rw[←y1e]
 exact z0X (fun j _=>z2r j) fun _ _=>rfl
def ldL (b:List Int):Int:=if 0<v b (fp b) then 1 else -1
theorem z1u (b:List Int):ldL b=1∨ldL b= -1:=by unfold ldL;split<;>simp
theorem z5c {b:List Int} (h:∃n∈b,n≠0):0<ldL b*v b (fp b):=by
 have:=z2q h
 unfold ldL
 split<;>lia
theorem z7D {b:List Int} (h:∃n∈b,n≠0) {sg:Int} (hs:sg=1∨sg= -1):fp (z0I sg b)=fp b:=by
 refine z1M ?_ fun j hj=>?_
 ·rw[z2r]
  exact q1g (by rcases hs with h|h<;>rw[h]<;>decide) (z2q h)
 ·rw[z2r,z1f hj,q0T]
theorem y1l {w:Nat}{bs:List (List Int)}{b s0:List Int} (hz:∀j,j<w→v b j=0) (h0:Spt w s0) (hb:hg w (v b) (v s0)≤0):¬Pw w (bs++[b]):=by
 rintro⟨s,hs,hw⟩
 have e:∀s:Nat→Int,hg w (v b) s= -(v b w*s w):=fun s=>by
  unfold hg
  rw[sumTo_congr w (g:=fun _=>0) fun j hj=>by rw[hz j hj,q1P]]
  have:∀n,sumTo n (fun _=>0)=0:=fun n=>by
   induction n with
   |zero=>rfl
   |succ n ih=>rw[sumTo,ih];rfl
  rw[this];lia
 have h1:=hw b (by simp)
 rw[e] at h1 hb
 have c0:0≤v b w:=by
  refine q0w fun z=>?_
  have:=Int.mul_neg_of_neg_of_pos (show v b w<0 by lia) h0.2
  lia
 have:=q1y c0 (q1v hs.2)
 lia
theorem z7J {w:Nat}{bs:List (List Int)}{b s0:List Int} (hbl:b.length=w+2) (hl:∀u∈bs,u.length=w+2) (hfp:fp b≤w) (h0:Win (w+1) bs s0) (hb:hg (w+1) (v b) (v s0)≤0)
 (hn:¬Pw w (bs.map (drR (z0I (ldL b) b)))):¬Pw (w+1) (bs++[b]):=by
 rintro⟨s1,h1,h2⟩
 have nz:∃n∈b,n≠0:=z6E (by lia)
 obtain⟨s,hs,ho⟩:=y6d h0 hb ⟨h1,fun c hc=>h2 c (q0C _ hc)⟩ (h2 b (by simp))
 have ft:=z7D nz (z1u b)
 refine hn ⟨_,z8G (t:=z0I (ldL b) b) (by lia) (by rw[z3Y,hbl]) (by rw[z2r,ft];exact z5c nz) hl hs (by rw[z1s,ho,q0T])⟩
theorem z7I {w:Nat}{bs:List (List Int)}{b f:List Int} (hbl:b.length=w+2) (hl:∀u∈bs,u.length=w+2) (hfp:fp b≤w) (hf:Win w (bs.map (drR (z0I (ldL b) b))) f):
 Win (w+1) bs (z4M (upL (w+1) (z0I (ldL b) b) f))∧hg (w+1) (v b) (v (z4M (upL (w+1) (z0I (ldL b) b) f)))=0∧
 Win (w+1) (bs++[b]) (z4M (z6X (w+1) (fp b) (ldL b) (z4M (upL (w+1) (z0I (ldL b) b) f)) bs)):=by
 have nz:∃n∈b,n≠0:=z6E (by lia)
 have ft:=z7D nz (z1u b)
 have hpos:0<v (z0I (ldL b) b) (fp (z0I (ldL b) b)):=by rw[z2r,ft];exact z5c nz
 have hw:=z9H (t:=z0I (ldL b) b) (by lia) (by rw[z3Y,hbl]) hpos hl hf
 have ho:=y4b (w:=w) (t:=z0I (ldL b) b) hf.1.1 (by lia)
 have hob:hg (w+1) (v b) (v (upL (w+1) (z0I (ldL b) b) f))=0:=by
  rw[z1s] at ho
  exact (q1u.mp ho).resolve_left (by rcases z1u b with h|h<;>rw[h]<;>decide)
 have hlow:=hw.low
 have holow:=y2H hw.1.2 hob
 refine⟨hlow,holow,(z5s hlow (by lia) (z1u b) holow ?_).low⟩
 rw[q1p];exact z5c nz
def bdL (ts:List (List Int)) (sg:List Int):List (List Int):=List.zipWith (fun t s=>z0I s t) ts sg
def z6W (w:Nat) (ts:List (List Int)) (sg:List Int):Prop:=Pw w (bdL ts sg)
theorem z3c {ts:List (List Int)}{sg:List Int} (h:ts.length=sg.length) (t:List Int) (s:Int):bdL (ts++[t]) (sg++[s])=bdL ts sg++[z0I s t]:=by
 unfold bdL
 rw[List.zipWith_append h];rfl
theorem Pw.less {w:Nat}{bs cs:List (List Int)} (h:Pw w (bs++cs)):Pw w bs:=let ⟨s,a,b⟩:=h;⟨s,a,fun c hc=>b c (q0C _ hc)⟩
open Classical in
noncomputable def z1h (w:Nat) (ts:List (List Int)) (t s:List Int):List (List Int):=[s++[-1],s++[1]].filter fun s'=>decide (z6W w (ts++[t]) s')
noncomputable def sgN (w:Nat) (ts:List (List Int)):Nat→List (List Int)
 |0=>[[]]
 |i+1=>(sgN w ts i).flatMap (z1h w (ts.take i) (ts.getD i []))
def Sgn (s:List Int):Prop:=∀x∈s,x=1∨x= -1
open Classical in
theorem z2Z {w:Nat}{ts:List (List Int)}:∀{i:Nat},i≤ts.length→∀{s:List Int},s∈sgN w ts i↔s.length=i∧Sgn s∧z6W w (ts.take i) s
 |0,_,s=>by
  show s∈[[]]↔_
  rw[q0g,List.take_zero]
  constructor
  ·rintro rfl
   refine⟨rfl,(fun x h=>by cases h),mkL w (fun _=>1),⟨y0H _ _,by rw[y4D (q0e _)];decide⟩,fun b hb=>?_⟩
   exact absurd hb (by unfold bdL;simp)
  ·exact fun h=>q1j.mp h.1
 |i+1,hi,s=>by
  have ih:=fun {s}=>z2Z (w:=w) (ts:=ts) (i:=i) (by lia) (s:=s)
  have et:ts[i]? =some (ts.getD i []):=by rw[q0a,q0c (by lia)];rfl
  have tk:ts.take (i+1)=ts.take i++[ts.getD i []]:=by rw[q0Q,et];rfl
  have tl:(ts.take i).length =i:=by rw[q0n];lia
  rw[sgN,List.mem_flatMap,tk]
  constructor
  ·rintro⟨u,hu,hs⟩
   obtain⟨h1,h2,h3⟩:=ih.mp hu
   unfold z1h at hs
   obtain⟨h4,h5⟩:=q1a.mp hs
   have h6:=of_decide_eq_true h5
   simp only[q0l,q1k,or_false] at h4
   rcases h4 with rfl|rfl
   ·exact⟨by simp[h1],fun x hx=>by rcases q0s.mp hx with h|h;exact h2 x h;exact .inr (q0g.mp h),h6⟩
   ·exact⟨by simp[h1],fun x hx=>by rcases q0s.mp hx with h|h;exact h2 x h;exact .inl (q0g.mp h),h6⟩
  ·rintro⟨h1,h2,h3⟩
   obtain⟨u,x,rfl⟩:∃u x,s=u++[x]:=⟨s.dropLast,s.getLast (fun z=>by rw[z] at h1;simp at h1),(q0W _).symm⟩
   have ul:u.length=i:=by simpa using h1
   refine⟨u,ih.mpr ⟨ul,fun y hy=>h2 y (q0C _ hy),?_⟩,?_⟩
   ·unfold z6W at h3 ⊢
    rw[z3c (by lia)] at h3
    exact h3.less
   ·unfold z1h
    refine q1a.mpr ⟨?_,decide_eq_true h3⟩
    rcases h2 x (by simp) with rfl|rfl<;>simp
theorem y4d (w:Nat) (ts:List (List Int)) (t s:List Int):(z1h w ts t s).length ≤2:=by
 unfold z1h
 exact q1I _ _
theorem z7k (w:Nat) (ts:List (List Int)):∀i,(sgN w ts i).length ≤2^i
 |0=>Nat.le_refl _
 |i+1=>by
  have ih:=z7k w ts i
  rw[sgN]
  generalize sgN w ts i=L at*
  have:∀L:List (List Int),(L.flatMap (z1h w (ts.take i) (ts.getD i []))).length ≤2*L.length:=fun L=>by
   induction L with
   |nil=>simp
   |cons a L ih2=>
    rw[List.flatMap_cons,q0m,q0J]
    have:=y4d w (ts.take i) (ts.getD i []) a
    lia
  have:=this L
  rw[Nat.pow_succ];lia
theorem y0j {w:Nat}{ts:List (List Int)}{t s:List Int} (hl:ts.length=s.length) (htl:t.length=w+1) (ht:fp t<w) (hr:z6W w ts s):∃x,(x=1∨x= -1)∧z6W w (ts++[t]) (s++[x]):=by
 obtain⟨p,hp⟩:=hr
 unfold z6W
 have app:∀x:Int,0<hg w (v (z0I x t)) (v p)→Pw w (bdL (ts++[t]) (s++[x])):=fun x h=>by
  rw[z3c hl]
  refine⟨p,hp.1,fun b hb=>?_⟩
  rcases q0s.mp hb with hb|hb
  ·exact hp.2 b hb
  ·rw[q0g.mp hb];exact h
 rcases (by lia:0<hg w (v t) (v p)∨hg w (v t) (v p)<0∨hg w (v t) (v p)=0) with h|h|h
 ·exact⟨1,.inl rfl,app 1 (by rw[z1s];lia)⟩
 ·exact⟨-1,.inr rfl,app (-1) (by rw[z1s];lia)⟩
 ·refine⟨1,.inl rfl,?_⟩
  rw[z3c hl]
  have nz:∃n∈t,n≠0:=z6E (by lia)
  obtain⟨h1,h2⟩:=z5s (b:=t) (sg:=ldL t) (p:=fp t) hp ht (z1u t) h (by rw[q1p];exact z5c nz)
  refine⟨_,h1,fun b hb=>?_⟩
  rcases q0s.mp hb with hb|hb
  ·exact h2 b (q0C _ hb)
  ·rw[q0g.mp hb,z1s,Int.one_mul]
   exact h2 t (by simp)
end Ld
end L2
namespace L2
open PySem PySem.Spec PyProof.Rows
section
variable {X:Cx}
end
end L2
namespace L2
open PySem PySem.Spec PyProof.Rows
section
variable {κ:Type} [DecidableEq κ]
end
section
variable {P:Program}{w:World}{H:Hp}{h:Heap}{a:Addr}
end
section
variable {X:Cx}{pins:List (Addr×Obj)}{σ:St}{H:Hp}{s:Shared}{a:Addr}{y v:V}{u r:Value}{o:Option V}{A:Around}{E:Value→Shared→Prop}
end
section
variable {X:Cx}{pins:List (Addr×Obj)}{σ:St}{H:Hp}{s:Shared}{a:Addr}{kvs:List (Key×V)}{k:Key}{u:Value}{A:Around}{E:Value→Shared→Prop}
end
section
variable {X:Cx}{o i e value:Expr}{pos pos' tpos:Pos}{td ty tv:TE}
end
section
variable {X:Cx}{pos:Pos}
end
end L2
namespace L2
open PySem PySem.Spec PyProof.Rows
section
theorem y2b {M:Model}{A:Around}{E:Value→Shared→Prop}{s:Shared}{Q:Value→Shared→Prop}
 (q:∀(h':Heap) (e:Addr),(∀b o,s.heap.get? b=some o→h'.get? b=some o)→(∃oe,h'.get? e=some oe∧oe.cls= .type "StopIteration")→Q (.ref e) {s with heap:=h'}):
 wpAny M A (newExc (Value.type "StopIteration") []) Q E s:=by
 rw[newExc.eq_1]
 obtain⟨hp,g,d,tk,os⟩:=s
 unfold newTuple
 refine wpAny_bind (wpAny_newObj_type ?_ (by size_fits))
 have:firstArgMember (Value.type "StopIteration") []=pure Value.none:=by
  with_unfolding_all rfl
 rw[this]
 refine wpAny_bind (wpAny_pure ?_)
 refine wpAny_newObj_type ?_ (by size_fits)
 refine q _ _ (fun b o e=>q0d _ (q0d _ e)) ⟨_,q0q _ rfl,rfl⟩
variable {prog:Program}{w:World}{A:Around}{E:Value→Shared→Prop}{s:Shared}{it d:Addr}{i n ep:Nat}{o:Obj}{es:Array DictEntry}{e:DictEntry}
section
variable {Q:Option Value→Shared→Prop}
end
end
section
variable {X:Cx}
end
end L2
namespace L2
open PySem PySem.Spec PyProof.Rows
section
variable {X:Cx}
end
end L2
namespace L2
open PySem PySem.Spec PySem.W PyProof.Rows
section
variable {X:Cx}{mth cx n:Str}{apos cpos xpos hp hpos tpos:Pos}{o e:Expr}{es:List Expr}{tob:TE}{ta:TA}{k j:Nat}{ps:List Str}{sp:Sp}{W C0 g:Addr}{gd:FuncData}{st0:Stmt}{ts:TS}
end
end L2
namespace L2
open PySem PySem.Spec PyProof.Rows
def Itv (K:PySem.W.Frag) (a:Addr) (n:Nat):It:=
 ⟨fun i H=>∃xs x,SqL K H a xs∧xs.length=n∧i<n∧xs[n - 1 - i]? =some x,fun i H x H'=>H'=H∧∀xs,SqL K H a xs→xs[n - 1 - i]? =some x,fun i H=>∃xs,SqL K H a xs∧xs.length=n∧i=n⟩
theorem y1Z {P:Program}{w:World}{K:PySem.W.Frag}{tg:Expr} (a it:Addr) (n:Nat):y3T P w K tg (Itv K a n) [it] it (fun i h=>i≤n∧h.IsRevIter it a ((n:Int) - 1 - (i:Int))) where
 mem:=by simp
 obj:=fun i h st b hb=>by
  have e:b=it:=by simpa using hb
  subst e
  obtain⟨_,o,e,c,d⟩:=st
  exact⟨o,e,fun v z=>by rw[d] at z;cases z⟩
 keep:=fun i h h' st k=>⟨st.1,st.2.at fun o e=>k it (by simp) o e⟩
 item:=by
  intro X hP hw hK hc i pins s σ H E I hf st hg
  subst hP hw hK
  obtain⟨xs,x,hq,hl,hi,hx⟩:=hg
  obtain⟨its,rv,p,hz⟩:=I.list hq
  obtain⟨u,hu,ru⟩:=rv.get hx
  obtain⟨f0,f1,f2,f3,f4,f5⟩:=hf it (by simp)
  obtain⟨st1,st2⟩:=st
  rw[show (n:Int) - 1 - (i:Int)=((n - 1 - i:Nat):Int) by lia] at st2
  refine wpAny_pyNext_rev_item st2 p.isList (x:=u) (by simpa using hu) fun h' st' sb=>?_
  rw[show ((n - 1 - i:Nat):Int) - 1=(n:Int) - 1 - ((i+1:Nat):Int) by lia] at st'
  have I1:Inv X pins σ H {s with heap:=h'}:=I.turned (t':=s.toks) (fun b o hb e=>(sb.2 b hb).trans e) f0 f1 f3 f4 f5
  obtain⟨o,e,c,d⟩:=id st'
  exact⟨u,rfl,y2R (s:={s with heap:=h'}) e c d (by decide) ⟨x,H,I1,ru,⟨rfl,fun ys hy=>by rw[I.list_inj hy hq];exact hx⟩,⟨hi,st'⟩,fun b hb=>(hf b hb).1⟩⟩
 done:=by
  intro X hP hw hK hc i pins s σ H E I hf st hg
  subst hP hw hK
  obtain⟨xs,hq,hl,hi⟩:=hg
  obtain⟨f0,f1,f2,f3,f4,f5⟩:=hf it (by simp)
  obtain⟨st1,st2⟩:=st
  rw[show (n:Int) - 1 - (i:Int)= -1 by lia] at st2
  exact wpAny_pyNext_rev_end (I.ok.hd hc) st2 fun h' eb=>⟨rfl,I.turned (t':=s.toks) (fun b o hb e=>eb b o hb e) f0 f1 f3 f4 f5⟩
 self:=fun _ _ _ _ _ st h=>wpAny_pyIter_revIter st.2 h
theorem y2k (K:PySem.W.Frag) (a:Addr) (xs:List V):z6a (Itv K a xs.length) xs.length (fun H=>SqL K H a xs) (fun i H x H'=>H'=H∧xs.reverse[i]? =some x) where
 go:=fun i H h hi=>⟨xs,xs[xs.length - 1 - i],h,rfl,hi,q0c (by lia)⟩
 stop:=fun H h=>⟨xs,h,rfl,rfl⟩
 yld:=fun i H x H' h hi y=>⟨y.1,by rw[List.getElem?_reverse hi];exact y.2 xs h⟩
section
variable {X:Cx}
def iRevK (K:PySem.W.Frag) (tl:TA):TI:=fun σ H R=>tl σ H fun vs H1=>∃a xs,vs=[.ref a]∧H1 a=some (.lst xs)∧R (Itv K a xs.length) H1
theorem y5v {K:PySem.W.Frag} (hK:X.K=K) {tg l:Expr}{tl:TA}{p pos:Pos} (hg:Gl X "reversed") (hm:X.mg "reversed"=none) (ha:PA X [l] tl) (hs:starEach [l] X.env=[(false,eval l X.env)]:=by rfl):
 PI X tg (.Call (.Name "reversed" p) [l] [] pos) (iRevK K tl):=by
 subst hK
 intro pins s σ H R I h
 refine Call_ (z3P I hg hm PyProof.Rows.boot_reversed (PyProof.Rows.callWith_type1 (thn (ha pos pins s σ H _ I h) fun us s1 ⟨vs,H1,I1,r1,q1⟩=>?_) hs rfl))
 obtain⟨a,xs,e,hq,q⟩:=q1
 subst e
 cases r1 with
 |cons r rr=>
  cases rr
  cases r
  obtain⟨hz,its,n,rv,hlen,ho⟩:=I1.lstM hq
  have hsz:its.toArray.size=xs.length:=by rw[q0h];exact hlen.symm
  refine call_reversed_list (items:=its.toArray) ⟨_,ho,rfl,_,rfl⟩ ?_
  have hit:(s1.heap.push (revObj a ((its.toArray.size:Int) - 1))).IsRevIter s1.heap.objs.size a (((xs.length:Nat):Int) - 1 - ((0:Nat):Int)):=⟨_,q0q _ rfl,rfl,by rw[hsz];simp[revObj]⟩
  refine wpAny_pyIter_revIter (s:={s1 with heap:=s1.heap.push (revObj a ((its.toArray.size:Int) - 1))}) hit ?_
  refine⟨s1.heap.objs.size,[s1.heap.objs.size],_,_,H1,rfl,I1.kept (t':=s1.toks) fun b o e=>q0d _ e,y1Z a _ xs.length,⟨q0S _,hit⟩,fun b hb=>?_,q⟩
  have e:b=s1.heap.objs.size:=by simpa using hb
  subst e
  exact I1.fpOk (q0e _) (I1.hok.fresh (q0e _))
end
end L2
namespace L2
open PySem PySem.Spec PyProof.Rows
theorem z1H {δ:Type}{J:It}{n:Nat}{Ok:Hp→Prop}{xs:List V} (ds:List δ) (hx:n=ds.length) (R:z6a J n Ok (fun i H x H'=>H'=H∧xs[i]? =some x)) {fr:List (Option Nat)}{g:TG}{tt:TT}{te:TE}{σ:St}{H1:Hp}{Q:VK}{D:Addr} (hD:H1 D=none) (pt:δ→St→St) (hpt:∀d e σ,pt d (pt e σ)=pt d σ) (tst:δ→Bool) (Rel:Hp→δ→V→Prop)
 (hrel:∀H H' d u,(∀b o,b≠D→H b=some o→H' b=some o)→(∃acc,H D=some (.lst acc))→Rel H d u→Rel H' d u)
 (hok:∀H,Same H1 H→Ok H) (hn:n≤sizeLine)
 (hg:∀(i:Nat) x d,xs[i]? =some x→ds[i]? =some d→∀σ H,Same H1 H→∀S:St→Hp→Prop,S (pt d σ) H→g x σ H S)
 (ht:∀d∈ds,∀Hc,Same H1 Hc→∀S:Bool→Hp→Prop,(∀H',Same Hc H'→S (tst d) H')→tt (pt d (z0G fr σ)) Hc S)
 (hv:∀d∈ds,tst d=true→∀Hc,Same H1 Hc→(∃acc,Hc D=some (.lst acc))→∀S:VK,(∀u H',Same Hc H'→Rel H' d u→S u H')→te (pt d (z0G fr σ)) Hc S)
 (q:∀us H',Same H1 H'→H' D=some (.lst us)→Each (Rel H') (ds.filter tst) us→Q (.ref D) H'):
 z3U J g tt te Q D (z0G fr σ) (upd H1 D (.lst [])):=by
 subst hx
 refine z4H R (fun i acc σ' H'=>((∃e,σ'=pt e (z0G fr σ))∨σ'=z0G fr σ)∧Same H1 H'∧H' D=some (.lst acc)∧Each (Rel H') ((ds.take i).filter tst) acc) ⟨.inr rfl,z0f hD _,z0c,.nil⟩ ?_ hn ?_ ?_
 ·rintro i acc σ' H' hi ⟨_,hs,_,he⟩
  refine⟨hok _ hs,?_⟩
  rw[←he.length]
  refine q0o (q1I _ _) ?_
  rw[q0n];lia
 ·rintro N i x acc σ' H' H'' hi ⟨hσ,hs,hd,he⟩ ⟨rfl,hx⟩ n1 n2
  have hdi:ds[i]? =some ds[i]:=q0c hi
  have hm:ds[i]∈ds:=q0y hi
  generalize ds[i]=d at hdi hm
  have es:pt d σ'=pt d (z0G fr σ):=by
   rcases hσ with⟨e,rfl⟩|rfl
   ·rw[hpt]
   ·rfl
  refine hg i x d hx hdi _ _ hs _ ?_
  rw[es]
  have tk:ds.take (i+1)=ds.take i++[d]:=by rw[q0Q,hdi];rfl
  refine ht d hm _ hs _ fun H3 g3=>?_
  have hs3:=hs.trans g3
  have hd3:=g3 _ _ hd
  have he3:Each (Rel H3) ((ds.take i).filter tst) acc:=he.imp fun a b h=>hrel _ _ _ _ (fun c o _ e=>g3 _ _ e) ⟨_,hd⟩ h
  cases hb:tst d with
  |true=>
   refine z7x ?_
   refine hv d hm hb _ hs3 ⟨_,hd3⟩ _ fun u H4 g4 hr=>?_
   have hd4:=g4 _ _ hd3
   refine n1 _ _ _ hd4 ⟨.inl ⟨_,rfl⟩,fun c o e=>?_,z0c,?_⟩
   ·rw[z0m (z0i e hD)];exact g4 _ _ (hs3 _ _ e)
   ·have up:∀a b,Rel H4 a b→Rel (upd H4 D (.lst (acc++[u]))) a b:=fun a b h=>hrel _ _ _ _ (fun c o hc e=>by rw[z0m hc];exact e) ⟨_,hd4⟩ h
    rw[tk,q1c,q0O hb]
    exact ((he3.imp fun a b h=>up a b (hrel _ _ _ _ (fun c o _ e=>g4 _ _ e) ⟨_,hd3⟩ h)).snoc (up _ _ hr))
  |false=>
   refine z3r ?_
   refine n2 _ _ ⟨.inl ⟨_,rfl⟩,hs3,hd3,?_⟩
   rw[tk,q1c,q0U (by simp[hb])]
   simpa using he3
 ·rintro acc σ' H' ⟨_,hs,hd,he⟩
  rw[q0R] at he
  exact q acc H' hs hd he
theorem z6p (a b c d:Option V) (σ:St):(((σ.set 0 a).set 1 b).set 0 c).set 1 d=(σ.set 0 c).set 1 d:=by
 rw[List.set_comm _ _ (show (1:Nat)≠0 by decide),List.set_set,List.set_set]
end L2
namespace L2
namespace Rk
open Wl
def z2U (k:Nat) (h t:List Int):List Int:=List.zipWith (fun n m=>n*v h k - m*v t k) t h
theorem z7O {k:Nat}{h t:List Int} (hl:t.length=h.length):(z2U k h t).length =t.length:=by
 unfold z2U
 rw[q1D,hl,Nat.min_self]
theorem z4l {k:Nat}{h t:List Int} (hl:t.length=h.length) (j:Nat):v (z2U k h t) j=v t j*v h k - v h j*v t k:=
 y3Z (f:=fun n m=>n*v h k - m*v t k) (by simp) t h hl j
structure RdI (m k:Nat) (rows F L:List (List Int)):Prop where
 fl:∀t∈F,t.length=m+1∧fp t<k
 up:F.Pairwise fun a b=>fp a<fp b
 off:∀s∈F,∀t∈F,fp s≠fp t→v s (fp t)=0
 ll:∀t∈L,t.length=m+1∧∀j,j<k→v t j=0
 sp:In ((F++L).map v)=In (rows.map v)
theorem RdI.start {m:Nat}{rows:List (List Int)} (h:∀t∈rows,t.length=m+1):RdI m 0 rows [] rows:=
 ⟨(fun t h=>by cases h),.nil,(fun s h=>by cases h),fun t ht=>⟨h t ht,fun j hj=>by lia⟩,rfl⟩
theorem RdI.pass {m k:Nat}{rows F L:List (List Int)} (I:RdI m k rows F L) (h:∀t∈L,v t k=0):RdI m (k+1) rows F L:=
 ⟨fun t ht=>⟨(I.fl t ht).1,by have:=(I.fl t ht).2;lia⟩,I.up,I.off,fun t ht=>⟨(I.ll t ht).1,fun j hj=>by
  by_cases e:j=k
  ·rw[e];exact h t ht
  ·exact (I.ll t ht).2 j (by lia)⟩,I.sp⟩
theorem RdI.step {m k:Nat}{rows F L:List (List Int)} (I:RdI m k rows F L) (km:k<m) {h:List Int} (hL:h∈L) (hk:v h k≠0):RdI m (k+1) rows (F.map (z2U k h)++[h]) (L.map (z2U k h)):=by
 obtain⟨hl,hz⟩:=I.ll h hL
 have hfp:fp h=k:=z1M hk hz
 have fe:∀t∈F,(z2U k h t).length =m+1∧fp (z2U k h t)=fp t:=fun t ht=>by
  obtain⟨tl,tk⟩:=I.fl t ht
  have e:t.length=h.length:=by rw[tl,hl]
  have tn:∃n∈t,n≠0:=z6E (by lia)
  refine⟨by rw[z7O e,tl],z1M ?_ fun j hj=>?_⟩
  ·rw[z4l e,hz _ tk,q1P,Int.sub_zero]
   exact q1g (z2q tn) hk
  ·rw[z4l e,hz j (by lia),z1f hj];lia
 have inF:∀t,t∈F.map (z2U k h)++[h]→(∃u∈F,t=z2U k h u)∨t=h:=fun t ht=>by
  rcases q0s.mp ht with ht|ht
  ·obtain⟨u,hu,rfl⟩:=q0f.mp ht
   exact .inl ⟨u,hu,rfl⟩
  ·exact .inr (q0g.mp ht)
 refine⟨fun t ht=>?_,?_,fun s hs t ht hne=>?_,fun t ht=>?_,?_⟩
 ·rcases inF t ht with⟨u,hu,rfl⟩|rfl
  ·obtain⟨a,b⟩:=fe u hu
   have:=(I.fl u hu).2
   exact⟨a,by lia⟩
  ·exact⟨hl,by lia⟩
 ·rw[List.pairwise_append]
  refine⟨?_,by simp,fun a ha b hb=>?_⟩
  ·rw[q0Z]
   refine List.Pairwise.imp_of_mem (fun {a b} ha hb hab=>?_) I.up
   rw[(fe a ha).2,(fe b hb).2];exact hab
  ·obtain⟨u,hu,rfl⟩:=q0f.mp ha
   rw[q0g.mp hb,(fe u hu).2,hfp]
   exact (I.fl u hu).2
 ·rcases inF s hs with⟨u,hu,rfl⟩|rfl
  ·have eu:u.length=h.length:=by rw[(I.fl u hu).1,hl]
   rcases inF t ht with⟨w,hw,rfl⟩|rfl
   ·rw[(fe w hw).2,z4l eu,hz _ (I.fl w hw).2,I.off u hu w hw (by rw[←(fe u hu).2,←(fe w hw).2];exact hne)]
    lia
   ·rw[hfp,z4l eu,q1p];lia
  ·rcases inF t ht with⟨w,hw,rfl⟩|rfl
   ·rw[(fe w hw).2];exact hz _ (I.fl w hw).2
   ·exact absurd rfl hne
 ·obtain⟨u,hu,rfl⟩:=q0f.mp ht
  obtain⟨ul,uz⟩:=I.ll u hu
  have eu:u.length=h.length:=by rw[ul,hl]
  refine⟨by rw[z7O eu,ul],fun j hj=>?_⟩
  rw[z4l eu]
  by_cases e:j=k
  ·rw[e,q1p];lia
  ·rw[uz j (by lia),hz j (by lia)];lia
 ·rw[←I.sp]
  have hm:∀u∈F++L,u.length=h.length:=fun u hu=>by
   rcases q0s.mp hu with hu|hu
   ·rw[(I.fl u hu).1,hl]
   ·rw[(I.ll u hu).1,hl]
  have hin:v h∈(F++L).map v:=q0z (q0I _ hL)
  refine In.same (fun r hr=>?_) (fun r hr=>?_)
  ·obtain⟨t,ht,rfl⟩:=q0f.mp hr
   have key:∀u∈F++L,In ((F++L).map v) (v (z2U k h u)):=fun u hu=>by
     refine (((In.one (q0z (f:=v) hu)).mul (v h k)).add ((In.one hin).mul (-(v u k)))).cast fun j=>?_
     rw[z4l (hm u hu)];grind
   rcases q0s.mp ht with ht|ht
   ·rcases inF t ht with⟨u,hu,rfl⟩|rfl
    ·exact key u (q0C _ hu)
    ·exact In.one hin
   ·obtain⟨u,hu,rfl⟩:=q0f.mp ht
    exact key u (q0I _ hu)
  ·obtain⟨u,hu,rfl⟩:=q0f.mp hr
   have h1:v h∈((F.map (z2U k h)++[h])++L.map (z2U k h)).map v:=q0z (by simp)
   have h2:v (z2U k h u)∈((F.map (z2U k h)++[h])++L.map (z2U k h)).map v:=q0z (by
     rcases q0s.mp hu with hu|hu
     ·exact q0C _ (q0C _ (q0z hu))
     ·exact q0I _ (q0z hu))
   refine In.div hk (((In.one h2).add ((In.one h1).mul (v u k))).cast fun j=>?_)
   rw[z4l (hm u hu)];grind
def z2p (k:Nat) (s:List (List Int)×List (List Int)):List (List Int)×List (List Int):=match s.2.filter fun t=>v t k != 0 with
 |[]=>s
 |h::_=>(s.1.map (z2U k h)++[h],s.2.map (z2U k h))
def z1E (rows:List (List Int)):Nat→List (List Int)×List (List Int)
 |0=>([],rows)
 |k+1=>z2p k (z1E rows k)
theorem z4c {m:Nat}{rows:List (List Int)} (hr:∀t∈rows,t.length=m+1):∀k,k≤m→RdI m k rows (z1E rows k).1 (z1E rows k).2
 |0,_=>RdI.start hr
 |k+1,hk=>by
  have ih:=z4c hr k (by lia)
  show RdI m (k+1) rows (z2p k (z1E rows k)).1 (z2p k (z1E rows k)).2
  unfold z2p
  cases e:(z1E rows k).2.filter fun t=>v t k != 0 with
  |nil=>
   dsimp only
   refine ih.pass fun t ht=>q0w fun z=>?_
   have:t∈(z1E rows k).2.filter fun t=>v t k != 0:=q1a.mpr ⟨ht,by simpa using z⟩
   rw[e] at this
   cases this
  |cons h l=>
   dsimp only
   have hm:h∈(z1E rows k).2.filter fun t=>v t k != 0:=by rw[e];exact q0j
   obtain⟨h1,h2⟩:=q1a.mp hm
   exact ih.step (by lia) h1 (by simpa using h2)
theorem RdI.none {m:Nat}{rows F L:List (List Int)} (I:RdI m m rows F L) {t:List Int} (ht:t∈L) (hn:v t m≠0):∃z,In (rows.map v) z∧(∀j,j<m→z j=0)∧z m≠0:=
 ⟨v t,by rw[←I.sp];exact In.one (q0z (q0I _ ht)),(I.ll t ht).2,hn⟩
theorem RdI.rws {m:Nat}{rows F L:List (List Int)} (I:RdI m m rows F L) (h0:∀t∈L,v t m=0):Rws m (F.map z0l)∧In ((F.map z0l).map v)=In (rows.map v):=by
 have nz:∀t∈F,∃n∈t,n≠0:=fun t ht=>z6E (by have:=I.fl t ht;lia)
 refine⟨⟨fun t ht=>?_,?_,fun s hs t ht hne=>?_⟩,?_⟩
 ·obtain⟨u,hu,rfl⟩:=q0f.mp ht
  obtain⟨a,b⟩:=I.fl u hu
  exact⟨by rw[plain_len,a],by rw[z1Q (nz u hu)];exact b,z1J (nz u hu)⟩
 ·rw[q0Z]
  refine List.Pairwise.imp_of_mem (fun {a b} ha hb hab=>?_) I.up
  rw[z1Q (nz a ha),z1Q (nz b hb)];exact hab
 ·obtain⟨u,hu,rfl⟩:=q0f.mp hs
  obtain⟨w,hw,rfl⟩:=q0f.mp ht
  rw[z1Q (nz u hu),z1Q (nz w hw)] at hne
  rw[z1Q (nz w hw)]
  exact (z1F (nz u hu) _).mpr (I.off u hu w hw hne)
 ·rw[←I.sp]
  refine In.same (fun r hr=>?_) (fun r hr=>?_)
  ·rw[q0M] at hr
   obtain⟨u,hu,rfl⟩:=q0f.mp hr
   refine In.div (c:=byL u) (z2T (nz u hu)) ((In.one (q0z (f:=v) (q0C L hu))).cast fun j=>?_)
   show v u j=byL u*v (z0l u) j
   rw[←z1w (r:=u) j,q1p]
  ·obtain⟨u,hu,rfl⟩:=q0f.mp hr
   rcases q0s.mp hu with hu|hu
   ·refine ((In.one (A:=(F.map z0l).map v) (r:=v (z0l u)) (q0z (q0z hu))).mul (byL u)).cast fun j=>?_
    rw[q1p,z1w]
   ·obtain⟨ul,uz⟩:=I.ll u hu
    refine In.zero.cast fun j=>?_
    by_cases hj:j<m
    ·exact (uz j hj).symm
    by_cases hj2:j=m
    ·rw[hj2];exact (h0 u hu).symm
    ·refine q0w fun z=>?_
     have h':u.getD j 0≠0:=fun e=>z e.symm
     rw[q0a,q1o (by lia)] at h'
     exact h' rfl
end Rk
end L2
namespace L2
open PySem PySem.Spec PyProof.Rows
open Builtin.Int (intBits)
section
variable {X:Cx}
def CFw (i j:Int):Prop:=j≠0∧intBits i≤13000
theorem noPyW {i j:Int} (h:CFw i j):Builtin.divisionGoesByPylong i j=false:=by
 unfold Builtin.divisionGoesByPylong
 have h1:=intBits_le_iff.mp h.2
 simp only[Bool.and_eq_false_iff,decide_eq_false_iff_not]
 by_cases hi:i=0
 ·refine .inr ?_
  rw[if_pos (by simp[hi])]
  lia
 ·have hl:i.natAbs.log2<13000:=(Nat.log2_lt (by lia)).mpr h1
  by_cases hj:(if (j==0)=true then 0 else j.natAbs.log2/30+1)>300
  ·refine .inr ?_
   rw[if_neg (show ¬(i==0)=true by simpa using hi)]
   generalize (if (j==0)=true then 0 else j.natAbs.log2/30+1)=y at*
   lia
  ·exact .inl hj
theorem z4d:OpR X (binaryOp .FloorDiv) (rI CFw fun i j=> .int (i.fdiv j)):=opI fun _ _ _ _ _ _ _ hc q=>floordiv_int hc.1 q (.inl (noPyW hc))
end
end L2
namespace L2
open PySem PySem.Spec PyProof.Rows
theorem z9x {δ:Type}{J:It}{n:Nat}{Ok:Hp→Prop}{ps:List (V×V)} (ds:List δ) (hx:n=ds.length) (R:z6a J n Ok (fun i H x H'=>∃p u v,x= .ref p∧H p=none∧ps[i]? =some (u,v)∧H'=upd H p (.tup [u,v]))) {fr:List (Option Nat)}{g:TG}{tt:TT}{te:TE}{σ:St}{H1:Hp}{Q:VK}{D:Addr} (hD:H1 D=none) (pr:δ→V×V) (hpr:∀(i:Nat) c d,ps[i]? =some c→ds[i]? =some d→c=pr d) (tst:δ→Bool) (Rel:Hp→δ→V→Prop)
 (hrel:∀H H' d u,(∀b o,b≠D→H b=some o→H' b=some o)→(∃acc,H D=some (.lst acc))→Rel H d u→Rel H' d u)
 (hg:∀p u v σ H,H p=some (.tup [u,v])→∀S:St→Hp→Prop,S ((σ.set 0 (some u)).set 1 (some v)) H→g (.ref p) σ H S)
 (hok:∀H,Same H1 H→Ok H) (hn:n≤sizeLine)
 (ht:∀d∈ds,∀Hc,Same H1 Hc→∀S:Bool→Hp→Prop,(∀H',Same Hc H'→S (tst d) H')→tt (((z0G fr σ).set 0 (some (pr d).1)).set 1 (some (pr d).2)) Hc S)
 (hv:∀d∈ds,tst d=true→∀Hc,Same H1 Hc→(∃acc,Hc D=some (.lst acc))→∀S:VK,(∀u H',Same Hc H'→Rel H' d u→S u H')→te (((z0G fr σ).set 0 (some (pr d).1)).set 1 (some (pr d).2)) Hc S)
 (q:∀us H',Same H1 H'→H' D=some (.lst us)→Each (Rel H') (ds.filter tst) us→Q (.ref D) H'):
 z3U J g tt te Q D (z0G fr σ) (upd H1 D (.lst [])):=by
 subst hx
 refine z4H R (fun i acc σ' H'=>((∃o1 o2,σ'=((z0G fr σ).set 0 o1).set 1 o2)∨σ'=z0G fr σ)∧Same H1 H'∧H' D=some (.lst acc)∧Each (Rel H') ((ds.take i).filter tst) acc) ⟨.inr rfl,z0f hD _,z0c,.nil⟩ ?_ hn ?_ ?_
 ·rintro i acc σ' H' hi ⟨_,hs,_,he⟩
  refine⟨hok _ hs,?_⟩
  rw[←he.length]
  refine q0o (q1I _ _) ?_
  rw[q0n];lia
 ·rintro N i x acc σ' H' H'' hi ⟨hσ,hs,hd,he⟩ ⟨p,u,v,rfl,hp,hps,rfl⟩ n1 n2
  have hdi:ds[i]? =some ds[i]:=q0c hi
  have hm:ds[i]∈ds:=q0y hi
  generalize ds[i]=d at hdi hm
  have ec:=hpr i _ d hps hdi
  have gp:=z0f hp (.tup [u,v])
  have es:(σ'.set 0 (some u)).set 1 (some v)=((z0G fr σ).set 0 (some (pr d).1)).set 1 (some (pr d).2):=by
   rw[←ec]
   rcases hσ with⟨o1,o2,rfl⟩|rfl
   ·rw[z6p]
   ·rfl
  refine hg p u v _ _ z0c _ ?_
  rw[es]
  have tk:ds.take (i+1)=ds.take i++[d]:=by rw[q0Q,hdi];rfl
  have hs2:=hs.trans gp
  have hd2:=gp _ _ hd
  have he2:Each (Rel (upd H' p (.tup [u,v]))) ((ds.take i).filter tst) acc:=he.imp fun a b h=>hrel _ _ _ _ (fun c o _ e=>gp _ _ e) ⟨_,hd⟩ h
  generalize upd H' p (.tup [u,v])=H2 at*
  refine ht d hm _ hs2 _ fun H3 g3=>?_
  have hs3:=hs2.trans g3
  have hd3:=g3 _ _ hd2
  have he3:Each (Rel H3) ((ds.take i).filter tst) acc:=he2.imp fun a b h=>hrel _ _ _ _ (fun c o _ e=>g3 _ _ e) ⟨_,hd2⟩ h
  cases hb:tst d with
  |true=>
   refine z7x ?_
   refine hv d hm hb _ hs3 ⟨_,hd3⟩ _ fun u' H4 g4 hr=>?_
   have hd4:=g4 _ _ hd3
   refine n1 _ _ _ hd4 ⟨.inl ⟨_,_,rfl⟩,fun c o e=>?_,z0c,?_⟩
   ·rw[z0m (z0i e hD)];exact g4 _ _ (hs3 _ _ e)
   ·have up:∀a b,Rel H4 a b→Rel (upd H4 D (.lst (acc++[u']))) a b:=fun a b h=>hrel _ _ _ _ (fun c o hc e=>by rw[z0m hc];exact e) ⟨_,hd4⟩ h
    rw[tk,q1c,q0O hb]
    exact ((he3.imp fun a b h=>up a b (hrel _ _ _ _ (fun c o _ e=>g4 _ _ e) ⟨_,hd3⟩ h)).snoc (up _ _ hr))
  |false=>
   refine z3r ?_
   refine n2 _ _ ⟨.inl ⟨_,_,rfl⟩,hs3,hd3,?_⟩
   rw[tk,q1c,q0U (by simp[hb])]
   simpa using he3
 ·rintro acc σ' H' ⟨_,hs,hd,he⟩
  rw[q0R] at he
  exact q acc H' hs hd he
end L2
namespace L2
open Fr Wl Pt Rk
namespace Ld
theorem y6i {ts:List (List Int)}{s:List Int}{i:Nat} (h:i<ts.length) (hl:s.length=ts.length):(bdL ts s)[i]? =some (z0I (v s i) (ts[i])):=by
 unfold bdL
 rw[List.getElem?_zipWith,q0c h,q0c (by lia)]
 have e:v s i=s[i]'(by lia):=by
  show s.getD i 0=_
  rw[q0a,q0c (by lia)];rfl
 show some (z0I (s[i]'(by lia)) ts[i])=_
 rw[e]
theorem z5b {ts:List (List Int)}{s:List Int} (hl:s.length=ts.length) {b:List Int}:b∈bdL ts s↔∃i,∃h:i<ts.length,b=z0I (v s i) ts[i]:=by
 constructor
 ·intro hb
  obtain⟨i,hi⟩:=List.mem_iff_getElem?.mp hb
  have hlt:i<ts.length:=by
   have:=(q0E.mp hi).1
   unfold bdL at this
   rw[q1D] at this;lia
  rw[y6i hlt hl] at hi
  exact⟨i,hlt,(Option.some.inj hi).symm⟩
 ·rintro⟨i,h,rfl⟩
  exact q0u (y6i h hl)
theorem y3r {s:List Int} (h:Sgn s) {i:Nat} (hi:i<s.length):v s i=1∨v s i= -1:=by
 have:v s i=s[i]:=by
  show s.getD i 0=s[i]
  rw[q0a,q0c hi];rfl
 rw[this]
 exact h _ (q0y hi)
end Ld
end L2
namespace L2
open Fr Wl Pt Rk
namespace Ld
def sgn (n:Int):Int:=if 0<n then 1 else -1
theorem z4p {n:Int} (h:n≠0):0<sgn n*n:=by
 unfold sgn
 split<;>lia
theorem z6o (n:Int):sgn n=1∨sgn n= -1:=by unfold sgn;split<;>simp
theorem z4a {s n:Int} (hs:s=1∨s= -1) (h:0<s*n):n≠0∧s=sgn n:=by
 unfold sgn
 rcases hs with rfl|rfl
 ·exact⟨by lia,by rw[if_pos (by lia)]⟩
 ·exact⟨by lia,by rw[if_neg (by lia)]⟩
def Off (m:Nat) (ts:List (List Int)) (x:List Int):Prop:=Spt m x∧∀t∈ts,hg m (v t) (v x)≠0
def sgs (m:Nat) (ts:List (List Int)) (x:List Int):List Int:=ts.map fun t=>sgn (hg m (v t) (v x))
theorem y4h {m:Nat}{ts:List (List Int)}{x:List Int}{i:Nat} (h:i<ts.length):v (sgs m ts x) i=sgn (hg m (v ts[i]) (v x)):=by
 show (sgs m ts x).getD i 0=_
 unfold sgs
 rw[q0a,q0k,q0c h];rfl
theorem mem_pt {m:Nat}{ts:List (List Int)}{s:List Int}:s∈sgN m ts ts.length↔∃x,Off m ts x∧s=sgs m ts x:=by
 rw[z2Z (q0e _),q0R]
 constructor
 ·rintro⟨h1,h2,x,hx,hw⟩
  have key:∀i (h:i<ts.length),hg m (v ts[i]) (v x)≠0∧v s i=sgn (hg m (v ts[i]) (v x)):=fun i h=>by
   have:=hw _ ((z5b h1).mpr ⟨i,h,rfl⟩)
   rw[z1s] at this
   exact z4a (y3r h2 (by lia)) this
  refine⟨x,⟨hx,fun t ht=>?_⟩,y4a (by unfold sgs;rw[List.length_map,h1]) fun j=>?_⟩
  ·obtain⟨i,hi,rfl⟩:=q0v.mp ht
   exact (key i hi).1
  ·by_cases hj:j<ts.length
   ·rw[y4h hj];exact (key j hj).2
   ·rw[y1W (by lia),y1W (by unfold sgs;rw[List.length_map];lia)]
 ·rintro⟨x,⟨hx,ho⟩,rfl⟩
  have hl:(sgs m ts x).length =ts.length:=by unfold sgs;rw[List.length_map]
  refine⟨hl,fun y hy=>?_,x,hx,fun b hb=>?_⟩
  ·obtain⟨t,_,rfl⟩:=q0f.mp hy
   exact z6o _
  ·obtain⟨i,h,rfl⟩:=(z5b hl).mp hb
   rw[z1s,y4h h]
   exact z4p (ho _ (q0y h))
open Classical in
theorem z8S (w:Nat) (ts:List (List Int)) (t s:List Int):(z1h w ts t s).Nodup :=by
 unfold z1h
 refine List.Pairwise.filter _ ?_
 simp
open Classical in
theorem z4e {w:Nat}{ts:List (List Int)}{t s s':List Int} (h:s'∈z1h w ts t s):∃x,s'=s++[x]:=by
 unfold z1h at h
 have:=(q1a.mp h).1
 simp only[q0l,q1k,or_false] at this
 rcases this with rfl|rfl
 ·exact⟨_,rfl⟩
 ·exact⟨_,rfl⟩
theorem z3e (w:Nat) (ts:List (List Int)):∀i,(sgN w ts i).Nodup
 |0=>by show ([[]]:List (List Int)).Nodup;simp
 |i+1=>by
  rw[sgN]
  have ih:=z3e w ts i
  generalize sgN w ts i=L at*
  induction L with
  |nil=>simp
  |cons s L ih2=>
   obtain⟨h1,h2⟩:=List.nodup_cons.mp ih
   rw[List.flatMap_cons]
   refine q1A.mpr ⟨z8S _ _ _ _,ih2 h2,fun a ha b hb e=>?_⟩
   obtain⟨s2,hs2,hb2⟩:=List.mem_flatMap.mp hb
   obtain⟨x,rfl⟩:=z4e ha
   obtain⟨y,rfl⟩:=z4e hb2
   have:=(List.append_inj' e rfl).1
   exact h1 (this▸hs2)
def y3W (w:Nat) (ts:List (List Int)) (t s:List Int):Prop:=z6W w (ts++[t]) (s++[-1])∧z6W w (ts++[t]) (s++[1])
open Classical in
theorem z8T {w:Nat}{ts:List (List Int)}{t s:List Int} (h:∃x,(x=1∨x= -1)∧z6W w (ts++[t]) (s++[x])):(z1h w ts t s).length =1+if y3W w ts t s then 1 else 0:=by
 unfold z1h y3W
 by_cases h1:z6W w (ts++[t]) (s++[-1])
 ·by_cases h2:z6W w (ts++[t]) (s++[1])
  ·rw[q0O (by simpa using h1),q0O (by simpa using h2),if_pos ⟨h1,h2⟩];rfl
  ·rw[q0O (by simpa using h1),q0U (by simpa using h2),if_neg (fun z=>h2 z.2)];rfl
 ·by_cases h2:z6W w (ts++[t]) (s++[1])
  ·rw[q0U (by simpa using h1),q0O (by simpa using h2),if_neg (fun z=>h1 z.1)];rfl
  ·obtain⟨x,hx,hr⟩:=h
   rcases hx with rfl|rfl
   ·exact absurd hr h2
   ·exact absurd hr h1
open Classical in
theorem z5j {w:Nat}{ts:List (List Int)}{t:List Int}:∀(L:List (List Int)),(∀s∈L,∃x,(x=1∨x= -1)∧z6W w (ts++[t]) (s++[x]))→(L.flatMap (z1h w ts t)).length =L.length+(L.filter fun s=>decide (y3W w ts t s)).length
 |[],_=>rfl
 |s::L,h=>by
  rw[List.flatMap_cons,q0m,z8T (h s q0j),z5j L fun s' hs'=>h s' (q0i _ hs'),q0J]
  by_cases hb:y3W w ts t s
  ·rw[if_pos hb,q0O (by simpa using hb),q0J];lia
  ·rw[if_neg hb,q0U (by simpa using hb)];lia
theorem y0L {X Y:List (List Int)} (hX:X.Nodup) (hY:Y.Nodup) (R:List Int→List Int→Prop) (h1:∀x∈X,∃y∈Y,R x y) (h2:∀y∈Y,∃x∈X,R x y) (i1:∀x x' y,R x y→R x' y→x=x') (i2:∀x y y',R x y→R x y'→y=y'):X.length=Y.length:=by
 have hf:∀x:List Int,∃y:List Int,x∈X→y∈Y∧R x y:=fun x=>by
  by_cases h:x∈X
  ·obtain⟨y,hy,r⟩:=h1 x h
   exact⟨y,fun _=>⟨hy,r⟩⟩
  ·exact⟨[],fun z=>absurd z h⟩
 obtain⟨f,hf⟩:=Classical.axiomOfChoice hf
 have hp:(X.map f).Perm Y:=by
  refine (List.perm_ext_iff_of_nodup ?_ hY).mpr fun y=>?_
  ·refine q0Z.mpr (hX.imp_of_mem fun {a b} ha hb hab e=>hab ?_)
   exact i1 a b (f a) (hf a ha).2 (e▸(hf b hb).2)
  ·rw[q0f]
   constructor
   ·rintro⟨x,hx,rfl⟩
    exact (hf x hx).1
   ·intro hy
    obtain⟨x,hx,r⟩:=h2 y hy
    exact⟨x,hx,i2 x _ _ (hf x hx).2 r⟩
 have:=hp.length_eq
 rwa[q0b] at this
end Ld
end L2
namespace L2
open Fr Wl Pt Rk
namespace Ld
theorem z7i {b x y:Int} (hb:b≠0) (hx:x≠0) (hy:y≠0):sgn (b*x)=sgn (b*y)↔sgn x=sgn y:=by
 have key:∀z:Int,z≠0→sgn (b*z)=sgn b*sgn z:=fun z hz=>by
  have h1:=z4p hb
  have h2:=z4p hz
  refine ((z4a (s:=sgn b*sgn z) ?_ ?_).2).symm
  ·rcases z6o b with h|h<;>rcases z6o z with h'|h'<;>rw[h,h']<;>simp
  ·have:=q1E h1 h2
   have e:sgn b*sgn z*(b*z)=sgn b*b*(sgn z*z):=by grind
   rw[e];exact this
 rw[key x hx,key y hy]
 constructor
 ·intro h
  rcases z6o b with e|e<;>rw[e] at h<;>lia
 ·intro h;rw[h]
theorem y4T {m:Nat}{b:List Int} (hz:∀j,j<m→v b j=0) (s:Nat→Int):hg m (v b) s= -(v b m*s m):=by
 unfold hg
 rw[sumTo_congr m (g:=fun _=>0) fun j hj=>by rw[hz j hj,q1P]]
 have:∀n,sumTo n (fun _=>0)=0:=fun n=>by
  induction n with
  |zero=>rfl
  |succ n ih=>rw[sumTo,ih];rfl
 rw[this];lia
theorem z4f {m:Nat}{r:List Int}{s:Nat→Int}:hg m (v r) s=byL r*hg m (v (z0l r)) s:=by
 rw[←y1e]
 exact z0X (fun j _=>by rw[←z1w (r:=r) j,q1p]) fun _ _=>rfl
theorem y1I {m:Nat}{A:List (List Int)}{t s:List Int} (ht:WL m t) (hl:A.length=s.length):y3W m A t s↔∃x,Win m (bdL A s) x∧hg m (v t) (v x)=0:=by
 unfold y3W z6W
 rw[z3c hl,z3c hl]
 constructor
 ·rintro⟨⟨x,hx,hw⟩,⟨y,hy,hw'⟩⟩
  have h1:=hw (z0I (-1) t) (by simp)
  have h2:=hw' (z0I 1 t) (by simp)
  rw[z1s] at h1 h2
  exact y6d (b:=t) ⟨hx,fun c hc=>hw c (q0C _ hc)⟩ (by lia) ⟨hy,fun c hc=>hw' c (q0C _ hc)⟩ (by lia)
 ·rintro⟨x,hx,h0⟩
  have tp:=ht.pos
  exact⟨⟨_,z5s (b:=z0I (-1) t) (p:=Rk.fp t) (sg:= -1) hx ht.fp (.inr rfl) (by rw[z1s,h0];rfl) (by rw[z2r];lia)⟩,⟨_,z5s (b:=z0I 1 t) (p:=Rk.fp t) (sg:=1) hx ht.fp (.inl rfl) (by rw[z1s,h0];rfl) (by rw[z2r];lia)⟩⟩
def z9a (m:Nat) (t:List Int) (A:List (List Int)) (y:List Int):List Int:=A.map fun u=>sgn (hg m (v (drR t u)) (v y))
def OffR (m:Nat) (t:List Int) (A:List (List Int)) (y:List Int):Prop:=Spt m y∧∀u∈A,hg m (v (drR t u)) (v y)≠0
theorem z8m {m:Nat}{t:List Int}{A:List (List Int)}{s:List Int} (ht:WL (m+1) t) (hA:∀u∈A,WL (m+1) u):(s∈sgN (m+1) A A.length∧y3W (m+1) A t s)↔∃y,OffR m t A y∧s=z9a m t A y:=by
 have hp:Rk.fp t≤m:=by have:=ht.fp;lia
 have tpos:=ht.pos
 constructor
 ·rintro⟨hs,hb⟩
  obtain⟨h1,h2,_⟩:=(z2Z (q0e _)).mp hs
  obtain⟨x,hx,h0⟩:=(y1I ht h1.symm).mp hb
  have hy:=z8G hp ht.len tpos (fun b hb=>by
   obtain⟨i,h,rfl⟩:=(z5b h1).mp hb
   rw[z3Y];exact (hA _ (q0y h)).len) hx h0
  have key:∀i (h:i<A.length),hg m (v (drR t A[i])) (v (x.eraseIdx (Rk.fp t)))≠0∧v s i=sgn (hg m (v (drR t A[i])) (v (x.eraseIdx (Rk.fp t)))):=fun i h=>by
   have e:=z5N (s:=v x) hp ht.len (hA _ (q0y h)).len ht.nz
   rw[h0,q0T,q1q] at e
   have e2:hg m (v (drR t A[i])) (v (x.eraseIdx (Rk.fp t)))=z3O A[i] t*hg (m+1) (v A[i]) (v x):=by
        rw[←e];exact z0X (fun _ _=>rfl) fun j _=>z3s _ _ _
   have hw:=hx.2 _ ((z5b h1).mpr ⟨i,h,rfl⟩)
   rw[z1s] at hw
   refine z4a (y3r h2 (by lia)) ?_
   rw[e2]
   have:=q1E (z5C (u:=A[i]) tpos) hw
   have e3:v s i*(z3O A[i] t*hg (m+1) (v A[i]) (v x))=z3O A[i] t*(v s i*hg (m+1) (v A[i]) (v x)):=by grind
   rw[e3];exact this
  refine⟨x.eraseIdx (Rk.fp t),⟨hy.1,fun u hu=>?_⟩,y4a (by unfold z9a;rw[List.length_map,h1]) fun j=>?_⟩
  ·obtain⟨i,hi,rfl⟩:=q0v.mp hu
   exact (key i hi).1
  ·by_cases hj:j<A.length
   ·rw[(key j hj).2]
    show _=(z9a m t A (x.eraseIdx (Rk.fp t))).getD j 0
    unfold z9a
    rw[q0a,q0k,q0c hj];rfl
   ·rw[y1W (by lia),y1W (by unfold z9a;rw[List.length_map];lia)]
 ·rintro⟨y,⟨hy,ho⟩,rfl⟩
  have hw0:Win (m+1) [] (upL (m+1) t y):=z9H hp ht.len tpos (fun u hu=>by cases hu) ⟨hy,fun b hb=>by cases hb⟩
  have h0:=y4b (t:=t) hy.1 hp
  have key:∀u∈A,hg (m+1) (v u) (v (upL (m+1) t y))≠0∧sgn (hg m (v (drR t u)) (v y))=sgn (hg (m+1) (v u) (v (upL (m+1) t y))):=fun u hu=>by
   have e:=z5N (s:=v (upL (m+1) t y)) hp ht.len (hA u hu).len ht.nz
   rw[h0,q0T,q1q] at e
   have e2:hg m (v (drR t u)) (fun j=>v (upL (m+1) t y) (skp (Rk.fp t) j))=v t (Rk.fp t)*hg m (v (drR t u)) (v y):=by
        rw[←z8y]
        exact z0X (fun _ _=>rfl) fun j _=>z6e hy.1 hp
   rw[e2] at e
   have s1:=z4p (ho u hu)
   have h3:=q1E tpos s1
   have e3:v t (Rk.fp t)*(sgn (hg m (v (drR t u)) (v y))*hg m (v (drR t u)) (v y))=z3O u t*(sgn (hg m (v (drR t u)) (v y))*hg (m+1) (v u) (v (upL (m+1) t y))):=by
        have:sgn (hg m (v (drR t u)) (v y))*(v t (Rk.fp t)*hg m (v (drR t u)) (v y))=sgn (hg m (v (drR t u)) (v y))*(z3O u t*hg (m+1) (v u) (v (upL (m+1) t y))):=by rw[e]
        grind
   rw[e3] at h3
   exact z4a (z6o _) (z2M (z5C (u:=u) tpos) rfl h3)
  have es:z9a m t A y=sgs (m+1) A (upL (m+1) t y):=q1l fun u hu=>(key u hu).2
  have hoff:Off (m+1) A (upL (m+1) t y):=⟨hw0.1,fun u hu=>(key u hu).1⟩
  have hl:(z9a m t A y).length =A.length:=by unfold z9a;rw[List.length_map]
  refine⟨mem_pt.mpr ⟨_,hoff,es⟩,(y1I ht hl.symm).mpr ⟨_,⟨hw0.1,fun b hb=>?_⟩,h0⟩⟩
  obtain⟨i,h,rfl⟩:=(z5b hl).mp hb
  rw[z1s,es,y4h h]
  exact z4p (hoff.2 _ (q0y h))
theorem mem_wd {F:List Int→Option (List Int)}{A:List (List Int)}{d:List Int}:d∈wd F A↔∃u∈A,F u=some d:=by
 unfold wd
 rw[y1v]
 constructor
 ·rintro (h|h)
  ·cases h
  ·exact List.mem_filterMap.mp h
 ·exact fun h=> .inr (List.mem_filterMap.mpr h)
theorem z5l {m:Nat}{t u:List Int} (ht:WL (m+1) t) (hu:WL (m+1) u) (hne:u≠t):(∃d,drF t u=some d∧∃c:Int,c≠0∧∀s:Nat→Int,hg m (v (drR t u)) s=c*hg m (v d) s)∨(∃c:Int,c≠0∧∀s:Nat→Int,hg m (v (drR t u)) s=c*s m):=by
 have hul:u.length=t.length:=by rw[hu.len,ht.len]
 have hl:(drR t u).length =m+1:=by have:=z2z hul ht.nz;have:=ht.len;lia
 by_cases hc:(drR t u).dropLast.any (· != 0)=true
 ·obtain⟨j,hj,hjn⟩:=(z1t hl).mp hc
  exact .inl ⟨_,by unfold drF;rw[if_pos hc],byL (drR t u),z2T ⟨_,(z6d hjn).2,hjn⟩,fun s=>z4f⟩
 ·have z0:∀c,c<m→v (drR t u) c=0:=fun c hcm=>q0w fun z=>hc ((z1t hl).mpr ⟨c,hcm,z⟩)
  exact .inr ⟨-(v (drR t u) m),by have:=y0F ht hu hne z0;lia,fun s=>by rw[y4T z0];grind⟩
open Classical in
theorem z9r {m:Nat}{t:List Int}{A:List (List Int)} (ht:WL (m+1) t) (hA:∀u∈A,WL (m+1) u∧u≠t):((sgN (m+1) A A.length).filter fun s=>decide (y3W (m+1) A t s)).length =(sgN m (wd (drF t) A) (wd (drF t) A).length).length :=by
 have hA':∀u∈A,WL (m+1) u:=fun u hu=>(hA u hu).1
 have off:∀y,OffR m t A y↔Off m (wd (drF t) A) y:=fun y=>by
  constructor
  ·rintro⟨h1,h2⟩
   refine⟨h1,fun d hd=>?_⟩
   obtain⟨u,hu,e⟩:=mem_wd.mp hd
   have:=h2 u hu
   obtain⟨c,rfl⟩:=z8F e
   rw[z4f] at this
   exact fun z=>this (by rw[z,q0T])
  ·rintro⟨h1,h2⟩
   refine⟨h1,fun u hu=>?_⟩
   rcases z5l ht (hA u hu).1 (hA u hu).2 with⟨d,e,c,c0,hc⟩|⟨c,c0,hc⟩
   ·rw[hc];exact q1g c0 (h2 d (mem_wd.mpr ⟨u,hu,e⟩))
   ·rw[hc];exact q1g c0 (by have:=h1.2;lia)
 have same:∀y y',Off m (wd (drF t) A) y→Off m (wd (drF t) A) y'→(z9a m t A y=z9a m t A y'↔sgs m (wd (drF t) A) y=sgs m (wd (drF t) A) y'):=fun y y' h h'=>by
  unfold z9a sgs
  rw[List.map_inj_left,List.map_inj_left]
  constructor
  ·intro hr d hd
   obtain⟨u,hu,e⟩:=mem_wd.mp hd
   have:=hr u hu
   obtain⟨hc,rfl⟩:=z8F e
   have hul:u.length=t.length:=by rw[(hA' u hu).len,ht.len]
   have hl:(drR t u).length =m+1:=by have:=z2z hul ht.nz;have:=ht.len;lia
   obtain⟨j,hj,hjn⟩:=(z1t hl).mp hc
   rw[z4f,z4f (r:=drR t u) (s:=v y')] at this
   exact (z7i (z2T ⟨_,(z6d hjn).2,hjn⟩) (h.2 _ hd) (h'.2 _ hd)).mp this
  ·intro hr u hu
   rcases z5l ht (hA u hu).1 (hA u hu).2 with⟨d,e,c,c0,hc⟩|⟨c,c0,hc⟩
   ·have hd:=mem_wd.mpr ⟨u,hu,e⟩
    rw[hc,hc]
    exact (z7i c0 (h.2 d hd) (h'.2 d hd)).mpr (hr d hd)
   ·rw[hc,hc]
    refine (z7i c0 (by have:=h.1.2;lia) (by have:=h'.1.2;lia)).mpr ?_
    unfold sgn
    rw[if_pos h.1.2,if_pos h'.1.2]
 refine y0L (List.Pairwise.filter _ (z3e _ _ _)) (z3e _ _ _) (fun s s'=>∃y,Off m (wd (drF t) A) y∧s=z9a m t A y∧s'=sgs m (wd (drF t) A) y) ?_ ?_ ?_ ?_
 ·intro s hs
  obtain⟨h1,h2⟩:=q1a.mp hs
  obtain⟨y,hy,rfl⟩:=(z8m ht hA').mp ⟨h1,of_decide_eq_true h2⟩
  exact⟨_,mem_pt.mpr ⟨y,(off y).mp hy,rfl⟩,y,(off y).mp hy,rfl,rfl⟩
 ·intro s' hs'
  obtain⟨y,hy,rfl⟩:=mem_pt.mp hs'
  obtain⟨h1,h2⟩:=(z8m (s:=z9a m t A y) ht hA').mpr ⟨y,(off y).mpr hy,rfl⟩
  exact⟨_,q1a.mpr ⟨h1,decide_eq_true h2⟩,y,hy,rfl,rfl⟩
 ·rintro s s2 s' ⟨y,hy,rfl,rfl⟩ ⟨y',hy',rfl,e⟩
  exact (same y y' hy hy').mpr e
 ·rintro s s' s2 ⟨y,hy,rfl,rfl⟩ ⟨y',hy',e,rfl⟩
  exact (same y y' hy hy').mp e
theorem z9Y (w:Nat) (A B:List (List Int)):∀i,i≤A.length→sgN w (A++B) i=sgN w A i
 |0,_=>rfl
 |i+1,h=>by
  rw[sgN,sgN,z9Y w A B i (by lia),List.take_append_of_le_length (by lia)]
  have e:(A++B).getD i []=A.getD i []:=by rw[q0a,q0a,q0N (by lia)]
  rw[e]
theorem z5d {m:Nat}{t:List Int}{A:List (List Int)} (ht:WL (m+1) t) (hA:∀u∈A,WL (m+1) u∧u≠t):(sgN (m+1) (A++[t]) (A++[t]).length).length =(sgN (m+1) A A.length).length +(sgN m (wd (drF t) A) (wd (drF t) A).length).length :=by
 rw[←z9r ht hA,q0m,q1m,sgN,z9Y _ _ _ _ (q0e _),List.take_append_of_le_length (q0e _),q0R]
 have e:(A++[t]).getD A.length []=t:=by rw[q0a,q0D (q0e _),q1G];rfl
 rw[e]
 exact z5j _ fun s hs=>by
  obtain⟨h1,_,h3⟩:=(z2Z (q0e _)).mp hs
  rw[q0R] at h3
  exact y0j h1.symm ht.len ht.fp h3
def alt (m:Nat) (f:Nat→Int):Int:=sumTo (m+1) fun k=>(-1)^(m+k)*f k
theorem y4X {m:Nat}{f g:Nat→Int} (hg0:g (m+1)=0):alt (m+1) (fun k=>f k - g k)=alt (m+1) f+alt m g:=by
 have e1:alt (m+1) (fun k=>f k - g k)=sumTo (m+2) (fun k=>1*((-1)^(m+1+k)*f k)+(-1)*((-1)^(m+1+k)*g k)):=sumTo_congr _ fun k _=>by dsimp only;grind
 rw[e1,z2s]
 have e2:sumTo (m+2) (fun k=>(-1)^(m+1+k)*g k)= -1*alt m g:=by
  rw[sumTo,hg0,q0T,q1q]
  unfold alt
  have h3:sumTo (m+1) (fun k=>(-1)^(m+1+k)*g k)=sumTo (m+1) (fun k=>(-1)*((-1)^(m+k)*g k)+0*((-1)^(m+k)*g k)):=sumTo_congr _ fun k _=>by
   rw[show m+1+k=m+k+1 by lia,Int.pow_succ]
   grind
  rw[h3,z2s,q1P,q1q]
 rw[e2]
 show 1*alt (m+1) f+_=_
 grind
theorem z7q {m k:Nat} (h:m<k):∀(ws L:List (List Int)),pS m L ws k=0
 |[],L=>by
  rw[pS]
  unfold gS
  split
  ·rfl
  ·rw[if_neg (by lia)]
 |u::ws,L=>by rw[pS,z7q h ws,z7q h ws];rfl
theorem y3f (m:Nat):alt m (pS m [] [])=1:=by
 have e:∀k,pS m [] [] k=if k=m then 1 else 0:=fun k=>by
  rw[pS,(Rws.nil (m:=m)).gS]
  show (if 0+k=m then (1:Int) else 0)=_
  rw[Nat.zero_add]
 unfold alt
 rw[sumTo,sumTo_congr m (g:=fun _=>0) fun k hk=>by rw[e,if_neg (by lia),q0T]]
 have:∀n,sumTo n (fun _=>0)=0:=fun n=>by
  induction n with
  |zero=>rfl
  |succ n ih=>rw[sumTo,ih];rfl
 rw[this,e,if_pos rfl,Int.zero_add,Int.mul_one,←Nat.two_mul,Int.pow_mul]
 show ((-1:Int)^2)^m=1
 rw[show ((-1:Int)^2)=1 by decide,Int.one_pow]
theorem z3b:∀(n m:Nat) (ts:List (List Int)),ts.length=n→(∀t∈ts,WL m t)→ts.Nodup→(((sgN m ts ts.length).length :Nat):Int)=alt m (pS m [] ts)
 |0,m,ts,hn,_,_=>by
  rw[q1j.mp hn,y3f]
  rfl
 |n+1,m,ts,hn,hw,nd=>by
  obtain⟨A,t,rfl⟩:=z4o (ts:=ts) (fun z=>by rw[z] at hn;simp at hn)
  have ht:=hw t (by simp)
  obtain⟨m,rfl⟩:∃k,m=k+1:=⟨m - 1,by have:=ht.fp;lia⟩
  have hAn:A.length=n:=by simpa using hn
  have nd':=q1A.mp nd
  have hA:∀u∈A,WL (m+1) u∧u≠t:=fun u hu=>⟨hw u (q0C _ hu),fun e=>nd'.2.2 u hu t (by simp) e⟩
  have hout:=y3y (m:=m) (A:=A) (B:=[]) (t:=t) hw nd
  rw[z6Y ht,q1N] at hout
  have ef:pS (m+1) [] (A++[t])=fun k=>pS (m+1) [] A k - pS m [] (wd (drF t) A) k:=funext hout
  have hD:=y1T ht (fun u hu=>(hA u hu).1.len) (ts:=A)
  have hDn:(wd (drF t) A).Nodup :=by unfold wd;exact z3p _ _ (by simp)
  have hDl:=z9F (drF t) A
  rw[z5d ht hA,ef,y4X (z7q (by lia) _ _),Int.natCast_add,z3b n (m+1) A hAn (fun u hu=>(hA u hu).1) nd'.1]
  rw[z3b (wd (drF t) A).length m _ rfl hD hDn]
termination_by n _ ts=>n
decreasing_by
 all_goals first|lia|(simp_wf;lia)|simp_wf
end Ld
end L2
namespace L2
open Fr Wl Pt Rk
namespace Ld
end Ld
end L2
set_option maxHeartbeats 4000000
namespace L2
namespace Ld
open Rk Wl Pt Fr
theorem y1G:∀(n m:Nat) (ts:List (List Int)),ts.length≤n→(∀t∈ts,WL m t)→ts.Nodup→∀k,(bto n m ts).getD k 0=pS m [] ts k
 |n,m,ts,hl,hw,nd,k=>by
  by_cases he:ts=[]
  ·rw[he,z7G,pS,(Rws.nil (m:=m)).gS]
   show _=if 0+k=m then (1:Int) else 0
   rw[Nat.zero_add]
   by_cases h1:k<m
   ·rw[if_neg (by lia),q0a,q0N (by simpa using h1),List.getElem?_replicate,if_pos h1];rfl
   ·rw[q0a,q0D (by simpa using h1),q1H]
    by_cases h2:k=m
    ·rw[if_pos h2,h2,q1G];rfl
    ·rw[if_neg h2]
     obtain⟨i,hi⟩:∃i,k - m=i+1:=⟨k - m - 1,by lia⟩
     rw[hi];rfl
  obtain⟨A,t,rfl⟩:=z4o he
  have ht:=hw t (by simp)
  obtain⟨m,rfl⟩:∃k,m=k+1:=⟨m - 1,by have:=ht.fp;lia⟩
  rw[q0m,q1m] at hl
  obtain⟨n,rfl⟩:∃k,n=k+1:=⟨n - 1,by lia⟩
  have nd':=q1A.mp nd
  have hA:∀u∈A,WL (m+1) u:=fun u hu=>hw u (q0C _ hu)
  have hout:=y3y (m:=m) (A:=A) (B:=[]) (t:=t) hw nd k
  rw[q1N] at hout
  have hD:=y1T ht (fun u hu=>(hA u hu).len) (ts:=A)
  have hDn:(wd (drF t) A).Nodup :=by unfold wd;exact z3p _ _ (by simp)
  have hDl:=z9F (drF t) A
  have i1:=y1G n (m+1) A (by lia) hA nd'.1 k
  have i2:=y1G n m (wd (drF t) A) (by lia) hD hDn
  have l1:=z5W n (m+1) A hA
  have l2:=z5W n m (wd (drF t) A) hD
  rw[hout,z5V,←i1,z6Y ht,Nat.add_sub_cancel,←i2 k]
  generalize bto n (m+1) A=x at l1 ⊢
  generalize bto n m (wd (drF t) A)=y at l2 ⊢
  rw[q0a,q0a,q0a,List.getElem?_zipWith]
  by_cases h1:k<m+1
  ·rw[q0N (by lia),q0c (by lia:k<x.length),q0c (by lia:k<y.length)];rfl
  ·rw[q1o (by lia:y.length≤k),q0D (by lia)]
   by_cases h2:k=m+1
   ·rw[q0c (by lia:k<x.length),show k - y.length=0 by lia];rfl
   ·rw[q1o (by lia:x.length≤k)];rfl
termination_by n _ ts=>n
end Ld
end L2
set_option maxHeartbeats 1000000
namespace L2
open Fr Wl Pt Rk
namespace Ld
end Ld
end L2
namespace L2
open Fr Wl Pt Rk
namespace Ld
end Ld
end L2
namespace L2
open Fr Wl Pt Rk
namespace Ld
theorem z6I {m:Nat}:∀(l:List Nat) (k:Nat),l.Pairwise (· < ·)→(∀x∈l,k≤x∧x<m)→l.length≤m - k
 |[],_,_,_=>Nat.zero_le _
 |a::l,k,hp,h=>by
  obtain⟨h1,h2⟩:=List.pairwise_cons.mp hp
  have ih:=z6I l (a+1) h2 fun x hx=>⟨h1 x hx,(h x (q0i _ hx)).2⟩
  have:=h a q0j
  rw[q0J]
  lia
end Ld
end L2
set_option maxHeartbeats 4000000
namespace L2
open PySem PySem.Spec PyProof.Rows
namespace Srt
open PySem.SeqAt PySem.AutoSeq1 PySem.MeetsSeq PySem.MeetsSeq2 PySem.MeetsSeq3
def LtAt (A:Around) (s:Shared) (y x:Value) (b:Bool):Prop:=
 ∀(prog:Program) (w:World) (E:Value→Shared→Prop) (Q:Value→Shared→Prop),Q (.bool b) s→wpAny (model prog w) A (richCompare .Lt y x) Q E s
def lx (e t:Nat→Bool):List Nat→Bool→Bool
 |[],fin=>fin
 |i::is,fin=>if e i=true then lx e t is fin else t i
theorem y0N (l b:Addr) (items items2:Array Value) (n n2:Nat) (dd dd2:Option Addr) (sl sl2:Array (Option Value)) (e t:Nat→Bool) (k:Nat):
 ∀i:Nat,min items.size items2.size - i=k→Meets (Builtin.«list.__eq__.loop» ⟨[.ref l,.ref b,rawInt i,rawInt 0],[]⟩)
  (fun A R s=>s.heap.get? l=some {cls:= .type "list",dict:=dd,data:= .seq items n,slots:=sl}∧s.heap.get? b=some {cls:= .type "list",dict:=dd2,data:= .seq items2 n2,slots:=sl2}∧
   (∀j (h1:j<items.size) (h2:j<items2.size),EqAt A.in1 s items[j] items2[j] (e j))∧(∀j (h1:j<items.size) (h2:j<items2.size),e j=false→LtAt A.in1 s items[j] items2[j] (t j))∧
   R (.ok (.ret (.bool (lx e t ((List.range (min items.size items2.size)).drop i) (decide (items.size<items2.size)))))) s):=by
 induction k with
 |zero=>
  intro i hk prog w A R s h
  obtain⟨hp,g,d,tk,os⟩:=s;obtain⟨hl,hb,he,ht,h⟩:=h
  wp_walk using wpAny_loadPart' hl,wpAny_loadPart' hb
  have hd:(List.range (min items.size items2.size)).drop i=[]:=by simp;lia
  rw[hd] at h
  by_cases c:items.size≤i
  ·have hi1:items[((i:Nat):Int).toNat]? =none:=by simp;lia
   rw[hi1]
   wp_walk using wpAny_loadPart' hl,wpAny_loadPart' hb
   exact h
  ·have hi1:items[((i:Nat):Int).toNat]? =some items[i]:=by simp[show i<items.size by lia]
   have hi2:items2[((i:Nat):Int).toNat]? =none:=by simp;lia
   rw[hi1,hi2]
   wp_walk using wpAny_loadPart' hl,wpAny_loadPart' hb
   exact h
 |succ k ih=>
  intro i hk prog w A R s h
  obtain⟨hp,g,d,tk,os⟩:=s;obtain⟨hl,hb,he,ht,h⟩:=h
  wp_walk using wpAny_loadPart' hl,wpAny_loadPart' hb
  have hlt:i<items.size:=by lia
  have hlt2:i<items2.size:=by lia
  have hi1:items[((i:Nat):Int).toNat]? =some items[i]:=by simp[hlt]
  have hi2:items2[((i:Nat):Int).toNat]? =some items2[i]:=by simp[hlt2]
  have hd:(List.range (min items.size items2.size)).drop i=i::(List.range (min items.size items2.size)).drop (i+1):=by
   rw[q1t (by simp;lia)];simp
  have hc:((i:Int)+1)=((i+1:Nat):Int):=by push_cast;rfl
  rw[hd,lx] at h
  rw[hi1,hi2]
  refine wpAny_bind (he i hlt hlt2 prog w _ _ ?_)
  cases hb':e i with
  |true=>
   rw[hb',if_pos rfl] at h
   wp_walk
   rw[hc]
   exact⟨plainId_quiet plain_eq_loop _,codeAny_builtin entry_eq_loop (by
        rw[Around.under_plainId plain_eq_loop _]
        exact ih (i+1) (by lia) prog w A R _ ⟨hl,hb,he,ht,h⟩)⟩
  |false=>
   rw[hb',if_neg (by decide)] at h
   wp_walk using wpAny_loadPart' hl,wpAny_loadPart' hb
   rw[hi1,hi2]
   refine wpAny_bind (ht i hlt hlt2 hb' prog w _ _ ?_)
   wp_walk
   exact h
theorem y0Q (l b:Addr) (items items2:Array Value) (n n2:Nat) (dd dd2:Option Addr) (sl sl2:Array (Option Value)) (e t:Nat→Bool):
 Meets (Builtin.«list.__lt__» ⟨[.ref l,.ref b],[]⟩)
  (fun A R s=>s.heap.get? l=some {cls:= .type "list",dict:=dd,data:= .seq items n,slots:=sl}∧s.heap.get? b=some {cls:= .type "list",dict:=dd2,data:= .seq items2 n2,slots:=sl2}∧
        (∀j (h1:j<items.size) (h2:j<items2.size),EqAt A.in1 s items[j] items2[j] (e j))∧(∀j (h1:j<items.size) (h2:j<items2.size),e j=false→LtAt A.in1 s items[j] items2[j] (t j))∧
        R (.ok (.ret (.bool (lx e t (List.range (min items.size items2.size)) (decide (items.size<items2.size)))))) s):=by
 intro prog w A R s h
 obtain⟨hp,g,d,tk,os⟩:=s;obtain⟨hl,hb,he,ht,h⟩:=h
 have f3:=AutoSeq1.sub_list_list
 wp_walk using wpAny_loadPart' hl,wpAny_loadPart' hb
 exact⟨plainId_quiet plain_eq_loop _,codeAny_builtin entry_eq_loop (by
  rw[Around.under_plainId plain_eq_loop _]
  exact y0N l b items items2 n n2 dd dd2 sl sl2 e t _ 0 rfl prog w A R _ ⟨hl,hb,he,ht,by simpa using h⟩)⟩
theorem z8R (l b:Addr) (items items2:Array Value) (n n2:Nat) (dd dd2:Option Addr) (sl sl2:Array (Option Value)) (e t:Nat→Bool):
 Meets (Builtin.«tuple.__lt__» ⟨[.ref l,.ref b],[]⟩)
  (fun A R s=>s.heap.get? l=some {cls:= .type "tuple",dict:=dd,data:= .seq items n,slots:=sl}∧s.heap.get? b=some {cls:= .type "tuple",dict:=dd2,data:= .seq items2 n2,slots:=sl2}∧
        (∀j (h1:j<items.size) (h2:j<items2.size),EqAt A.in1 s items[j] items2[j] (e j))∧(∀j (h1:j<items.size) (h2:j<items2.size),e j=false→LtAt A.in1 s items[j] items2[j] (t j))∧
        R (.ok (.ret (.bool (lx e t (List.range (min items.size items2.size)) (decide (items.size<items2.size)))))) s):=
 .of_wp fun prog w A R s h=>by
  obtain⟨hp,g,d,tk,os⟩:=s;obtain⟨hl,hb,he,ht,h⟩:=h
  have f2:=AutoSeq1.sub_tuple_tuple
  have hZ:(items.toList.zip items2.toList).length =min items.size items2.size:=by simp
  wp_walk using wpAny_loadPart' hl,wpAny_loadPart' hb,wpAny_forIn_list _ (fun rest b s'=>b.1=none∧s'=⟨hp,g,d,tk,os⟩∧∃i,rest=(items.toList.zip items2.toList).drop i∧
   R (.ok (.ret (.bool (lx e t ((List.range (min items.size items2.size)).drop i) (decide (items.size<items2.size)))))) ⟨hp,g,d,tk,os⟩) _
  case turn=>
   rintro⟨y,x⟩ rest b s' ⟨hb',rfl,i,hz,hR⟩
   have hlt:i<(items.toList.zip items2.toList).length :=by
        rcases Nat.lt_or_ge i (items.toList.zip items2.toList).length with h'|h'
        ·exact h'
        ·rw[List.drop_of_length_le h'] at hz;cases hz
   have hm:i<min items.size items2.size:=hZ▸hlt
   have h1:i<items.size:=q0K hm (Nat.min_le_left _ _)
   have h2:i<items2.size:=q0K hm (Nat.min_le_right _ _)
   rw[q1t hlt] at hz
   injection hz with hyx hrest
   have hy:y=items[i]:=by have:=congrArg Prod.fst hyx;simpa using this
   have hx:x=items2[i]:=by have:=congrArg Prod.snd hyx;simpa using this
   subst hy hx
   have hd:(List.range (min items.size items2.size)).drop i=i::(List.range (min items.size items2.size)).drop (i+1):=by
        rw[q1t (by simp;lia)];simp
   rw[hd,lx] at hR
   refine wpAny_bind (he i h1 h2 prog w _ _ ?_)
   cases hy:e i with
   |true=>
    rw[hy,if_pos rfl] at hR
    wp_walk
    exact⟨rfl,rfl,i+1,hrest,hR⟩
   |false=>
    rw[hy,if_neg (by decide)] at hR
    refine wpAny_ite_split (fun _=>?_) (fun hn=>absurd rfl hn)
    refine wpAny_bind (wpAny_rule (wpAny_bind (ht i h1 h2 hy prog w _ _ ?_)))
    wp_walk
    exact⟨_,rfl,hR⟩
  case fin=>
   rintro⟨b1,b2⟩ s' ⟨hb',rfl,i,hz,hR⟩
   simp only at hb'
   subst hb'
   have hge:min items.size items2.size≤i:=by
        rcases Nat.lt_or_ge i (items.toList.zip items2.toList).length with h'|h'
        ·rw[q1t h'] at hz;cases hz
        ·exact hZ▸h'
   rw[List.drop_of_length_le (by simpa using hge),lx] at hR
   wp_walk
   exact⟨_,rfl,by simpa[Builtin.Tuple.tupleCompareSizes] using hR⟩
  case h=>
   exact⟨rfl,rfl,0,rfl,by simpa using h⟩
section
variable {A:Around}{s:Shared}
theorem LtAt.int (a:Int) (t:Tok) (b:Int) (u:Tok):LtAt A s (.int a t) (.int b u) (decide (a<b)):=fun prog w E Q h=>wpAny_lt_int h
theorem LtAt.tuples {l b:Addr}{items items2:Array Value}{e t:Nat→Bool} (hl:s.heap.IsTuple l items) (hb:s.heap.IsTuple b items2) (hu:A.units<cLine)
 (he:∀j (h1:j<items.size) (h2:j<items2.size),EqAt A.in1 s items[j] items2[j] (e j)) (ht:∀j (h1:j<items.size) (h2:j<items2.size),e j=false→LtAt A.in1 s items[j] items2[j] (t j)):
 LtAt A s (.ref l) (.ref b) (lx e t (List.range (min items.size items2.size)) (decide (items.size<items2.size))):=fun prog w E Q h=>by
 obtain⟨⟨cls,dd,data,sl⟩,ho,hc,n,hd⟩:=id hl
 obtain⟨⟨cls2,dd2,data2,sl2⟩,ho2,hc2,n2,hd2⟩:=id hb
 simp only at hc hd hc2 hd2
 subst hc hd hc2 hd2
 exact richCompare_meets_room (op:= .Lt) ⟨_,ho,rfl⟩ ⟨_,ho2,rfl⟩ F.slot_tuple_lt F.entry_tuple_lt (F.args_tuple_lt_2 _ _) (z8R l b items items2 n n2 dd dd2 sl sl2 e t)
  ⟨ho,ho2,he,ht,show Value.bool _≠Value.notImplemented∧Q (.bool _) s from⟨(fun x=>nomatch x),h⟩⟩ hu
theorem LtAt.lists {l b:Addr}{items items2:Array Value}{e t:Nat→Bool} (hl:s.heap.IsList l items) (hb:s.heap.IsList b items2) (hu:A.units<cLine)
 (he:∀j (h1:j<items.size) (h2:j<items2.size),EqAt A.in1 s items[j] items2[j] (e j)) (ht:∀j (h1:j<items.size) (h2:j<items2.size),e j=false→LtAt A.in1 s items[j] items2[j] (t j)):
 LtAt A s (.ref l) (.ref b) (lx e t (List.range (min items.size items2.size)) (decide (items.size<items2.size))):=fun prog w E Q h=>by
 obtain⟨⟨cls,dd,data,sl⟩,ho,hc,n,hd⟩:=id hl
 obtain⟨⟨cls2,dd2,data2,sl2⟩,ho2,hc2,n2,hd2⟩:=id hb
 simp only at hc hd hc2 hd2
 subst hc hd hc2 hd2
 exact richCompare_meets_room (op:= .Lt) ⟨_,ho,rfl⟩ ⟨_,ho2,rfl⟩ F.slot_list_lt F.entry_list_lt (F.args_list_lt_2 _ _) (y0Q l b items items2 n n2 dd dd2 sl sl2 e t)
  ⟨ho,ho2,he,ht,show Value.bool _≠Value.notImplemented∧Q (.bool _) s from⟨(fun x=>nomatch x),h⟩⟩ hu
end
end Srt
end L2
namespace L2
open PySem PySem.Spec PyProof.Rows
namespace Srt
open PySem.SeqAt
mutual
def ltb:Dt→Dt→Bool
 | .i n,.i m=>decide (n<m)
 | .t a,.t b=>lts a b
 | .l a,.l b=>lts a b
 |_,_=>false
def lts:List Dt→List Dt→Bool
 |[],[]=>false
 |[],_::_=>true
 |_::_,[]=>false
 |x::a,y::b=>if Dt.eqb x y=true then lts a b else ltb x y
end
theorem y3A (e t:Nat→Bool) (fin:Bool):∀is:List Nat,lx e t (is.map (· +1)) fin=lx (fun j=>e (j+1)) (fun j=>t (j+1)) is fin
 |[]=>rfl
 |i::is=>by rw[List.map_cons,lx,lx,y3A e t fin is]
theorem y0M:∀ds es:List Dt,lx (fun j=>Dt.eqb (ds.getD j (.i 0)) (es.getD j (.i 0))) (fun j=>ltb (ds.getD j (.i 0)) (es.getD j (.i 0))) (List.range (min ds.length es.length)) (decide (ds.length<es.length))=lts ds es
 |[],[]=>by simp[lx,lts]
 |[],_::_=>by simp[lx,lts]
 |_::_,[]=>by simp[lx,lts]
 |x::a,y::b=>by
  have ih:=y0M a b
  have hm:min (x::a).length (y::b).length =min a.length b.length+1:=by simp only[q0J];lia
  have hf:decide ((x::a).length <(y::b).length)=decide (a.length<b.length):=by simp
  rw[hm,hf,List.range_succ_eq_map,lx,lts]
  show (if Dt.eqb x y=true then lx _ _ ((List.range (min a.length b.length)).map (· +1)) _ else ltb x y)=_
  rw[y3A,←ih]
  rfl
section
variable {X:Cx}{pins:List (Addr×Obj)}{σ:St}{H:Hp}{s:Shared}
theorem z3Q {K:PySem.W.Frag}:∀{xs:List V}{ds:List Dt}{its:List Value},IsDs K H xs ds→Vals xs its→∀j (hj:j<its.length),∃v,IsD K H v (ds.getD j (.i 0))∧RelV v its[j]:=by
 intro xs
 induction xs with
 |nil=>
  intro ds its h1 h2 j hj
  cases h2
  exact absurd hj (Nat.not_lt_zero _)
 |cons x xs ih=>
  intro ds its h1 h2 j hj
  cases h1 with
  |cons a1 a2=>
  cases h2 with
  |cons b1 b2=>
  cases j with
  |zero=>exact⟨x,a1,b1⟩
  |succ j=>exact ih a2 b2 j (by simpa using hj)
theorem z4z {n:Nat}:∀{ds es:List Dt},Dt.oks n ds es=true→∀j,j<ds.length→j<es.length→Dt.ok n (ds.getD j (.i 0)) (es.getD j (.i 0))=true
 |[],_,_,j,h,_=>absurd h (Nat.not_lt_zero _)
 |_::_,[],_,j,_,h=>absurd h (Nat.not_lt_zero _)
 |d::ds,e::es,h,j,h1,h2=>by
  rw[Dt.oks,q1i] at h
  cases j with
  |zero=>exact h.1
  |succ j=>exact z4z h.2 j (by simpa using h1) (by simpa using h2)
def LTold (X:Cx) (H:Hp) (s:Shared) (n:Nat) (A:Around):Prop:=∀(v u:V) (d e:Dt) (x y:Value),IsD X.K H v d→IsD X.K H u e→RelV v x→RelV u y→Dt.ok n d e=true→LtAt A s x y (ltb d e)
theorem y4E (I:Inv X pins σ H s):∀(n:Nat) (A:Around),A.units+n<cLine→LTold X H s n A:=by
 intro n
 induction n with
 |zero=>
  intro A hu v u d e x y hv hw r1 r2 ok
  cases hv with
  |i k=>
   cases hw with
   |i m=>
    obtain⟨t,rfl⟩:=r1
    obtain⟨t',rfl⟩:=r2
    exact LtAt.int k t m t'
   |t _ _=>simp[Dt.ok] at ok
   |l _ _=>simp[Dt.ok] at ok
  |t _ _=>cases hw<;>simp[Dt.ok] at ok
  |l _ _=>cases hw<;>simp[Dt.ok] at ok
 |succ n ih=>
  intro A hu v u d e x y hv hw r1 r2 ok
  have P:=y5d I n A.in1 (by show A.units+1+n<cLine;lia)
  have P2:=ih A.in1 (by show A.units+1+n<cLine;lia)
  cases hv with
  |i k=>
   cases hw with
   |i m=>
    obtain⟨t,rfl⟩:=r1
    obtain⟨t',rfl⟩:=r2
    exact LtAt.int k t m t'
   |t _ _=>simp[Dt.ok] at ok
   |l _ _=>simp[Dt.ok] at ok
  | @t a xs ds q1 d1=>
    cases hw with
    |i m=>simp[Dt.ok] at ok
    |l _ _=>simp[Dt.ok] at ok
    | @t b ys es q2 d2=>
      cases (show x=Value.ref a from r1)
      cases (show y=Value.ref b from r2)
      obtain⟨its,rv,p,hz⟩:=I.tuple q1
      obtain⟨its2,rv2,p2,hz2⟩:=I.tuple q2
      have ok':Dt.oks n ds es=true:=by simpa[Dt.ok] using ok
      have l1:its.length=ds.length:=by rw[←rv.length,d1.length]
      have l2:its2.length=es.length:=by rw[←rv2.length,d2.length]
      have z:=LtAt.tuples (A:=A) (s:=s) (e:=fun j=>Dt.eqb (ds.getD j (.i 0)) (es.getD j (.i 0))) (t:=fun j=>ltb (ds.getD j (.i 0)) (es.getD j (.i 0))) (show s.heap.IsTuple a its.toArray from p) (show s.heap.IsTuple b its2.toArray from p2) (by lia)
       (fun j h1 h2=>by
        obtain⟨v1,c1,c2⟩:=z3Q d1 rv j (by simpa using h1)
        obtain⟨v2,c3,c4⟩:=z3Q d2 rv2 j (by simpa using h2)
        simpa using P v1 v2 _ _ _ _ c1 c3 c2 c4 (z4z ok' j (by rw[←l1];simpa using h1) (by rw[←l2];simpa using h2)))
       (fun j h1 h2 _=>by
        obtain⟨v1,c1,c2⟩:=z3Q d1 rv j (by simpa using h1)
        obtain⟨v2,c3,c4⟩:=z3Q d2 rv2 j (by simpa using h2)
        simpa using P2 v1 v2 _ _ _ _ c1 c3 c2 c4 (z4z ok' j (by rw[←l1];simpa using h1) (by rw[←l2];simpa using h2)))
      rw[q0h,q0h,l1,l2,y0M] at z
      exact z
  | @l a xs ds q1 d1=>
    cases hw with
    |i m=>simp[Dt.ok] at ok
    |t _ _=>simp[Dt.ok] at ok
    | @l b ys es q2 d2=>
      cases (show x=Value.ref a from r1)
      cases (show y=Value.ref b from r2)
      obtain⟨its,rv,p,hz⟩:=I.list q1
      obtain⟨its2,rv2,p2,hz2⟩:=I.list q2
      have ok':Dt.oks n ds es=true:=by simpa[Dt.ok] using ok
      have l1:its.length=ds.length:=by rw[←rv.length,d1.length]
      have l2:its2.length=es.length:=by rw[←rv2.length,d2.length]
      have z:=LtAt.lists (A:=A) (s:=s) (e:=fun j=>Dt.eqb (ds.getD j (.i 0)) (es.getD j (.i 0))) (t:=fun j=>ltb (ds.getD j (.i 0)) (es.getD j (.i 0))) p.isList p2.isList (by lia)
       (fun j h1 h2=>by
        obtain⟨v1,c1,c2⟩:=z3Q d1 rv j (by simpa using h1)
        obtain⟨v2,c3,c4⟩:=z3Q d2 rv2 j (by simpa using h2)
        simpa using P v1 v2 _ _ _ _ c1 c3 c2 c4 (z4z ok' j (by rw[←l1];simpa using h1) (by rw[←l2];simpa using h2)))
       (fun j h1 h2 _=>by
        obtain⟨v1,c1,c2⟩:=z3Q d1 rv j (by simpa using h1)
        obtain⟨v2,c3,c4⟩:=z3Q d2 rv2 j (by simpa using h2)
        simpa using P2 v1 v2 _ _ _ _ c1 c3 c2 c4 (z4z ok' j (by rw[←l1];simpa using h1) (by rw[←l2];simpa using h2)))
      rw[q0h,q0h,l1,l2,y0M] at z
      exact z
end
end Srt
end L2
namespace L2
open PySem PySem.Spec PyProof.Rows
namespace Srt
open PySem.W (KasT kas_sort kas_count kas_bin kas_place kas_descPart kas_tail3 kas_desc kas_asc kas_rev kas_item kas_st kas_cmp kas_runs kasC kas_range)
def TrT {α:Type} (n:Nat) (R:α→Prop):KasT α→Prop
 | .ret a=>R a
 | .ask i j k=>i<n∧j<n∧∀b,TrT n R (k b)
def z1j {α:Type} (c:Nat→Nat→Bool):KasT α→α
 | .ret a=>a
 | .ask i j k=>z1j c (k (c i j))
theorem TrT.bind {α β:Type}{n:Nat}{R:α→Prop}{S:β→Prop}{f:α→KasT β}:∀{t:KasT α},TrT n R t→(∀a,R a→TrT n S (f a))→TrT n S (t.bind f)
 | .ret a,h,hf=>hf a h
 | .ask i j k,h,hf=>⟨h.1,h.2.1,fun b=>TrT.bind (h.2.2 b) hf⟩
theorem TrT.run {α:Type}{n:Nat}{R:α→Prop} (c:Nat→Nat→Bool):∀(t:KasT α),TrT n R t→R (z1j c t)
 | .ret _,h=>h
 | .ask i j k,h=>TrT.run c (k (c i j)) (h.2.2 (c i j))
theorem TrT.wp {α:Type}{n:Nat}{R:α→Prop}{c:Nat→Nat→Bool}{cmp:Nat→Nat→(Bool→Shared→Prop)→Shared→Prop}{s:Shared}{Q:α→Shared→Prop} (hc:∀i j C,i<n→j<n→C (c i j) s→cmp i j C s):∀{t:KasT α},TrT n R t→Q (z1j c t) s→t.kasWp cmp Q s
 | .ret _,_,q=>q
 | .ask i j k,h,q=>hc i j _ h.1 h.2.1 (TrT.wp hc (h.2.2 (c i j)) q)
def Pm (n:Nat) (p:Array Nat):Prop:=p.toList.Perm (List.range n)
theorem Pm.lt {n:Nat}{p:Array Nat} (h:Pm n p) (hn:0<n) (i:Nat):p.getD i 0<n:=by
 rw[q1b]
 cases e:p[i]? with
 |none=>exact hn
 |some x=>
  have:x∈p.toList:=by
   obtain⟨hi,rfl⟩:=q0P.mp e
   exact Array.getElem_mem_toList hi
  exact q1s.mp (h.mem_iff.mp this)
theorem Pm.rev {n:Nat}{p:Array Nat} (h:Pm n p) (i j:Nat):Pm n (kas_rev p i j):=(Array.perm_iff_toList_perm.mp (mirror_perm p i j _)).trans h
theorem Pm.bub {n:Nat}{p:Array Nat} (h:Pm n p) (i j:Nat):Pm n (bubble p i j):=(Array.perm_iff_toList_perm.mp (bubble_perm p i j)).trans h
section
variable {n:Nat} (hn:0<n)
include hn
theorem z9L {p:Array Nat} (h:Pm n p):∀f a,TrT n (fun _=>True) (kas_asc p f a)
 |0,_=>trivial
 |f+1,a=>⟨h.lt hn _,h.lt hn _,fun b=>by
  cases b
  ·exact z9L h f (a+1)
  ·exact trivial⟩
theorem z5r:∀f (p:Array Nat) a q,Pm n p→TrT n (fun r=>Pm n r.1) (kas_desc f p a q)
 |0,p,a,q,h=>h
 |f+1,p,a,q,h=>⟨h.lt hn _,h.lt hn _,fun b=>by
  cases b
  ·refine⟨h.lt hn _,h.lt hn _,fun d=>?_⟩
   cases d
   ·exact z5r f p (a+1) (q+1) h
   ·exact h
  ·show TrT n _ (if q>0 then kas_desc f (kas_rev p (a - (q+1)) a) (a+1) 0 else kas_desc f p (a+1) 0)
   split
   ·exact z5r f _ _ _ (h.rev _ _)
   ·exact z5r f _ _ _ h⟩
theorem z7M {p:Array Nat} (a m:Nat) (h:Pm n p):TrT n (fun r=>Pm n r.2) (kas_tail3 a m p):=(z9L hn (h.rev _ _) _ _).bind fun _ _=>h.rev _ _
theorem z4k {p:Array Nat} (a m:Nat) (h:Pm n p):TrT n (fun r=>Pm n r.2) (kas_descPart a m p):=(z5r hn _ _ _ _ h).bind fun r hr=>by
 split
 ·exact z7M hn _ _ (hr.rev _ _)
 ·exact z7M hn _ _ hr
theorem y2a {p:Array Nat} (m:Nat) (h:Pm n p):TrT n (fun r=>Pm n r.2) (kas_count m p):=(z9L hn h _ _).bind fun a _=>by
 split
 ·exact h
 ·split
  ·refine⟨h.lt hn _,h.lt hn _,fun b=>?_⟩
   cases b
   ·exact z4k hn _ _ (h.rev _ _)
   ·exact h
  ·exact z4k hn _ _ h
theorem z5q {p:Array Nat} (h:Pm n p) (k:Nat):∀f l r,TrT n (fun _=>True) (kas_place p k f l r)
 |0,_,_=>trivial
 |f+1,l,r=>by
  rw[kas_place]
  split
  ·exact trivial
  ·refine⟨h.lt hn _,h.lt hn _,fun b=>?_⟩
   cases b
   ·exact z5q h k f _ _
   ·exact z5q h k f _ _
theorem y3j:∀f (p:Array Nat) k,Pm n p→TrT n (Pm n) (kas_bin f p k)
 |0,_,_,h=>h
 |f+1,p,k,h=>(z5q hn h k _ _ _).bind fun l _=>y3j f _ _ (h.bub _ _)
theorem z9K:TrT n (Pm n) (kas_sort n):=(y2a hn n (show Pm n (List.toArray (List.range n)) from by unfold Pm;rw[List.toList_toArray])).bind fun r hr=>by
 split
 ·exact y3j hn _ _ _ hr
 ·exact hr
end
section
variable {X:Cx}{pins:List (Addr×Obj)}{σ:St}{H:Hp}{s:Shared}{l:Addr}{xs:List V}
mutual
theorem y2N {K:PySem.W.Frag}{H H':Hp} (g:Same H H'):∀{v:V}{d:Dt},IsD K H v d→IsD K H' v d
 |_,_,.i n=> .i n
 |_,_,.t q h=> .t (q.same g) (z3l g h)
 |_,_,.l q h=> .l (q.same g) (z3l g h)
theorem z3l {K:PySem.W.Frag}{H H':Hp} (g:Same H H'):∀{xs:List V}{ds:List Dt},IsDs K H xs ds→IsDs K H' xs ds
 |_,_,.nil => .nil
 |_,_,.cons a b=> .cons (y2N g a) (z3l g b)
end
def z5a (ds:List (List Dt)):List Nat:=if ds.length<2 then List.range ds.length else (z1j (fun i j=>lts (ds.getD i []) (ds.getD j [])) (kas_sort ds.length)).toList
theorem z2x (ds:List (List Dt)):(z5a ds).Perm (List.range ds.length):=by
 unfold z5a
 split
 ·exact List.Perm.refl _
 ·exact TrT.run _ _ (z9K (n:=ds.length) (by lia))
theorem Vals.pick {xs:List V}{us:List Value} (hV:Vals xs us):∀(p:List Nat),(∀i∈p,i<xs.length)→Vals (p.map fun i=>xs.getD i .non) (p.map fun i=>us.getD i Value.none)
 |[],_=> .nil
 |i::p,h=>by
  refine .cons ?_ (Vals.pick hV p fun j hj=>h j (.tail _ hj))
  have hi:=h i (.head _)
  obtain⟨u,hu,r⟩:=hV.get (q0c hi)
  show RelV (xs.getD i .non) (us.getD i Value.none)
  rw[q0a,q0c hi,q0a,hu]
  exact r
theorem z9b (us:List Value):(List.range us.length).map (fun i=>us.getD i Value.none)=us:=List.ext_getElem (by simp) fun i h1 h2=>by
 rw[q1h,List.getElem_range,q0a,q0c h2];rfl
end
end Srt
open Srt
section
variable {X:Cx}{K:PySem.W.Frag}
end
end L2
namespace L2
open PySem PySem.Spec PyProof.Rows
namespace Srt
open PySem.W (KasT kas_sort kas_count kas_bin kas_place kas_descPart kas_tail3 kas_desc kas_asc kas_rev kas_item kas_st kas_cmp kas_runs kasC kas_range KatLex KatTups kat_lt kat_cons kat_yes kat_no kat_nil kat_one)
section
variable {X:Cx}{pins:List (Addr×Obj)}{σ:St}{H:Hp}{s:Shared}{l:Addr}{xs:List V}
theorem bT:(Value.type "int" != Value.type "tuple")=true:=by first|rfl|decide|simp
theorem y2O {K:PySem.W.Frag}{H:Hp}:∀{xs:List V}{ds:List (List Dt)}{us:List Value},IsDs K H xs (ds.map Dt.t)→Vals xs us→∀i,i<ds.length→IsD K H (xs.getD i .non) (.t (ds.getD i []))∧RelV (xs.getD i .non) (us.getD i Value.none):=by
 intro xs
 induction xs with
 |nil=>
  intro ds us h1 h2 i hi
  cases ds with
  |nil=>exact absurd hi (Nat.not_lt_zero _)
  |cons d ds=>cases h1
 |cons x xs ih=>
  intro ds us h1 h2 i hi
  cases ds with
  |nil=>cases h1
  |cons d ds=>
   cases h1 with
   |cons a1 a2=>
   cases h2 with
   |cons b1 b2=>
   cases i with
   |zero=>exact⟨a1,b1⟩
   |succ i=>exact ih a2 b2 i (by simpa using hi)
theorem y3F (I:Inv X pins σ H s):∀{xs:List V}{ds:List (List Dt)}{us:List Value},IsDs X.K H xs (ds.map Dt.t)→(∀a∈ds,∃n r,a=Dt.i n::r)→Vals xs us→∃fs,KatTups s.heap us fs∧fs.length=us.length∧∀f∈fs,∃n t,f=Value.int n t
 |[],[],us,_,_,hV=>by
  cases hV
  exact⟨[],trivial,rfl,fun f hf=>nomatch hf⟩
 |[],_::_,us,h,_,_=>nomatch h
 |_::_,[],us,h,_,_=>nomatch h
 |x::xs,d::ds,us,h,hf,hV=>by
  cases hV with
  |cons r1 r2=>
  cases h with
  |cons h1 h2=>
  obtain⟨fs,t1,t2,t3⟩:=y3F I h2 (fun a ha=>hf a (q0i _ ha)) r2
  obtain⟨n,r,rfl⟩:=hf d q0j
  cases h1 with
  | @t a ys es q1 d1=>
  cases d1 with
  |cons e1 e2=>
  obtain⟨its,rv,p,hz⟩:=I.tuple q1
  cases rv with
  |cons v1 v2=>
  cases e1
  obtain⟨t,rfl⟩:=v1
  obtain⟨o,p1,p2,k,p3⟩:=id p
  cases (show _=Value.ref a from r1)
  refine⟨_::fs,⟨⟨a,o,_,k,rfl,p1,p2,p3,by rw[List.getElem?_toArray];rfl⟩,t1⟩,by rw[q0J,q0J,t2],fun f hf=>?_⟩
  rcases q0l.mp hf with rfl|hf
  ·exact⟨_,_,rfl⟩
  ·exact t3 f hf
theorem z8s (I:Inv X pins σ H s) {A:Around}{Q:Bool→Shared→Prop}{n:Nat} (hu:A.units+n<cLine):∀{xs ys:List V}{ds es:List Dt}{its its2:List Value} (i:Nat),IsDs X.K H xs ds→IsDs X.K H ys es→Vals xs its→Vals ys its2→Dt.oks n ds es=true→(i=0→(∃k r,ds= .i k::r)∧∃k r,es= .i k::r)→Q (lts ds es) s→KatLex X.prog X.w A true (decide (its.length<its2.length)) Q (its.zip its2) i s
 |[],ys,ds,es,its,its2,i,h1,h2,v1,v2,ok,hi,h=>by
  cases h1
  cases v1
  have e:lts [] es=decide (([]:List Value).length <its2.length):=by
    cases h2<;>cases v2<;>simp[lts]
  rw[e] at h
  exact kat_nil h
 |x::xs,[],ds,es,its,its2,i,h1,h2,v1,v2,ok,hi,h=>by
  cases h2
  cases v2
  cases h1 with
  |cons a1 a2=>
  cases v1 with
  |cons b1 b2=>
  rw[lts] at h
  rw[List.zip_nil_right]
  refine kat_nil ?_
  rw[decide_eq_false (by simp)]
  exact h
 |x::xs,y::ys,ds,es,its,its2,i,h1,h2,v1,v2,ok,hi,h=>by
  cases h1 with
  | @cons _ d _ ds a1 a2=>
  cases h2 with
  | @cons _ e _ es c1 c2=>
  cases v1 with
  | @cons _ u _ us b1 b2=>
  cases v2 with
  | @cons _ u2 _ us2 f1 f2=>
  rw[Dt.oks,q1i] at ok
  rw[lts] at h
  rw[List.zip_cons_cons]
  have hd:decide ((u::us).length <(u2::us2).length)=decide (us.length<us2.length):=by simp
  rw[hd]
  refine kat_cons (y5d I n A hu x y d e u u2 a1 c1 b1 f1 ok.1 _ _ _ _ ?_)
  by_cases hq:Dt.eqb d e=true
  ·rw[hq]
   rw[if_pos hq] at h
   exact kat_yes (z8s I hu (i+1) a2 c2 b2 f2 ok.2 (fun z=>by lia) h)
  ·rw[Bool.not_eq_true] at hq
   rw[hq]
   rw[if_neg (by rw[hq];decide)] at h
   refine kat_no ?_
   by_cases h0:i=0
   ·obtain⟨⟨k,r,e1⟩,k2,r2,e2⟩:=hi h0
    injection e1 with e1 _
    injection e2 with e2 _
    subst e1 e2 h0
    cases a1
    cases c1
    obtain⟨t,rfl⟩:=b1
    obtain⟨t2,rfl⟩:=f1
    exact oneLt_int h
   ·have:(true&&i==0)=false:=by simp[h0]
    rw[this]
    refine kat_one _ _ ?_
    exact y4E I n A hu x y d e u u2 a1 c1 b1 f1 ok.1 _ _ _ _ h
theorem y5c (I:Inv X pins σ H s) {A:Around}{E:Value→Shared→Prop}{Q:Bool→Shared→Prop}{n:Nat}{v u:V}{ds es:List Dt}{x y:Value} (hu:A.units+n+1<cLine) (hv:IsD X.K H v (.t ds)) (hw:IsD X.K H u (.t es)) (r1:RelV v x) (r2:RelV u y) (ok':Dt.oks n ds es=true) (f1:∃k r,ds= .i k::r) (f2:∃k r,es= .i k::r)
 (h:Q (lts ds es) s):wpAny (model X.prog X.w) A (keyLt' (tuples' true) x y) Q E s:=by
 cases hv with
 | @t a xs ds q1 d1=>
 cases hw with
 | @t b ys es q2 d2=>
 cases (show x=Value.ref a from r1)
 cases (show y=Value.ref b from r2)
 obtain⟨its,rv,p,hz⟩:=I.tuple q1
 obtain⟨its2,rv2,p2,hz2⟩:=I.tuple q2
 obtain⟨o,p1,_,k,p3⟩:=id p
 obtain⟨o2,p4,_,k2,p5⟩:=id p2
 refine kat_lt p1 p3 p4 p5 ?_
 rw[q0h,q0h]
 exact z8s I (by lia) 0 d1 d2 rv rv2 ok' (fun _=>⟨f1,f2⟩) h
end
end Srt
open Srt
section
variable {X:Cx}{K:PySem.W.Frag}
end
end L2
namespace L2.St
open PySem PySem.SetTable
def lp (mask:Nat):Nat→Nat×Nat→Nat×Nat
 |0,p=>p
 |n+1,p=>lp mask n (leap mask p.1 p.2)
theorem y3C (mask:Nat):∀a b p,lp mask (a+b) p=lp mask b (lp mask a p)
 |0,b,p=>by rw[Nat.zero_add];rfl
 |a+1,b,p=>by rw[Nat.succ_add];exact y3C mask a b _
theorem y2G (mask:Nat):∀n (p:Nat×Nat),p.1≤mask→(lp mask n p).1 ≤mask
 |0,p,h=>h
 |n+1,p,h=>y2G mask n _ (by show _%_≤_;have:=Nat.mod_lt (p.1*5+1+p.2/32) (show mask+1>0 by lia);lia)
theorem y3B (mask:Nat):∀n (p:Nat×Nat),(lp mask n p).2 =p.2/32^n
 |0,p=>by simp[lp]
 |n+1,p=>by
  show (lp mask n _).2 =_
  rw[y3B mask n]
  show p.2/32/32^n=_
  rw[Nat.div_div_eq_div_mul,Nat.pow_succ,Nat.mul_comm]
def orb (mask:Nat):Nat→Nat→Nat→Nat
 |0,_,acc=>acc
 |n+1,i,acc=>orb mask n ((i*5+1)%(mask+1)) (acc |||2^i)
theorem y0t (mask:Nat):∀n i acc j,(orb mask n i acc).testBit j=true→acc.testBit j=true∨∃k,k<n∧(lp mask k (i,0)).1 =j
 |0,_,acc,j,h=> .inl h
 |n+1,i,acc,j,h=>by
  rcases y0t mask n _ _ j h with h|⟨k,hk,e⟩
  ·rw[Nat.testBit_or,Bool.or_eq_true] at h
   rcases h with h|h
   ·exact .inl h
   ·rw[Nat.testBit_two_pow,decide_eq_true_eq] at h
    exact .inr ⟨0,by lia,h⟩
  ·refine .inr ⟨k+1,by lia,?_⟩
   show (lp mask k (leap mask i 0)).1 =j
   rw[←e]
   show (lp mask k ((i*5+1+0/32)%(mask+1),0/32)).1 =_
   rw[Nat.zero_div,Nat.add_zero]
theorem orb7:∀i,i<8→orb 7 8 i 0=2^8 - 1:=by decide+kernel
theorem orb31:∀i,i<32→orb 31 32 i 0=2^32 - 1:=by decide+kernel
theorem y5C:∀i,i<128→orb 127 128 i 0=2^128 - 1:=by decide+kernel
def Mk (mask:Nat):Prop:=mask=7∨mask=31∨mask=127
theorem y4w {mask i:Nat} (h:Mk mask) (hi:i≤mask):orb mask (mask+1) i 0=2^(mask+1) - 1:=by
 rcases h with rfl|rfl|rfl
 ·exact orb7 i (by lia)
 ·exact orb31 i (by lia)
 ·exact y5C i (by lia)
theorem y6e {mask i b j:Nat} (h:Mk mask) (hi:i≤mask) (hb:b<2^64) (hj:j≤mask):∃n,n<turns mask∧(lp mask n (i,b)).1 =j:=by
 have h1:(lp mask 13 (i,b)).1 ≤mask:=y2G _ _ _ hi
 have h2:(lp mask 13 (i,b)).2 =0:=by
  rw[y3B]
  exact Nat.div_eq_of_lt (Nat.lt_trans hb (by decide))
 obtain⟨i',b'⟩:Nat×Nat:=lp mask 13 (i,b)
 generalize e:lp mask 13 (i,b)=p at h1 h2
 obtain⟨p1,p2⟩:=p
 dsimp only at h1 h2
 subst h2
 have t:(orb mask (mask+1) p1 0).testBit j=true:=by
  rw[y4w h h1,Nat.testBit_two_pow_sub_one]
  exact decide_eq_true (by lia)
 rcases y0t mask _ _ _ _ t with t|⟨k,hk,ek⟩
 ·simp at t
 ·exact⟨13+k,by unfold turns;lia,by rw[y3C,e];exact ek⟩
theorem z5Y (xs:Array Nat) (j:Nat) (hs:xs.toList.Pairwise (· < ·)):∀fuel lo hi,hi - lo≤fuel→lo≤hi→hi≤xs.size→
 (∀i v,i<lo→xs[i]? =some v→v<j)→(∀i v,hi≤i→xs[i]? =some v→j≤v)→
 below.go xs j fuel lo hi≤xs.size∧(∀i v,i<below.go xs j fuel lo hi→xs[i]? =some v→v<j)∧(∀i v,below.go xs j fuel lo hi≤i→xs[i]? =some v→j≤v)
 |0,lo,hi,h1,h2,h3,a,b=>by
  have:lo=hi:=by lia
  subst this
  exact⟨h3,a,b⟩
 |fuel+1,lo,hi,h1,h2,h3,a,b=>by
  unfold below.go
  split
  ·rename_i hlt
   dsimp only
   have hm:(lo+hi)/2<xs.size:=by lia
   have eg:xs.getD ((lo+hi)/2) j=xs[(lo+hi)/2]:=by rw[q1b,q0F hm];rfl
   rw[eg]
   have mono:∀i k (hi':i<xs.size) (hk:k<xs.size),i≤k→xs[i]≤xs[k]:=fun i k h4 h5 hik=>by
        rcases Nat.lt_or_eq_of_le hik with z|rfl
        ·exact Nat.le_of_lt (q1f.mp hs i k (by simpa using h4) (by simpa using h5) z)
        ·exact q0e _
   split
   ·rename_i c
    refine z5Y xs j hs fuel _ _ (by lia) (by lia) h3 (fun i v hi' e=>?_) b
    obtain⟨h4,rfl⟩:=q0P.mp e
    exact Nat.lt_of_le_of_lt (mono i _ h4 hm (by lia)) c
   ·rename_i c
    refine z5Y xs j hs fuel _ _ (by lia) (by lia) (by lia) a (fun i v hi' e=>?_)
    obtain⟨h4,rfl⟩:=q0P.mp e
    exact q0o (by lia) (mono _ i hm h4 hi')
  ·have:lo=hi:=by lia
   subst this
   exact⟨h3,a,b⟩
theorem z8M {xs:Array Nat} (j:Nat) (hs:xs.toList.Pairwise (· < ·)):below xs j≤xs.size∧(∀i v,i<below xs j→xs[i]? =some v→v<j)∧(∀i v,below xs j≤i→xs[i]? =some v→j≤v):=
 z5Y xs j hs xs.size 0 xs.size (by lia) (by lia) (q0e _) (fun i v h=>by lia) (fun i v h e=>by have:=(q0P.mp e).1;lia)
theorem z5Z {xs:Array Nat}{j k:Nat} (hs:xs.toList.Pairwise (· < ·)) (hk:k≤xs.size) (h1:∀i v,i<k→xs[i]? =some v→v<j) (h2:∀i v,k≤i→xs[i]? =some v→j≤v):below xs j=k:=by
 obtain⟨b0,b1,b2⟩:=z8M j hs
 rcases Nat.lt_trichotomy (below xs j) k with h|h|h
 ·have hlt:below xs j<xs.size:=by lia
  have:=h1 _ _ h (q0F hlt)
  have:=b2 _ _ (q0e _) (q0F hlt)
  lia
 ·exact h
 ·have hlt:k<xs.size:=by lia
  have:=b1 _ _ h (q0F hlt)
  have:=h2 _ _ (q0e _) (q0F hlt)
  lia
theorem z7B (j:Nat):has #[] j=false:=by simp[has]
theorem z9X {t:SetTable}{j:Nat} (no:t.dummies= #[]) (h:j∉t.place.toList):t.slot j= .empty :=by
 unfold slot
 dsimp only
 rw[if_neg,no,z7B]
 ·rfl
 ·intro c
  rw[beq_iff_eq] at c
  obtain⟨h1,e⟩:=q0P.mp c
  exact h (by have:=Array.getElem_mem_toList h1;rwa[e] at this)
theorem z8X {t:SetTable}{j:Nat} (up:t.place.toList.Pairwise (· < ·)) (h:t.slot j= .empty):j∉t.place.toList:=by
 intro hj
 obtain⟨i,hi,e⟩:=q0v.mp hj
 have hi':i<t.place.size:=by simpa using hi
 have e':t.place[i]=j:=by simpa using e
 have hb:below t.place j=i:=z5Z up (by lia) (fun k v hk ev=>by
  obtain⟨h1,rfl⟩:=q0P.mp ev
  rw[←e'];exact q1f.mp up k i (by simpa using h1) hi hk) (fun k v hk ev=>by
  obtain⟨h1,rfl⟩:=q0P.mp ev
  rw[←e']
  rcases Nat.lt_or_eq_of_le hk with z|rfl
  ·exact Nat.le_of_lt (q1f.mp up i k hi (by simpa using h1) z)
  ·exact q0e _)
 unfold slot at h
 dsimp only at h
 rw[hb,q0F hi',e',if_pos (by simp)] at h
 cases h
theorem z6m {t:SetTable}{j i:Nat} (h:t.slot j= .live i):i<t.place.size:=by
 unfold slot at h
 dsimp only at h
 split at h
 ·rename_i c
  rw[beq_iff_eq] at c
  cases h
  exact (q0P.mp c).1
 ·split at h<;>cases h
theorem z4V {t:SetTable}{j:Nat} (no:t.dummies= #[]):t.slot j≠ .dummy :=by
 unfold slot
 dsimp only
 rw[no,z7B]
 split
 ·exact fun h=>nomatch h
 ·exact fun h=>nomatch h
def sta (mask i b:Nat):Probe:={j:=i,more:=runEnd mask i - i,i:=i,perturb:=b,dummy:=none}
theorem z7C (t:SetTable) (hashAt:Nat→Int) (h:Int) (f:Nat) (p:Probe):probe.go t hashAt h (f+1) p=(match t.slot p.j with
 | .empty =>some (.empty p.j p.dummy)
 | .dummy =>probe.go t hashAt h f (t.advance {p with dummy:=some p.j})
 | .live i=>if hashAt i==h then some (.candidate p.j i (t.advance p)) else probe.go t hashAt h f (t.advance p)):=rfl
theorem y5Y {t:SetTable}{hashAt:Nat→Int}{h:Int} (no:t.dummies= #[]) (hne:∀i,i<t.place.size→hashAt i≠h) (i b:Nat):∀more fuel j,more<fuel→j+more≤t.mask→
 (∃j',probe.go t hashAt h fuel {j:=j,more:=more,i:=i,perturb:=b,dummy:=none}=some (.empty j' none)∧t.slot j'= .empty ∧j'≤t.mask)∨
 probe.go t hashAt h fuel {j:=j,more:=more,i:=i,perturb:=b,dummy:=none}=probe.go t hashAt h (fuel - (more+1)) (sta t.mask (leap t.mask i b).1 (leap t.mask i b).2):=by
 intro more
 induction more with
 |zero=>
  intro fuel j hf hj
  obtain⟨f,rfl⟩:∃f,fuel=f+1:=⟨fuel - 1,by lia⟩
  rw[z7C]
  dsimp only
  cases hs:t.slot j with
  |empty=>exact .inl ⟨j,rfl,hs,by lia⟩
  |dummy=>exact absurd hs (z4V no)
  |live k=>
   refine .inr ?_
   dsimp only
   rw[if_neg (by simpa using hne k (z6m hs)),show f+1 - (0+1)=f by lia]
   rfl
 |succ more ih=>
  intro fuel j hf hj
  obtain⟨f,rfl⟩:∃f,fuel=f+1:=⟨fuel - 1,by lia⟩
  rw[z7C]
  dsimp only
  cases hs:t.slot j with
  |empty=>exact .inl ⟨j,rfl,hs,by lia⟩
  |dummy=>exact absurd hs (z4V no)
  |live k=>
   dsimp only
   rw[if_neg (by simpa using hne k (z6m hs))]
   have:=ih f (j+1) (by lia) (by lia)
   rw[show f+1 - (more+1+1)=f - (more+1) by lia]
   exact this
theorem y5n {mask i:Nat} (hi:i≤mask):runEnd mask i - i≤9∧i+(runEnd mask i - i)≤mask:=by
 unfold runEnd;split<;>lia
theorem y5Z {t:SetTable}{hashAt:Nat→Int}{h:Int} (no:t.dummies= #[]) (hne:∀i,i<t.place.size→hashAt i≠h):∀n fuel i b,i≤t.mask→10*n<fuel→t.slot (lp t.mask n (i,b)).1 = .empty →
 ∃j',probe.go t hashAt h fuel (sta t.mask i b)=some (.empty j' none)∧t.slot j'= .empty ∧j'≤t.mask
 |0,fuel,i,b,hi,hf,he=>by
  obtain⟨f,rfl⟩:∃f,fuel=f+1:=⟨fuel - 1,by lia⟩
  refine⟨i,?_,he,hi⟩
  rw[z7C]
  unfold sta
  dsimp only
  rw[show t.slot i= .empty from he]
 |n+1,fuel,i,b,hi,hf,he=>by
  obtain⟨r1,r2⟩:=y5n hi
  rcases y5Y no hne i b (runEnd t.mask i - i) fuel i (by lia) r2 with h1|h1
  ·exact h1
  ·have hl:(leap t.mask i b).1 ≤t.mask:=y2G t.mask 1 (i,b) hi
   obtain⟨j',h2,h3⟩:=y5Z no hne n (fuel - (runEnd t.mask i - i+1)) (leap t.mask i b).1 (leap t.mask i b).2 hl (by lia) he
   exact⟨j',h1.trans h2,h3⟩
theorem z9u {n:Nat}{ps:List Nat} (h:ps.length<n):∃j,j<n∧j∉ps:=by
 refine Classical.byContradiction fun z=>?_
 have hsub:List.range n ⊆ ps:=fun j hj=>Classical.byContradiction fun y=>z ⟨j,q1s.mp hj,y⟩
 have:=(List.nodup_range (n:=n)).length_le_of_subset hsub
 rw[q1n] at this
 lia
theorem y1J (h:Int):bits h<2^64:=by
 unfold bits
 have:=Int.emod_lt_of_pos h (show (0:Int)<2^64 by decide)
 have:=Int.emod_nonneg h (show ((2:Int)^64)≠0 by decide)
 lia
structure TOk (t:SetTable) (n:Nat):Prop where
 sz:t.place.size=n
 up:t.place.toList.Pairwise (· < ·)
 top:∀j∈t.place.toList,j≤t.mask
 no:t.dummies= #[]
 plain:t.plain=true
 mm:Mk t.mask
 room:n≤t.mask
theorem TOk.fits {t:SetTable}{n:Nat} (h:TOk t n):t.fits n=true:=by
 unfold SetTable.fits fill
 rw[h.no,h.sz]
 simpa using h.room
theorem TOk.odd {t:SetTable}{n:Nat} (h:TOk t n):t.gaveWay=false:=by
 unfold SetTable.gaveWay
 rcases h.mm with e|e|e<;>rw[e]<;>decide
theorem TOk.probe {t:SetTable}{n:Nat} (h:TOk t n) {hashAt:Nat→Int}{k:Int} (hne:∀i,i<n→hashAt i≠k):∃j,t.probe hashAt k (t.probeStart k)=some (.empty j none)∧j∉t.place.toList∧j≤t.mask:=by
 obtain⟨j,hj,hf⟩:=z9u (n:=t.mask+1) (ps:=t.place.toList) (by have:=h.room;have:=h.sz;simp;lia)
 have hi:bits k%(t.mask+1)≤t.mask:=by have:=Nat.mod_lt (bits k) (show t.mask+1>0 by lia);lia
 obtain⟨m,hm,em⟩:=y6e h.mm hi (y1J k) (show j≤t.mask by lia)
 obtain⟨j',h1,h2,h3⟩:=y5Z (hashAt:=hashAt) (h:=k) h.no (fun i hi=>hne i (by rw[←h.sz];exact hi)) m (10*turns t.mask) _ (bits k) hi (by lia) (by rw[em];exact z9X h.no hf)
 exact⟨j',h1,z8X h.up h2,h3⟩
theorem y5R {xs:Array Nat}{j:Nat} (hs:xs.toList.Pairwise (· < ·)) (hn:j∉xs.toList):(insertAt xs (below xs j) j).toList.Pairwise (· < ·):=by
 obtain⟨b0,b1,b2⟩:=z8M j hs
 rw[toList_insertAt,List.pairwise_append]
 refine⟨hs.take,?_,fun a ha b hb=>?_⟩
 ·rw[List.pairwise_cons]
  refine⟨fun a ha=>?_,hs.drop⟩
  obtain⟨i,hi,rfl⟩:=q0v.mp ha
  rw[List.getElem_drop]
  rw[q1R] at hi
  have hlt:below xs j+i<xs.size:=by simp at hi;lia
  have:=b2 (below xs j+i) _ (by lia) (q0F hlt)
  have e:xs.toList[below xs j+i]'(by simpa using hlt)=xs[below xs j+i]:=by simp
  rw[e]
  have ne:xs[below xs j+i]≠j:=fun z=>hn (by rw[←z];exact Array.getElem_mem_toList hlt)
  lia
 ·obtain⟨i,hi,rfl⟩:=q0v.mp ha
  rw[q0n] at hi
  have hlt:i<xs.size:=by simp at hi;lia
  rw[List.getElem_take]
  have e:xs.toList[i]'(by simpa using hlt)=xs[i]:=by simp
  rw[e]
  have l1:=b1 i _ (by lia) (q0F hlt)
  rcases q0l.mp hb with rfl|hb
  ·exact l1
  ·obtain⟨k,hk,rfl⟩:=q0v.mp hb
   rw[List.getElem_drop]
   rw[q1R] at hk
   have hlt2:below xs j+k<xs.size:=by simp at hk;lia
   have e:xs.toList[below xs j+k]'(by simpa using hlt2)=xs[below xs j+k]:=by simp
   rw[e]
   have:=b2 (below xs j+k) _ (by lia) (q0F hlt2)
   lia
theorem z8w {α:Type} (xs:Array α) (p:Nat) (x:α):(insertAt xs p x).size =xs.size+1:=by
 have:=(insertAt_perm xs p x).length_eq
 simpa using this
theorem TOk.put {t:SetTable}{n j:Nat} (h:TOk t n) (hj:j∉t.place.toList) (hm:j≤t.mask) (hr:n+1≤t.mask):TOk (t.put j).1 (n+1)∧(t.put j).1.mask =t.mask∧(t.put j).1.led =t.led:=by
 refine⟨⟨?_,?_,?_,?_,h.plain,h.mm,hr⟩,rfl,rfl⟩
 ·show (insertAt _ _ _).size =_
  rw[z8w,h.sz]
 ·exact y5R h.up hj
 ·intro a ha
  have:=(insertAt_perm _ _ _).mem_iff.mp (show a∈(insertAt t.place (below t.place j) j).toList from ha)
  rw[Array.toList_push] at this
  rcases q0s.mp this with z|z
  ·exact h.top a z
  ·rw[q0g.mp z];exact hm
 ·show (if has t.dummies j=true then _ else t.dummies)=_
  rw[h.no,z7B];rfl
theorem y1k {mask:Nat}{owner:Array (Option Nat)} (hsz:owner.size=mask+1):∀n fuel i b,i≤mask→n<fuel→owner[(lp mask n (i,b)).1]? =some none→
 ∃j,layClean.free mask owner fuel i b=some j∧owner[j]? =some none
 |n,0,i,b,hi,hf,he=>by lia
 |n,fuel+1,i,b,hi,hf,he=>by
  unfold layClean.free
  cases hfd:(List.range (runEnd mask i+1 - i)).find? fun k=>(owner.getD (i+k) (some 0)).isNone with
  |some k=>
   refine⟨i+k,rfl,?_⟩
   have:=List.find?_some hfd
   rw[q1b] at this
   cases e:owner[i+k]? with
   |none=>rw[e] at this;cases this
   |some o=>
    rw[e] at this
    cases o with
    |none=>rfl
    |some _=>cases this
  |none=>
   dsimp only
   cases n with
   |zero=>
    exfalso
    have hr:(0:Nat)∈List.range (runEnd mask i+1 - i):=List.mem_range.mpr (by unfold runEnd;split<;>lia)
    have:=List.find?_eq_none.mp hfd 0 hr
    rw[Nat.add_zero,q1b,show owner[i]? =some none from he] at this
    exact this rfl
   |succ n=>exact y1k hsz n fuel _ _ (y2G mask 1 (i,b) hi) (by lia) he
theorem y3J {α:Type} (x:α):∀(l:List (Option α)) (j:Nat),l[j]? =some none→((l.set j (some x)).filterMap id).Perm (x::l.filterMap id)
 |[],j,h=>by simp at h
 |o::l,0,h=>by
  cases (show o=none by simpa using h)
  exact List.Perm.refl _
 |o::l,j+1,h=>by
  have ih:=y3J x l j (by simpa using h)
  cases o with
  |none=>exact ih
  |some y=>exact (ih.cons y).trans (List.Perm.swap ..)
theorem y3K {α:Type}:∀(l:List (Option α)),(l.filterMap id).length <l.length→∃j:Nat,l[j]? =some (none:Option α)
 |[],h=>by simp at h
 |none::l,h=>⟨0,rfl⟩
 |some y::l,h=>by
  obtain⟨j,hj⟩:=y3K l (by simpa using h)
  exact⟨j+1,by simpa using hj⟩
theorem z5m {mask:Nat} (hm:Mk mask):∀(hs:List Int) (k:Nat) (owner:Array (Option Nat)),owner.size=mask+1→(owner.toList.filterMap id).Perm (List.range k)→k+hs.length≤mask→
 ∃out:Array (Option Nat),(hs.foldl (init:=some (owner,k)) fun acc h=>do
  let (owner,k) ←acc
  let j ←layClean.free mask owner (turns mask) (bits h%(mask+1)) (bits h)
  pure (owner.setIfInBounds j (some k),k+1))=some (out,k+hs.length)∧out.size=mask+1∧(out.toList.filterMap id).Perm (List.range (k+hs.length))
 |[],k,owner,h1,h2,h3=>⟨owner,rfl,h1,h2⟩
 |h::hs,k,owner,h1,h2,h3=>by
  have hi:bits h%(mask+1)≤mask:=by have:=Nat.mod_lt (bits h) (show mask+1>0 by lia);lia
  obtain⟨j0,hj0⟩:=y3K owner.toList (by rw[h2.length_eq,q1n,q1d,h1];simp at h3;lia)
  rw[Array.getElem?_toList] at hj0
  have hj0l:=(q0P.mp hj0).1
  obtain⟨n,hn,en⟩:=y6e hm hi (y1J h) (show j0≤mask by lia)
  obtain⟨j,e1,e2⟩:=y1k h1 n (turns mask) _ (bits h) hi hn (by rw[en];exact hj0)
  rw[List.foldl_cons]
  have step:(do
   let (owner,k) ←some (owner,k)
   let j ←layClean.free mask owner (turns mask) (bits h%(mask+1)) (bits h)
   pure (owner.setIfInBounds j (some k),k+1):Option (Array (Option Nat)×Nat))=some (owner.setIfInBounds j (some k),k+1):=by
   show (layClean.free mask owner (turns mask) (bits h%(mask+1)) (bits h)>>= fun j=>pure (owner.setIfInBounds j (some k),k+1))=_
   rw[e1];rfl
  rw[step]
  obtain⟨out,f1,f2,f3⟩:=z5m hm hs (k+1) (owner.setIfInBounds j (some k)) (by rw[Array.size_setIfInBounds,h1]) (by
   rw[Array.toList_setIfInBounds]
   refine (y3J k owner.toList j (by rw[Array.getElem?_toList];exact e2)).trans ?_
   rw[List.range_succ]
   exact (h2.cons k).trans (List.perm_append_singleton k _).symm) (by simp at h3;lia)
  rw[q0J,show k+(hs.length+1)=k+1+hs.length by lia]
  exact⟨out,f1,f2,f3⟩
theorem y6a {α:Type} (n:Nat):(List.replicate n (none:Option α)).filterMap id=[]:=by
 induction n with
 |zero=>rfl
 |succ n ih=>rw[List.replicate_succ];exact ih
theorem z7E {α:Type}:∀(l:List (Option α)),(List.range l.length).filterMap (fun j=>(l[j]?).getD none)=l.filterMap id
 |[]=>rfl
 |o::l=>by
  rw[q0J,List.range_succ_eq_map]
  cases o with
  |none=>
   rw[List.filterMap_cons_none (by rfl),List.filterMap_map]
   exact z7E l
  |some y=>
   rw[List.filterMap_cons_some (b:=y) (by rfl),List.filterMap_map]
   show _=y::l.filterMap id
   rw[←z7E l];rfl
theorem y4K {mask finger moves:Nat}{led:Bool}{hs:Array Int} (hm:Mk mask) (hn:hs.size≤mask):∃(t:SetTable) (order:Array Nat),laid mask finger moves led true hs=some (t,order)∧TOk t hs.size∧t.mask=mask∧t.led=led∧order.toList.Perm (List.range hs.size):=by
 obtain⟨out,e1,e2,e3⟩:=z5m hm hs.toList 0 (Array.replicate (mask+1) none) (by rw[Array.size_replicate]) (by rw[Array.toList_replicate,y6a];exact List.Perm.refl _) (by simpa using hn)
 have ec:layClean mask hs=some out:=by
  unfold layClean
  rw[←Array.foldl_toList,e1];rfl
 rw[Nat.zero_add,q1d] at e3
 have ho:(((List.range (mask+1)).filterMap fun j=>(out.getD j none).map (j,·)).map (·.2)).Perm (List.range hs.size):=by
  rw[List.map_filterMap]
  have:(List.range (mask+1)).filterMap (fun j=>((out.getD j none).map (j,·)).map (·.2))=(List.range out.toList.length).filterMap (fun j=>(out.toList[j]?).getD none):=by
   rw[q1d,e2]
   refine congrArg (fun f=>List.filterMap f _) (funext fun j=>?_)
   rw[q1b,Array.getElem?_toList]
   cases (out[j]?).getD none<;>rfl
  rw[this,z7E]
  exact e3
 have hp:∀l:List Nat,(l.filterMap fun j=>(out.getD j none).map (j,·)).map (·.1)=l.filter fun j=>(out.getD j none).isSome :=fun l=>by
  induction l with
  |nil=>rfl
  |cons a l ih=>
   rw[List.filter_cons]
   cases z:out.getD a none with
   |none=>rw[List.filterMap_cons_none (by rw[z];rfl),ih];rfl
   |some b=>rw[List.filterMap_cons_some (b:=(a,b)) (by rw[z];rfl),List.map_cons,ih];rfl
 refine⟨{mask,place:=((((List.range (mask+1)).filterMap fun j=>(out.getD j none).map (j,·)).map (·.1))).toArray,dummies:= #[],finger,led,moves,plain:=true},_,by unfold laid;rw[ec];rfl,⟨?_,?_,?_,rfl,rfl,hm,hn⟩,rfl,rfl,by rw[List.toList_toArray];exact ho⟩
 ·show (List.toArray _).size =_
  rw[q0h,q0b]
  have:=ho.length_eq
  rwa[q0b,q1n] at this
 ·show (List.toArray _).toList.Pairwise _
  rw[List.toList_toArray,hp]
  exact List.Pairwise.filter _ List.pairwise_lt_range
 ·intro j hj
  have hj':j∈((List.range (mask+1)).filter fun j=>(out.getD j none).isSome):=by rw[←hp];simpa using hj
  have:=q1s.mp (q1a.mp hj').1
  show j≤mask
  lia
theorem TOk.relaid {t:SetTable}{n:Nat} (h:TOk t n) (hs:Array Int) (hz:hs.size=n) (hw:n=5∧t.mask=7∨n=19∧t.mask=31):∃(t':SetTable) (order:Array Nat),t.relaid hs (grown n)=some (t',order)∧TOk t' n∧n*5<t'.mask*3∧t'.led=t.led∧order.toList.Perm (List.range n)∧sizeAbove (grown n)≤128:=by
 have key:∀mk,sizeAbove (grown n) - 1=mk→Mk mk→n*5<mk*3→sizeAbove (grown n)≤128→∃(t':SetTable) (order:Array Nat),t.relaid hs (grown n)=some (t',order)∧TOk t' n∧n*5<t'.mask*3∧t'.led=t.led∧order.toList.Perm (List.range n)∧sizeAbove (grown n)≤128:=fun mk e1 e2 e3 e4=>by
  obtain⟨t',order,a1,a2,a3,a4,a5⟩:=y4K (finger:=t.finger) (moves:=t.movedTo mk) (led:=t.led) (hs:=hs) e2 (by lia)
  rw[hz] at a2 a5
  refine⟨t',order,?_,a2,by rw[a3];exact e3,a4,a5,e4⟩
  unfold SetTable.relaid
  rw[e1,h.plain]
  exact a1
 rcases hw with⟨rfl,_⟩|⟨rfl,_⟩
 ·exact key 31 (by decide) (.inr (.inl rfl)) (by decide) (by decide)
 ·exact key 127 (by decide) (.inr (.inr rfl)) (by decide) (by decide)
theorem y1n {α:Type}:∀(l:List α) (i:Nat) (h:i<l.length),(l[i]::l.eraseIdx i).Perm l
 |a::l,0,_=>List.Perm.refl _
 |a::l,i+1,h=>(List.Perm.swap ..).trans ((y1n l i (by simpa using h)).cons a)
theorem y0o {α:Type} (next:Nat→Nat):∀fuel k (left:List α) (out:Array α),left.length≤fuel→(pickOrder.go next fuel k left out).toList.Perm (out.toList++left)
 |0,k,left,out,h=>by
  cases left with
  |nil=>simp[pickOrder.go]
  |cons a l=>simp at h
 |fuel+1,k,left,out,h=>by
  unfold pickOrder.go
  cases left with
  |nil=>simp
  |cons a l=>
   have hlt:next k%(a::l).length <(a::l).length :=Nat.mod_lt _ (by simp)
   rw[q0c hlt]
   dsimp only
   refine (y0o next fuel (k+1) _ _ (by rw[List.length_eraseIdx_of_lt hlt];simp at h ⊢;lia)).trans ?_
   rw[Array.toList_push,q1B]
   refine List.Perm.append_left _ ?_
   exact y1n _ _ hlt
theorem y0n {α:Type} (next:Nat→Nat) (xs:Array α):(pickOrder next xs).toList.Perm xs.toList:=by
 unfold pickOrder
 exact (y0o next _ _ _ _ (by simp)).trans (by simp)
end L2.St
set_option maxHeartbeats 1000000
namespace L2
open PySem PySem.Spec PyProof.Rows
section
variable {X:Cx}
theorem y2v:OpR X (binaryOp .Sub) (fun x y H Q=>∃i k,x= .bl i∧y= .bl k∧Q (.int (b2i i - b2i k)) H):=by
 intro pins s σ H x y v u Q I rx ry h
 obtain⟨i,k,rfl,rfl,q⟩:=h
 cases rx
 cases ry
 exact sub_bool ⟨.int (b2i i - b2i k),H,I.tok _,⟨_,rfl⟩,q⟩
end
namespace St
open PySem.SetTable
theorem slot_si_next:Slot "set_iterator" "__next__" "set_iterator.__next__":=
 .of (owner:="set_iterator") (n:="__next__") (by rw[typeLookup_type,builtinLookup_eq_fast];kernel_rfl) (by decide+kernel) (by decide+kernel) (by decide+kernel)
  (by first|exact .inl (by decide+kernel)|exact .inr (by decide+kernel)) (by rw[isSubtype_type];kernel_rfl)
theorem z3n:entryFor table "set_iterator.__next__"=some Builtin.«set_iterator.__next__»:=entryFor_of_tree (by kernel_rfl)
theorem z8e:Manifest.owners.lookup (String.ofList ['r','o','t','a','r','e','t','i','_','t','e','s'].reverse)=some Manifest.sig_set_iterator:=by kernel_rfl
theorem z3T (a:Value):argsOk "set_iterator.__next__" ⟨[a],[]⟩:=by
 unfold argsOk;rw[signature?_of (id:="set_iterator.__next__") (n:=['_','_','t','x','e','n','_','_']) (o:=['r','o','t','a','r','e','t','i','_','t','e','s']) (by kernel_rfl) z8e];kernel_rfl
theorem z4O:entryFor table "set.__iter__"=some Builtin.«frozenset.__iter__»:=
 entryFor_alias (id':="frozenset.__iter__") (by kernel_rfl) rfl (by decide+kernel) (by kernel_rfl)
section
variable {prog:Program}{w:World}{A:Around}{E:Value→Shared→Prop}{s:Shared}{S I a:Addr}{es:Array (Int×Value)}{ep i:Nat}{t:SetTable}{ks:List Int}
abbrev z1k (es:Array (Int×Value)) (ep:Nat) (t:SetTable):Obj:={cls:= .type "set",dict:=none,data:= .set es ep t}
def tH (ks:List Int):Int:=reduceHash (Builtin.Tuple.tupleHashOf (ks.map hashInt))
theorem y1g {Q:Bool→Shared→Prop} (hk:IsTupleKey (intKind prog w) s.heap ks a) (h:Q true s):wpAny (model prog w) A (hashByValue 8 (.ref a)) Q E s:=by
 have hT:=hk.typeIs
 obtain⟨o,items,n,ho,_,hd,hi⟩:=hk
 unfold hashByValue
 refine wpAny_bind (wpAny_specialOf hT F.slot_tuple_hash.lookup ?_)
 dsimp only
 refine wpAny_bind (wpAny_seqItems ho hd ?_)
 rw[Option.getD_some,←Array.forIn_toList]
 refine wpAny_bind (wpAny_forIn_list _ (fun rest (r:Option Bool×PUnit) s'=>r.1=none∧s'=s∧∃left,ItemsAre (intKind prog w) left rest) _ ?_ ?_ _ _ ⟨rfl,rfl,ks,hi⟩)
 ·rintro x rest r s' ⟨_,rfl,left,hl⟩
  cases hl with
  | @cons k _ ks' _ h1 hl'=>
    obtain⟨tk,rfl⟩:=Value.isInt_shape h1
    refine wpAny_bind (wpAny_pure ?_)
    exact wpAny_pure ⟨rfl,rfl,ks',hl'⟩
 ·rintro⟨r1,r2⟩ s' ⟨e,rfl,_⟩
  cases e
  exact wpAny_pure h
def SS (w:World) (h:Heap) (S:Addr) (ps:List (Int×Value)):Prop:=∃es ep t,h.get? S=some (z1k es ep t)∧TOk t es.size∧es.size*5<t.mask*3∧t.led= !w.params.followText "set-order"∧es.toList.Perm ps
theorem y1h {h:Heap}{es':Array (Int×Value)}{t':SetTable} (ho:h.get? S=some (z1k es ep t)):(h.update S (Obj.putSet es' t')).get? S=some (z1k es' (ep+1) t'):=by
 have:=Heap.get?_update_self (Obj.putSet es' t') ho (by rfl)
 exact this
theorem y2m {W n:Nat}{Q:Unit→Shared→Prop} (ho:s.heap.get? S=some (z1k es ep t)) (ok:TOk t n) (hn:es.size=n) (hw:n=5∧t.mask=7∨n=19∧t.mask=31) (hW:W=grown n)
 (q:∀es' t',TOk t' n→n*5<t'.mask*3→t'.led=t.led→es'.toList.Perm es.toList→Q () {s with heap:=s.heap.update S (Obj.putSet es' t')}):wpAny (model prog w) A (setRelay S W) Q E s:=by
 subst hW
 obtain⟨t',order,e1,ok',rm',led',pm,sz⟩:=ok.relaid (es.map (·.1)) (by rw[Array.size_map,hn]) hw
 have hfit:t.fits es.size=true:=by rw[hn];exact ok.fits
 unfold setRelay
 refine wpAny_bind (wpAny_setState_of ho rfl hfit ?_)
 dsimp only
 rw[if_neg (by rw[sizeLine_eq];lia)]
 have pe:(order.filterMap (es[·]?)).toList.Perm es.toList:=by
  rw[Array.toList_filterMap]
  refine (pm.filterMap _).trans ?_
  rw[←hn,filterMap_getElem?_range]
 refine wpAny_bind ?_
 show wpAny _ _ (do
  let some (t,order):=t.relaid (es.map (·.1)) (grown n)|unsupported "internal:set-table-without-room"
  let es':=order.filterMap (es[·]?)
  if es'.size != es.size then unsupported "internal:set-table-lost-an-element"
  pure (es',t)) _ _ _
 rw[e1]
 dsimp only
 have el:(order.filterMap (es[·]?)).size =es.size:=by rw[←q1d,pe.length_eq,q1d]
 rw[if_neg (by rw[el];simp)]
 refine wpAny_pure ?_
 refine wpAny_storeSet_of ho rfl (q _ _ ok' rm' led' pe) (by rw[el,hn,sizeLine_eq];lia)
theorem y1M {ps:List (Int×Value)}{Q:Bool→Shared→Prop} (hu:A.units<cLine) (hk:IsTupleKey (intKind prog w) s.heap ks a) (hS:SS w s.heap S ps) (hne:∀p∈ps,p.1≠tH ks) (hl:ps.length<64)
 (q:∀h' tk,Heap.SameBut S s.heap h'→s.toks≤tk→SS w h' S (ps++[(tH ks,.ref a)])→Q true {s with heap:=h',toks:=tk}):wpAny (model prog w) A (setAdd S (.ref a)) Q E s:=by
 obtain⟨es,ep,t,ho,ok,rm,led,pm⟩:=hS
 have zl:es.size=ps.length:=by have:=pm.length_eq;simpa using this
 unfold setAdd
 refine wpAny_holding (wpAny_bind (wpAny_pyHash_tuple hu hk ?_))
 show wpAny _ _ (setAddHashed S (.ref a) (tH ks)) _ _ _
 unfold setAddHashed setAddHashedIn
 refine wpAny_holding (wpAny_bind (wpAny_setState_of (s:={s with toks:=s.toks+(ks.length+1)}) ho rfl ok.fits ?_))
 dsimp only
 rw[show byScan (Value.ref a) es=false from rfl]
 simp only[Bool.false_eq_true,if_false]
 refine wpAny_bind ?_
 unfold setSearch setSearchFrom
 refine wpAny_bind (wpAny_setState_of (s:={s with toks:=s.toks+(ks.length+1)}) ho rfl ok.fits ?_)
 dsimp only
 rw[ok.odd]
 simp only[Bool.false_eq_true,if_false]
 obtain⟨j,ej,hj1,hj2⟩:=ok.probe (hashAt:=fun i=>((es[i]?).map (·.1)).getD 0) (k:=tH ks) (fun i hi=>by
  rw[q0F hi]
  exact hne _ (pm.mem_iff.mp (Array.getElem_mem_toList hi)))
 split
 ·rename_i met hm
  have em:met= .empty j none:=Option.some.inj (hm.symm.trans ej)
  subst em
  dsimp only
  refine wpAny_pure ?_
  dsimp only
  refine wpAny_bind (wpAny_setState_of (s:={s with toks:=s.toks+(ks.length+1)}) ho rfl ok.fits ?_)
  have hr:es.size+1≤t.mask:=by rcases ok.mm with e|e|e<;>rw[e] at rm ⊢ <;>lia
  obtain⟨ok1,em1,el1⟩:=ok.put hj1 hj2 hr
  dsimp only
  generalize t.put j=tp at*
  obtain⟨t1,p⟩:=tp
  dsimp only at*
  rw[ok1.plain]
  simp only[if_true]
  refine wpAny_bind (y1g (s:={s with toks:=s.toks+(ks.length+1)}) hk ?_)
  simp only[if_true]
  have hz:(insertAt es p (tH ks,Value.ref a)).size =es.size+1:=z8w _ _ _
  refine wpAny_bind (wpAny_storeSet_of (s:={s with toks:=s.toks+(ks.length+1)}) ho rfl ?_ (by rw[hz,sizeLine_eq];lia))
  have ho1:=y1h (es':=insertAt es p (tH ks,Value.ref a)) (t':=t1) ho
  have sb1:=Heap.SameBut.update s.heap S (Obj.putSet (insertAt es p (tH ks,Value.ref a)) t1)
  have pm1:(insertAt es p (tH ks,Value.ref a)).toList.Perm (ps++[(tH ks,Value.ref a)]):=(insertAt_perm _ _ _).trans (by rw[Array.toList_push];exact pm.append_right _)
  have ft:t1.tooFull=decide ((es.size+1)*5≥t1.mask*3):=by unfold tooFull SetTable.fill;rw[ok1.no,ok1.sz];rfl
  rw[ft]
  by_cases c:(es.size+1)*5≥t1.mask*3
  ·rw[decide_eq_true c]
   simp only[Bool.not_false,Bool.and_self,if_true]
   have hw:es.size+1=5∧t1.mask=7∨es.size+1=19∧t1.mask=31:=by
        rw[em1] at c ⊢
        rcases ok.mm with e|e|e<;>rw[e] at c rm ⊢ <;>lia
   refine wpAny_bind (y2m (n:=es.size+1) ho1 ok1 hz hw rfl fun es2 t2 ok2 rm2 led2 pm2=>?_)
   have ho2:=y1h (es':=es2) (t':=t2) ho1
   refine wpAny_pure (q _ _ (sb1.trans (Heap.SameBut.update _ S _)) (Nat.le_add_right _ _) ?_)
   have z2:es2.size=es.size+1:=by have:=pm2.length_eq;simp at this;lia
   exact⟨_,_,_,ho2,by rw[z2];exact ok2,by rw[z2];exact rm2,by rw[led2,el1,led],pm2.trans pm1⟩
  ·rw[decide_eq_false c]
   simp only[Bool.and_false,Bool.false_eq_true,if_false]
   exact wpAny_pure (q _ _ sb1 (Nat.le_add_right _ _) ⟨_,_,_,ho1,by rw[hz];exact ok1,by rw[hz];lia,by rw[el1,led],pm1⟩)
 ·rename_i hm
  exact absurd (show t.probe _ _ _=some _ from ej) (hm _)
end
end St
end L2
set_option maxHeartbeats 2000000
namespace L2
open PySem PySem.Spec PyProof.Rows
namespace St
open PySem.SetTable
theorem z3L:Slot "set_iterator" "__iter__" "set_iterator.__iter__":=
 .of (owner:="set_iterator") (n:="__iter__") (by rw[typeLookup_type,builtinLookup_eq_fast];kernel_rfl) (by decide+kernel) (by decide+kernel) (by decide+kernel)
  (by first|exact .inl (by decide+kernel)|exact .inr (by decide+kernel)) (by rw[isSubtype_type];kernel_rfl)
theorem z5R:entryFor table "set_iterator.__iter__"=some Builtin.«dict_keyiterator.__iter__»:=
 entryFor_alias (id':="dict_keyiterator.__iter__") (by kernel_rfl) rfl (by decide+kernel) (by kernel_rfl)
theorem z6V (a:Value):argsOk "set_iterator.__iter__" ⟨[a],[]⟩:=by
 unfold argsOk;rw[signature?_of (id:="set_iterator.__iter__") (n:=['_','_','r','e','t','i','_','_']) (o:=['r','o','t','a','r','e','t','i','_','t','e','s']) (by kernel_rfl) z8e];kernel_rfl
section
variable {prog:Program}{w:World}{A:Around}{E:Value→Shared→Prop}{s:Shared}{S I a:Addr}{es:Array (Int×Value)}{ep i:Nat}{t:SetTable}{ks:List Int}
def wk (w:World) (S ep:Nat) (es:Array (Int×Value)):Array (Int×Value):=if w.params.followText "set-order"=true then pickOrder (w.params.setOrder S ep) es else es
theorem wk_perm:(wk w S ep es).toList.Perm es.toList:=by
 unfold wk
 split
 ·exact y0n _ _
 ·exact List.Perm.refl _
theorem z5n:(wk w S ep es).size =es.size:=by
 have:=(wk_perm (w:=w) (S:=S) (ep:=ep) (es:=es)).length_eq
 simpa using this
def sl (w:World) (t:SetTable) (i:Nat):Nat:=if w.params.followText "set-order"=true then 0 else if i=0 then 0 else t.place.getD (i - 1) 0+1
theorem y3d {n:Nat} (ok:TOk t n) (bt:¬w.params.followText "set-order"=true) (hi:i≤n):below t.place (sl w t i)=i:=by
 unfold sl
 rw[if_neg bt]
 have mono:∀i k (hi':i<t.place.size) (hk:k<t.place.size),i<k→t.place[i]<t.place[k]:=fun i k h4 h5 hik=>
  q1f.mp ok.up i k (by simpa using h4) (by simpa using h5) hik
 split
 ·rename_i h0
  subst h0
  exact z5Z ok.up (q0S _) (fun i v h=>by lia) (fun i v h e=>q0S _)
 ·rename_i h0
  have hlt:i - 1<t.place.size:=by rw[ok.sz];lia
  rw[q1b,q0F hlt]
  show below t.place (t.place[i - 1]+1)=i
  refine z5Z ok.up (by rw[ok.sz];exact hi) (fun k v hk e=>?_) (fun k v hk e=>?_)
  ·obtain⟨h1,rfl⟩:=q0P.mp e
   rcases Nat.lt_or_ge k (i - 1) with z|z
   ·exact q0V (mono k (i - 1) h1 hlt z)
   ·have:k=i - 1:=by lia
    subst this;exact Nat.lt_succ_self _
  ·obtain⟨h1,rfl⟩:=q0P.mp e
   exact mono (i - 1) k hlt h1 (by lia)
theorem z7V {Q:Option (Value×Nat)→Shared→Prop} (hS:s.heap.get? S=some (z1k es ep t)) (ok:TOk t es.size) (led:t.led= !w.params.followText "set-order") (hi:i≤es.size)
 (q:Q (((wk w S ep es)[i]?).map fun e=>(e.2,sl w t (i+1))) s):wpAny (model prog w) A (setNext S (sl w t i) i ep) Q E s:=by
 unfold setNext
 refine wpAny_bind (wpAny_setState_of hS rfl ok.fits ?_)
 unfold setsByText
 refine wpAny_bind (wpAny_bind (wpAny_askSetting (wpAny_pure ?_)))
 by_cases bt:w.params.followText "set-order"=true
 ·show wpAny _ _ (ite (w.params.followText "set-order"=true) _ _) _ _ _
  rw[if_pos bt]
  rw[if_neg (by simp)]
  refine wpAny_bind ?_
  unfold setWalk
  refine wpAny_bind (wpAny_setState_of hS rfl ok.fits ?_)
  unfold setsByText
  refine wpAny_bind (wpAny_bind (wpAny_askSetting (wpAny_pure ?_)))
  show wpAny _ _ (ite (w.params.followText "set-order"=true) _ _) _ _ _
  rw[if_pos bt]
  refine wpAny_bind (wpAny_askSetting (wpAny_pure ?_))
  refine wpAny_pure ?_
  have e1:sl w t i=0:=by unfold sl;rw[if_pos bt]
  have e2:sl w t (i+1)=0:=by unfold sl;rw[if_pos bt]
  rw[e1]
  rw[e2] at q
  have ew:wk w S ep es=pickOrder (w.params.setOrder S ep) es:=by unfold wk;rw[if_pos bt]
  rw[ew] at q
  exact q
 ·show wpAny _ _ (ite (w.params.followText "set-order"=true) _ _) _ _ _
  rw[if_neg bt]
  split
  ·rename_i h
   exact absurd (show (!t.plain&&decide (es.size>1))=true from h) (by rw[ok.plain];simp)
  refine wpAny_bind ?_
  show wpAny _ _ (if (!t.led&& !es.isEmpty)=true then unsupported "set:maker-not-led" else pure ()) _ _ _
  rw[if_neg (by rw[led];simp[bt])]
  refine wpAny_pure ?_
  dsimp only
  rw[y3d ok bt hi]
  have ew:wk w S ep es=es:=by unfold wk;rw[if_neg bt]
  rw[ew] at q
  by_cases hlt:i<es.size
  ·have hlp:i<t.place.size:=by rw[ok.sz];exact hlt
   have e2:sl w t (i+1)=t.place[i]+1:=by
        unfold sl
        rw[if_neg bt,if_neg (by lia),Nat.add_sub_cancel,q1b,q0F hlp];rfl
   rw[q0F hlt,q0F hlp]
   rw[q0F hlt,e2] at q
   exact wpAny_pure q
  ·rw[Array.getElem?_eq_none (by lia)]
   rw[Array.getElem?_eq_none (by lia)] at q
   exact wpAny_pure q
abbrev z3v (w:World) (S ep:Nat) (n:Nat) (t:SetTable) (i:Nat):Obj:={cls:= .type "set_iterator",dict:=none,data:= .fields #[.int (sl w t i:Nat) 0,.int (i:Nat) 0,.ref S,.int (n:Nat) 0,.int (ep:Nat) 0],slots:= #[]}
theorem y4g {x:Int×Value}{Q:Option Value→Shared→Prop} (hI:s.heap.get? I=some (z3v w S ep es.size t i)) (hS:s.heap.get? S=some (z1k es ep t)) (ok:TOk t es.size) (led:t.led= !w.params.followText "set-order") (hx:(wk w S ep es)[i]? =some x)
 (q:∀h',h'.get? I=some (z3v w S ep es.size t (i+1))→Heap.SameBut I s.heap h'→Q (some x.2) {s with heap:=h'}):wpAny (model prog w) A (pyNext (.ref I)) Q E s:=by
 have hT:s.TypeIs (.ref I) "set_iterator":=⟨_,hI,rfl⟩
 have hi:i≤es.size:=by have:=(q0P.mp hx).1;rw[z5n] at this;lia
 unfold pyNext
 refine wpAny_bind (wpAny_attempt (wpAny_callSpecial?_slot (name:=Str.ofString "__next__") hT slot_si_next (wpAny_call_entry slot_si_next hT z3n ?_ (z3T _))))
 unfold Builtin.«set_iterator.__next__»
 refine wpAny_bind (wpAny_pure ?_)
 refine wpAny_bind (wpAny_fieldsOf hI rfl ?_)
 dsimp only
 refine wpAny_bind (wpAny_setEntries_of hS rfl ok.fits ?_)
 rw[if_neg (by simp)]
 rw[q0G,q0G,q0G]
 refine wpAny_bind (z7V hS ok led hi ?_)
 rw[hx]
 dsimp only[Option.map_some]
 refine wpAny_bind (wpAny_setField_rec hI (by simp) fun h1 e1 s1=>?_)
 refine wpAny_bind (wpAny_setField_rec e1 (by simp) fun h2 e2 s2=>?_)
 refine wpAny_pure ⟨_,rfl,wpAny_pure (q h2 ?_ (s1.trans s2))⟩
 rw[e2]
 rfl
theorem y5l {Q:Option Value→Shared→Prop} (hh:A.handled=none) (hI:s.heap.get? I=some (z3v w S ep es.size t es.size)) (hS:s.heap.get? S=some (z1k es ep t)) (ok:TOk t es.size) (led:t.led= !w.params.followText "set-order")
 (q:∀h',Heap.ExtBut I s.heap h'→Q none {s with heap:=h'}):wpAny (model prog w) A (pyNext (.ref I)) Q E s:=by
 have hT:s.TypeIs (.ref I) "set_iterator":=⟨_,hI,rfl⟩
 unfold pyNext
 refine wpAny_bind (wpAny_attempt (wpAny_callSpecial?_slot (name:=Str.ofString "__next__") hT slot_si_next (call_meetsIn slot_si_next hT z3n (z3T _) (S:=fun A R s=>wpAny (model prog w) A.in1 (Builtin.«set_iterator.__next__» {pos:=[Value.ref I]}) (fun fin s'=>
  match fin with
  |Fin.done f=>R (Except.ok f) s'
  |Fin.again c'=>c'.quiet=true∧codeAny (model prog w) A c' R s')
        (fun e s'=>R (Except.error e) s') s) (fun _ _ _ h=>h) ?_)))
 unfold Builtin.«set_iterator.__next__»
 refine wpAny_bind (wpAny_pure ?_)
 refine wpAny_bind (wpAny_fieldsOf hI rfl ?_)
 dsimp only
 refine wpAny_bind (wpAny_setEntries_of hS rfl ok.fits ?_)
 rw[if_neg (by simp)]
 rw[q0G,q0G,q0G]
 refine wpAny_bind (z7V hS ok led (q0e _) ?_)
 rw[Array.getElem?_eq_none (by rw[z5n];exact q0e _)]
 dsimp only[Option.map_none]
 refine wpAny_bind (wpAny_setField_rec hI (by simp) fun h1 e1 s1=>?_)
 refine wpAny_bind (y2b fun h' e kp ⟨oe,e1,e2⟩=>?_)
 refine wpAny_raiseNew_none hh ?_
 refine wpAny_bind (wpAny_isInstance (T:="StopIteration") ⟨oe,e1,e2⟩ (b:=true) (by with_unfolding_all rfl) ?_)
 rw[if_pos rfl]
 refine wpAny_pure ?_
 exact q _ fun b u hb e=>kp b u (s1.extBut b u hb e)
theorem z9G (hh:A.handled=none) (hne:S≠I) (ok:TOk t es.size) (led:t.led= !w.params.followText "set-order"):
 WalksS prog w A I [I,S] [I] (fun a b=>b=a) es.size (fun i v=>((wk w S ep es)[i]?).map (·.2)=some v) (fun i s=>s.heap.get? I=some (z3v w S ep es.size t i)∧s.heap.get? S=some (z1k es ep t)) where
 sub:=fun b hb=>by simp at hb;simp[hb]
 grefl:=fun _=>rfl
 gtrans:=fun _ _ _ h1 h2=>h2.trans h1
 frame:=fun i s h' tk st _ k=>⟨k I (by simp) _ st.1,k S (by simp) _ st.2⟩
 item:=fun i s Q E hi st hQ=>by
  have hx:(wk w S ep es)[i]? =some ((wk w S ep es)[i]'(by rw[z5n];exact hi)):=q0F _
  refine y4g st.1 st.2 ok led hx fun h' e1 s1=>?_
  exact hQ _ _ (by rw[hx];rfl) ⟨e1,s1.extBut S _ hne st.2⟩ ⟨fun b o hb e=>s1.extBut b o (fun z=>hb (by simp[z])) e,rfl,rfl,rfl,q0e _⟩
 done:=fun s Q E st hQ=>y5l hh st.1 st.2 ok led fun h' k=>hQ _ ⟨fun b o hb e=>k b o (fun z=>hb (by simp[z])) e,rfl,rfl,rfl,q0e _⟩
 self:=fun i s Q E st hQ=>by
  have hT:s.TypeIs (.ref I) "set_iterator":=⟨_,st.1,rfl⟩
  refine wpAny_pyIter_slot hT z3L (wpAny_call_entry z3L hT z5R ?_ (z6V _))
  show wpAny _ _ (ret (.ref I)) _ _ s
  exact wpAny_pure ⟨_,rfl,"set_iterator",_,hT,slot_si_next.lookup,hQ⟩
theorem y2g {Q:Value→Shared→Prop} (hS:s.heap.get? S=some (z1k es ep t)) (ok:TOk t es.size) (led:t.led= !w.params.followText "set-order")
 (q:Q (.ref s.heap.objs.size) {s with heap:=s.heap.push (z3v w S ep es.size t 0)}):wpAny (model prog w) A (pyIter (.ref S)) Q E s:=by
 have hT:s.TypeIs (.ref S) "set":=⟨_,hS,rfl⟩
 refine wpAny_pyIter_slot hT F.slot_set_iter (wpAny_call_entry F.slot_set_iter hT z4O ?_ (F.args_set_iter_1 _))
 unfold Builtin.«frozenset.__iter__» Builtin.Frozenset.slot0 slotArgs
 simp only[List.isEmpty_nil,Bool.not_true,Bool.false_eq_true,↓reduceIte,bind_assoc,List.length_nil,bne_self_eq_false]
 unfold Builtin.Frozenset.addrOf Builtin.Frozenset.sizeOf
 refine wpAny_bind (wpAny_pure ?_)
 dsimp only
 refine wpAny_bind (wpAny_pure ?_)
 refine wpAny_bind (wpAny_bind (wpAny_setEntries_of hS rfl ok.fits (wpAny_pure ?_)))
 refine wpAny_bind ?_
 unfold setDrawn
 refine wpAny_bind (wpAny_setState_of hS rfl ok.fits ?_)
 unfold setsByText
 refine wpAny_bind (wpAny_bind (wpAny_askSetting (wpAny_pure ?_)))
 refine wpAny_pure ?_
 split
 ·rename_i h
  exact absurd (show (!w.params.followText "set-order"&&(!t.plain&&decide (es.size>1)))=true from h) (by rw[ok.plain];simp)
 refine wpAny_bind (wpAny_pure ?_)
 refine wpAny_bind (wpAny_setEpoch_of hS rfl ok.fits ?_)
 unfold newFields
 refine wpAny_bind (wpAny_newObj_type ?_)
 refine wpAny_pure ⟨_,rfl,"set_iterator",_,⟨_,q0q _ rfl,rfl⟩,slot_si_next.lookup,?_⟩
 have e0:sl w t 0=0:=by unfold sl;split<;>rfl
 have:=q
 unfold z3v at this
 rw[e0] at this
 exact this
theorem collect_set {Q:List Value→Shared→Prop} (hh:A.handled=none) (hS:s.heap.get? S=some (z1k es ep t)) (ok:TOk t es.size) (led:t.led= !w.params.followText "set-order") (hz:es.size≤sizeLine)
 (q:∀h' tk,(∀b o,s.heap.get? b=some o→h'.get? b=some o)→Q ((wk w S ep es).toList.map (·.2)) {s with heap:=h',toks:=tk}):wpAny (model prog w) A (collect (.ref S)) Q E s:=by
 have hlt:S<s.heap.objs.size:=q0p hS
 unfold collect
 refine wpAny_bind (wpAny_runValue (codeAny_builtin F.entry_proto_collect ?_))
 rw[Around.under_plainId F.plain_proto_collect _]
 show wpAny _ A.in1 (newList []>>= fun l=>again (.builtin "list.__iadd__" ⟨[l,.ref S],[]⟩)) _ _ s
 refine wpAny_bind (wpAny_newObj_type ?_)
 refine wpAny_pure ⟨plainId_quiet F.plain_list_iadd _,codeAny_builtin F.entry_list_iadd ?_⟩
 rw[Around.under_plainId F.plain_list_iadd _]
 have hL1:(s.heap.push {cls:= .type "list",data:= .seq ([]:List Value).toArray}).get? s.heap.objs.size=some {cls:= .type "list",data:= .seq ([]:List Value).toArray}:=q0q _ rfl
 have hS1:(s.heap.push {cls:= .type "list",data:= .seq ([]:List Value).toArray}).get? S=some (z1k es ep t):=q0d _ hS
 have keep1:∀b o,s.heap.get? b=some o→(s.heap.push {cls:= .type "list",data:= .seq ([]:List Value).toArray}).get? b=some o:=fun b o e=>q0d _ e
 have z1:(s.heap.push {cls:= .type "list",data:= .seq ([]:List Value).toArray}).objs.size =s.heap.objs.size+1:=q1z ..
 show wpAny _ A.in1 (Builtin.List.listExtendWith (.ref s.heap.objs.size) (.ref S) (.ref s.heap.objs.size)) _ _ {s with heap:=s.heap.push {cls:= .type "list",data:= .seq ([]:List Value).toArray}}
 generalize s.heap.push {cls:= .type "list",data:= .seq ([]:List Value).toArray}=h1 at*
 unfold Builtin.List.listExtendWith
 have hT1:Shared.TypeIs {s with heap:=h1} (.ref S) "set":=⟨_,hS1,rfl⟩
 refine wpAny_bind (wpAny_typeOf hT1 ?_)
 have e1:Builtin.List.listSameRef (.ref s.heap.objs.size) (.ref S)=false:=by simp[Builtin.List.listSameRef,Nat.ne_of_gt hlt]
 rw[if_neg (by rw[e1];decide)]
 refine wpAny_bind (y2g (s:={s with heap:=h1}) hS1 ok led ?_)
 have hS2:(h1.push (z3v w S ep es.size t 0)).get? S=some (z1k es ep t):=q0d _ hS1
 have hI2:(h1.push (z3v w S ep es.size t 0)).get? h1.objs.size=some (z3v w S ep es.size t 0):=q0q _ rfl
 have hL2:(h1.push (z3v w S ep es.size t 0)).get? s.heap.objs.size=some {cls:= .type "list",data:= .seq ([]:List Value).toArray}:=q0d _ hL1
 have keep2:∀b o,s.heap.get? b=some o→(h1.push (z3v w S ep es.size t 0)).get? b=some o:=fun b o e=>q0d _ (keep1 b o e)
 show wpAny _ A.in1 _ _ _ {s with heap:=h1.push (z3v w S ep es.size t 0)}
 dsimp only
 generalize h1.push (z3v w S ep es.size t 0)=h2 at*
 have hT2:Shared.TypeIs {s with heap:=h2} (.ref S) "set":=⟨_,hS2,rfl⟩
 refine wpAny_bind (wpAny_holding ?_)
 unfold Builtin.List.listLengthHint
 refine wpAny_bind (wpAny_specialOf hT2 F.slot_set_len.lookup ?_)
 generalize hid:("set.__len__":String)=id0
 (fail_if_success (clear hid id0))
 wp_delta
 rw[show splitId id0=some ("set","__len__") from by subst hid;decide+kernel]
 subst hid
 refine wpAny_bind (wpAny_isInstance (b:=true) hT2 (by rw[isSubtype_type];kernel_rfl) ?_)
 rw[if_neg (by decide)]
 show wpAny _ _ (@ite (Sem Bool) _ _ _ _) _ _ _
 split
 ·refine wpAny_bind (wpAny_typeOf hT2 ?_)
  refine wpAny_pure ?_
  show wpAny _ _ (@ite (Sem Fin) _ _ _ _) _ _ _
  split
  ·refine wpAny_bind (wpAny_rule ?_)
   refine wpAny_bind ?_
   show wpAny _ A.in1 (updateSeq s.heap.objs.size (·.push .none)>>= fun _=>updateSeq s.heap.objs.size (·.pop)) _ _ _
   refine wpAny_bind (wpAny_updateSeq hL2 rfl ?_)
   have hL3:=Heap.get?_update_self (Obj.mapSeq (·.push Value.none)) hL2 rfl
   refine wpAny_updateSeq hL3 rfl ?_
   have hL4:=Heap.get?_update_self (Obj.mapSeq (·.pop)) hL3 rfl
   have oth:∀b o,b≠s.heap.objs.size→h2.get? b=some o→((h2.update s.heap.objs.size (Obj.mapSeq (·.push Value.none))).update s.heap.objs.size (Obj.mapSeq (·.pop))).get? b=some o:=
        fun b o hb e=>(q1F _ _ (Ne.symm hb)).trans ((q1F _ _ (Ne.symm hb)).trans e)
   have zI:h1.objs.size≠s.heap.objs.size:=by rw[z1];exact Nat.ne_of_gt (Nat.lt_succ_self _)
   have hSL:S≠s.heap.objs.size:=q0r hlt
   have hSI:S≠h1.objs.size:=by rw[z1];exact q0r (q0V hlt)
   have hLf:s.heap.objs.size∉[h1.objs.size,S]:=by
        simp only[q0l,q0g,q1k,or_false,not_or]
        exact⟨Ne.symm zI,Ne.symm hSL⟩
   refine wpAny_pure ⟨plainId_quiet F.plain_extend_loop _,codeAny_extend_loopS (z9G (prog:=prog) (w:=w) (A:=A.in1) (S:=S) (I:=h1.objs.size) (ep:=ep) (by simp[hh]) hSI ok led) hz _ hLf _ es.size 0 _ _ _ (Nat.sub_zero _) (q0S _)
        ⟨oth _ _ zI hI2,oth _ _ hSL hS2⟩ hL4 (ItemsOf.nil _) fun s' acc' c' hm hL' hacc=>?_⟩
   show wpAny _ A (load s.heap.objs.size>>= _) _ _ s'
   refine wpAny_bind (wpAny_load hL' ?_)
   refine wpAny_pure ?_
   obtain⟨h',g',d',tk',os'⟩:=s'
   have eg:g'=s.gens:=hm.gens
   have ed:d'=s.drawn:=hm.drawn
   have eo:os'=s.os:=hm.os
   subst eg;subst ed;subst eo
   have ea:acc'.toList=(wk w S ep es).toList.map (·.2):=by
        refine List.ext_getElem? fun k=>?_
        rw[Array.getElem?_toList,q0k,Array.getElem?_toList]
        cases e:acc'[k]? with
        |some v=>exact (hacc.2 k v e).symm
        |none=>
         have:(wk w S ep es).size ≤k:=by rw[z5n,←hacc.1];exact Array.getElem?_eq_none_iff.mp e
         rw[Array.getElem?_eq_none this];rfl
   have:=q h' tk' (fun b o e=>?_)
   ·rw[←ea] at this
    exact this
   ·have hb:b<s.heap.objs.size:=q0p e
    refine hm.heap b o ?_ (oth b o (q0r hb) (keep2 b o e))
    simp only[q0l,q0g,q1k,or_false,not_or]
    exact⟨q0r hb,by rw[z1];exact q0r (q0V hb)⟩
  ·rename_i h
   exact absurd (by decide+kernel) h
 ·rename_i h
  exact absurd (by decide+kernel) h
theorem z5L {h h':Heap} (x:IsTupleKey (intKind prog w) h ks a) (k:∀o,h.get? a=some o→h'.get? a=some o):IsTupleKey (intKind prog w) h' ks a:=by
 obtain⟨o,items,n,ho,r⟩:=x
 exact⟨o,items,n,k _ ho,r⟩
theorem SS.keep {h h':Heap}{ps:List (Int×Value)} (x:SS w h S ps) (k:∀o,h.get? S=some o→h'.get? S=some o):SS w h' S ps:=by
 obtain⟨es,ep,t,ho,r⟩:=x
 exact⟨es,ep,t,k _ ho,r⟩
def psL (kss:List (List Int)) (as:List Addr):List (Int×Value):=List.zipWith (fun ks a=>(tH ks,Value.ref a)) kss as
theorem y1X {R:Result→Shared→Prop}{fp wr:List Addr}{G:Array GenState→Array GenState→Prop}{P:Nat→Value→Prop}{Stt:Nat→Shared→Prop}{as:List Addr}{kss:List (List Int)}
 (W:WalksS prog w A.in1 I fp wr G as.length P Stt) (hSf:S∉fp) (hval:∀i v,P i v→∃a,as[i]? =some a∧v= .ref a) (hu:A.units+8<cLine) (hle:as.length=kss.length) (hap:(kss.map tH).Nodup) (h64:as.length<64) (hne:∀a∈as,a≠S∧a∉wr):
 ∀(k i:Nat) (s:Shared),as.length - i=k→i≤as.length→Stt i s→(∀(i:Nat) (a:Addr) (ks:List Int),as[i]? =some a→kss[i]? =some ks→IsTupleKey (intKind prog w) s.heap ks a)→SS w s.heap S ((psL kss as).take i)→
  (∀s',Moved (S::wr) G s s'→SS w s'.heap S (psL kss as)→R (.ok (.ret .none)) s')→
  codeAny (model prog w) A (.builtin "set.update.loop" ⟨[.ref S,.ref I],[]⟩) R s:=by
 have hSw:S∉wr:=fun h=>hSf (W.sub _ h)
 have hsub:∀b∈wr,b∈S::wr:=fun b hb=>q0i _ hb
 have pl:(psL kss as).length =as.length:=by unfold psL;rw[List.length_zipWith,hle,Nat.min_self]
 intro k
 induction k with
 |zero=>
  intro i s hk hi hst hkey hS hR
  have hin:i=as.length:=by lia
  subst hin
  rw[←pl,q0R] at hS
  refine codeAny_builtin PyProof.Rows.F.entry_set_update_loop ?_
  rw[Around.under_plainId PyProof.Rows.F.plain_set_update_loop _]
  show wpAny _ A.in1 (pyNext (.ref I)>>= _) _ _ s
  refine wpAny_bind (W.done s _ _ hst fun s' hm=>?_)
  show wpAny _ A.in1 (ret Value.none) _ _ s'
  exact wpAny_pure (hR s' (hm.mono hsub) (hS.keep fun o e=>hm.heap S o hSw e))
 |succ k ih=>
  intro i s hk hi hst hkey hS hR
  have hlt:i<as.length:=by lia
  have hlt2:i<kss.length:=by lia
  refine codeAny_builtin PyProof.Rows.F.entry_set_update_loop ?_
  rw[Around.under_plainId PyProof.Rows.F.plain_set_update_loop _]
  show wpAny _ A.in1 (pyNext (.ref I)>>= _) _ _ s
  refine wpAny_bind (W.item i s _ _ hlt hst fun v s' hP hst' hm=>?_)
  obtain⟨a,ha,rfl⟩:=hval i v hP
  have hkey':∀(i:Nat) (a:Addr) (ks:List Int),as[i]? =some a→kss[i]? =some ks→IsTupleKey (intKind prog w) s'.heap ks a:=fun i a ks e1 e2=>z5L (hkey i a ks e1 e2) fun o e=>hm.heap a o (hne a (q0u e1)).2 e
  have hS':=hS.keep (h':=s'.heap) fun o e=>hm.heap S o hSw e
  show wpAny _ A.in1 (holding [Value.ref a] (setAdd S (.ref a))>>= _) _ _ s'
  have hps:(psL kss as).take (i+1)=(psL kss as).take i++[(tH kss[i],Value.ref a)]:=by
   have e1:(psL kss as)[i]? =some (tH kss[i],Value.ref a):=by
        unfold psL
        rw[List.getElem?_zipWith,q0c hlt2,ha]
   rw[q0Q,e1];rfl
  refine wpAny_bind (wpAny_holding (y1M (A:=A.in1) (ks:=kss[i]) (by show A.units+1<cLine;lia) (hkey' i a _ ha (q0c hlt2)) hS' (fun p hp z=>?_) (by rw[q0n];lia) fun h' tk sb htk hS2=>?_))
  ·obtain⟨j,hj,rfl⟩:=q0v.mp hp
   rw[q0n,pl] at hj
   rw[List.getElem_take] at z
   have ej:(psL kss as)[j]'(by rw[pl];lia)=(tH (kss[j]'(by lia)),Value.ref (as[j]'(by lia))):=by unfold psL;rw[List.getElem_zipWith]
   rw[ej] at z
   exact q1f.mp hap j i (by rw[q0b];lia) (by rw[q0b];lia) (by lia) (by rw[q1h,q1h];exact z)
  ·rw[←hps] at hS2
   refine wpAny_pure ⟨plainId_quiet PyProof.Rows.F.plain_set_update_loop _,ih (i+1) _ (by lia) hlt (W.frame _ s' _ _ hst' htk fun b hb o e=>?_) (fun i a ks e1 e2=>z5L (hkey' i a ks e1 e2) fun o e=>?_) hS2 fun s'' hm'' hS''=>?_⟩
   ·rw[sb.2 b (fun h:b=S=>hSf (by rw[←h];exact hb))];exact e
   ·rw[sb.2 a (hne a (q0u e1)).1];exact e
   ·refine hR s'' (Moved.trans W.gtrans ((hm.mono hsub).then_heap htk fun b o hb e=>?_) hm'') hS''
    rw[sb.2 b (fun h:b=S=>hb (by rw[h];exact q0j))];exact e
theorem y4k (a:Value) {Q₁:Value→Shared→Prop}
 (h:Q₁ (.ref s.heap.objs.size) {s with heap:=s.heap.push (z1k #[] 0 (.fresh 0 0 (!w.params.followText "set-order")))}):
 codeAny (model prog w) A (.call (.builtin "set.__new__") ⟨[.type "set",a],[]⟩) (wants Q₁ E) s:=by
 refine codeAny_of_tree ?_
 show wpAny _ A.in1 (do checkBuiltinCall "set.__new__" ⟨[.type "set",a],[]⟩;again (.builtin "set.__new__" ⟨[.type "set",a],[]⟩)) _ _ s
 refine wpAny_bind (wpAny_of_eq (PySem.F.newCall_set_1 a) (wpAny_pure ⟨plainId_quiet F.plain_set_new _,codeAny_builtin F.entry_set_new ?_⟩))
 rw[Around.under_plainId F.plain_set_new _]
 unfold Builtin.«set.__new__» Builtin.Frozenset.newClass
 have hsub:=sub_set_self
 obtain⟨hp,g,d,tk,os⟩:=s
 dsimp only
 wp_walk
 refine wpAny_askSetting (wpAny_pure ?_)
 dsimp only
 simp only[newObj]
 refine wpAny_bind (wpAny_alloc (wpAny_pure ?_))
 exact wpAny_pure h
theorem y2S (led:Bool):TOk (.fresh 0 0 led) 0:=⟨rfl,List.Pairwise.nil,fun j hj=>absurd (show j∈([]:List Nat) from hj) (by simp),rfl,rfl,.inl rfl,q0S _⟩
set_option maxHeartbeats 3200000 in
theorem call_set {l:Addr}{as:List Addr}{kss:List (List Int)}{Q:Value→Shared→Prop} (hh:A.handled=none) (hu:A.units+16<cLine) (hl:s.heap.IsList l (as.map Value.ref).toArray) (hle:as.length=kss.length)
 (hkey:∀(i:Nat) (a:Addr) (ks:List Int),as[i]? =some a→kss[i]? =some ks→IsTupleKey (intKind prog w) s.heap ks a) (hap:(kss.map tH).Nodup) (h64:as.length<64)
 (h:∀(h':Heap) (tk:Nat),SS w h' s.heap.objs.size (psL kss as)→(∀b o,s.heap.get? b=some o→h'.get? b=some o)→Q (.ref s.heap.objs.size) {s with heap:=h',toks:=tk}):
 wpAny (model prog w) A (call (.type "set") [.ref l]) Q E s:=by
 obtain⟨c,tl,hmro⟩:=F.called_set.mro
 have hmade:=F.called_set.made
 have hsub:=F.called_set.sub
 refine wpAny_call (codeAny_of_tree ?_)
 show wpAny _ _ (callAny (.type "set") _) _ _ _
 refine wpAny_pure ⟨Code.quiet_builtin _ (by decide+kernel),codeAny_builtin F.entry_type_call ?_⟩
 rw[Around.under_plain (weight_type_call_type "set" [.ref l] []) rfl]
 have h1:=F.called_set.notType
 have h2:=F.called_set.canCreate
 have hct:=PySem.F.typeCall_set_1 (.ref l)
 repeat (any_goals (first|assumption|wp_step))
 refine codeAny_mono (y4k (.ref l) (E:=E) (Q₁:=fun obj s₁=>obj= .ref s.heap.objs.size∧s₁={s with heap:=s.heap.push (z1k #[] 0 (.fresh 0 0 (!w.params.followText "set-order")))}) ⟨rfl,rfl⟩) fun r s₁ hr=>?_
 cases r with
 |error e=>exact hr
 |ok fl=>
  cases fl with
  |ret obj=>
   obtain⟨rfl,rfl⟩:=hr
   have hS:(s.heap.push (z1k #[] 0 (.fresh 0 0 (!w.params.followText "set-order")))).get? s.heap.objs.size=some (z1k #[] 0 (.fresh 0 0 (!w.params.followText "set-order"))):=q0q _ rfl
   have hk0:∀b o,s.heap.get? b=some o→(s.heap.push (z1k #[] 0 (.fresh 0 0 (!w.params.followText "set-order")))).get? b=some o:=fun b o e=>q0d _ e
   have hz0:(s.heap.push (z1k #[] 0 (.fresh 0 0 (!w.params.followText "set-order")))).objs.size =s.heap.objs.size+1:=q1z ..
   generalize s.heap.push (z1k #[] 0 (.fresh 0 0 (!w.params.followText "set-order")))=h0 at*
   have hT:Shared.TypeIs {s with heap:=h0} (.ref s.heap.objs.size) "set":=⟨_,hS,rfl⟩
   have hli:=F.called_set.init.lookup
   have hbi:=F.called_set.init.bind (.ref s.heap.objs.size)
   repeat (any_goals (first|assumption|wp_step))
   refine codeAny_mono (codeAny_call_builtin (R:=wants (fun r s₂=>r= .none ∧∃h' tk,s₂={s with heap:=h',toks:=tk}∧SS w h' s.heap.objs.size (psL kss as)∧
       (∀b o,s.heap.get? b=some o→h'.get? b=some o)) E) F.called_set.init.plain F.entry_set_init (check_set_init_1 hT ?_)) fun r₂ s₂ hr₂=>?_
   ·obtain⟨ol,hol,hcl,nl,hdl⟩:=hl
    obtain⟨ocls,odict,odata,oslots⟩:=ol
    simp only at hcl hdl
    subst hcl;subst hdl
    have hol':=hk0 _ _ hol
    have hsls:=PySem.F.sub_list_set
    have hslf:=PySem.F.sub_list_frozenset
    have hne:(Value.type "list"==Value.type "dict")=false:=by decide
    have hl1:h0.IsList l (as.map Value.ref).toArray :=⟨_,hol',rfl,nl,rfl⟩
    unfold Builtin.«set.__init__» noKeywords Builtin.Frozenset.updateFrom
    generalize hPI:pyIter=PI
    wp_walk
    subst hPI
    refine wpAny_pyIter_list hl1 ?_
    refine wpAny_bind (wpAny_runValue ?_)
    have hlS:l<s.heap.objs.size:=q0p hol
    have hh3:A.in1.in1.in1.handled=none:=by simp[hh]
    have hneI:l≠h0.objs.size:=by rw[hz0];exact q0r (q0V hlS)
    have hSf:s.heap.objs.size∉[h0.objs.size,l]:=by
       rw[hz0];simp only[q0l,q0g,q1k,or_false,not_or]
       exact⟨q0r (Nat.lt_succ_self _),Nat.ne_of_gt hlS⟩
    have hsz:(as.map Value.ref).toArray.size =as.length:=by simp
    have W0:=(Walks.list (prog:=prog) (w:=w) hh3 h0.objs.size l hneI (as.map Value.ref).toArray).toS
    rw[hsz] at W0
    have alt:∀a∈as,a<s.heap.objs.size:=fun a ha=>by
       obtain⟨i,hi,rfl⟩:=q0v.mp ha
       obtain⟨o,_,_,e,_⟩:=hkey i _ _ (q0c hi) (q0c (show i<kss.length by lia))
       exact q0p e
    refine y1X W0 hSf (fun i v hv=>?_) (by show A.units+1+1+8<cLine;lia) hle hap h64 (fun a ha=>⟨q0r (alt a ha),?_⟩) (as.length - 0) 0 _ rfl (q0S _)
       ⟨⟨_,q0q _ rfl,rfl,rfl⟩,(hl1.push _)⟩ (fun i a ks e1 e2=>z5L (hkey i a ks e1 e2) fun o e=>q0d _ (hk0 a o e)) ?hS0 ?hR
    ·have hv':(as.map Value.ref)[i]? =some v:=by simpa using hv
     rw[q0k] at hv'
     obtain⟨a,e1,e2⟩:=q0A.mp hv'
     exact⟨a,e1,e2.symm⟩
    ·rw[hz0,q0g];exact q0r (q0V (alt a ha))
    case hS0=>
       exact⟨#[],0,_,q0d _ hS,y2S _,(by show 0*5<7*3;decide),rfl,List.Perm.refl _⟩
    case hR=>
       intro s' hm hS'
       obtain⟨h',g',d',tk',os'⟩:=s'
       have eg:g'=s.gens:=hm.gens
       have ed:d'=s.drawn:=hm.drawn
       have eo:os'=s.os:=hm.os
       subst eg;subst ed;subst eo
       show wpAny _ _ _ _ _ _
       refine wpAny_pure ?_
       show wpAny _ _ (ret Value.none) _ _ _
       refine wpAny_pure ⟨rfl,h',tk',rfl,hS',fun b o e=>?_⟩
       have hb:=q0p e
       exact hm.heap b o (by rw[hz0];simp only[q0l,q0g,q1k,or_false,not_or];exact⟨q0r hb,q0r (q0V hb)⟩) (q0d _ (hk0 b o e))
   ·cases r₂ with
    |error e=>exact hr₂
    |ok fl₂=>
     cases fl₂ with
     |ret r=>
      obtain⟨rfl,h',tk,rfl,hS',hk'⟩:=hr₂
      repeat (any_goals (first|assumption|wp_step))
      exact h _ _ hS' hk'
     |_=>exact hr₂.elim
  |_=>exact hr.elim
end
end St
end L2
set_option maxHeartbeats 4000000
namespace L2
namespace Srt
open PyProof.Rows
open PySem.W (KasT kas_sort kas_count kas_bin kas_place kas_descPart kas_tail3 kas_desc kas_asc kas_rev)
structure Ord (c:Nat→Nat→Bool):Prop where
 asym:∀i j,c i j=true→c j i=false
 neg:∀i j k,c i j=false→c j k=false→c i k=false
def at0 (p:Array Nat) (i:Nat):Nat:=p.getD i 0
theorem z3S {p:Array Nat}{i:Nat}:at0 p i=(p[i]?).getD 0:=by unfold at0;rw[Array.getD_eq_getD_getElem?]
def Up (c:Nat→Nat→Bool) (p:Array Nat) (k:Nat):Prop:=∀i j,i≤j→j<k→c (at0 p j) (at0 p i)=false
def Dn (c:Nat→Nat→Bool) (p:Array Nat) (k:Nat):Prop:=∀i j,i≤j→j<k→c (at0 p i) (at0 p j)=false
theorem z6U {p:Array Nat}{src d:Nat} (hs:src<p.size) (hd:d≤src) (k:Nat):at0 (bubble p src d) k=if k=src - d then at0 p src else if src - d<k∧k≤src then at0 p (k - 1) else at0 p k:=by
 have e:=getElem?_bubble hs d hd k
 rw[z3S]
 by_cases h1:k=src - d
 ·rw[if_pos h1] at e ⊢;rw[z3S,e]
 ·rw[if_neg h1] at e ⊢
  by_cases h2:src - d<k∧k≤src
  ·rw[if_pos h2] at e ⊢;rw[z3S,e]
  ·rw[if_neg h2] at e ⊢;rw[z3S,e]
theorem z3R {p:Array Nat}{i j:Nat} (hj:j≤p.size) (k:Nat):at0 (kas_rev p i j) k=if i≤k∧k<j then at0 p (i+j - 1 - k) else at0 p k:=by
 have e:=getElem?_mirror_all (i:=i) hj k
 rw[z3S]
 unfold kas_rev
 by_cases h1:i≤k∧k<j
 ·rw[if_pos h1] at e ⊢;rw[z3S,e]
 ·rw[if_neg h1] at e ⊢;rw[z3S,e]
section
variable {c:Nat→Nat→Bool} (O:Ord c)
include O
theorem Ord.irr (i:Nat):c i i=false:=by
 cases h:c i i with
 |false=>rfl
 |true=>have:=O.asym i i h;rw[h] at this;exact this
theorem Up.of {p:Array Nat}{k:Nat} (h:∀i,1≤i→i<k→c (at0 p i) (at0 p (i - 1))=false):Up c p k:=by
 intro i j hij hj
 obtain⟨d,rfl⟩:∃d,j=i+d:=⟨j - i,by lia⟩
 induction d with
 |zero=>exact O.irr _
 |succ d ih=>
  have h1:=h (i+(d+1)) (by lia) hj
  exact O.neg _ _ _ h1 (ih (by lia) (by lia))
theorem Up.step {p:Array Nat}{k:Nat} (h:Up c p k) (hk:0<k→c (at0 p k) (at0 p (k - 1))=false):Up c p (k+1):=by
 refine Up.of O fun i h1 h2=>?_
 by_cases e:i=k
 ·subst e;exact hk (by lia)
 ·exact h (i - 1) i (by lia) (by lia)
theorem Dn.of {p:Array Nat}{k:Nat} (h:∀i,1≤i→i<k→c (at0 p (i - 1)) (at0 p i)=false):Dn c p k:=by
 intro i j hij hj
 obtain⟨d,rfl⟩:∃d,j=i+d:=⟨j - i,by lia⟩
 induction d with
 |zero=>exact O.irr _
 |succ d ih=>exact O.neg _ _ _ (ih (by lia) (by lia)) (h (i+(d+1)) (by lia) hj)
theorem Dn.step {p:Array Nat}{k:Nat} (h:Dn c p k) (hk:0<k→c (at0 p (k - 1)) (at0 p k)=false):Dn c p (k+1):=by
 refine Dn.of O fun i h1 h2=>?_
 by_cases e:i=k
 ·subst e;exact hk (by lia)
 ·exact h (i - 1) i (by lia) (by lia)
omit O in
theorem Dn.rev {p:Array Nat}{k:Nat} (h:Dn c p k) (hk:k≤p.size):Up c (kas_rev p 0 k) k:=by
 intro i j hij hj
 rw[z3R hk,z3R hk,if_pos (by lia),if_pos (by lia)]
 exact h _ _ (by lia) (by lia)
theorem z7n (p:Array Nat):∀f a,1≤a→Up c p a→a≤z1j c (kas_asc p f a)∧z1j c (kas_asc p f a)≤a+f∧Up c p (z1j c (kas_asc p f a))∧(z1j c (kas_asc p f a)<a+f→c (at0 p (z1j c (kas_asc p f a))) (at0 p (z1j c (kas_asc p f a) - 1))=true)
 |0,a,_,h=>⟨Nat.le_refl _,Nat.le_refl _,h,fun z=>absurd z (Nat.lt_irrefl _)⟩
 |f+1,a,ha,h=>by
  rw[kas_asc,z1j]
  cases e:c (p.getD a 0) (p.getD (a - 1) 0) with
  |true=>
   rw[if_pos rfl,z1j]
   exact⟨q0e _,by lia,h,fun _=>e⟩
  |false=>
   rw[if_neg (by decide)]
   obtain⟨h1,h2,h3,h4⟩:=z7n p f (a+1) (by lia) (h.step O fun _=>e)
   exact⟨by lia,by lia,h3,fun z=>h4 (by lia)⟩
omit O in
theorem z2c {α β:Type}{f:α→KasT β}:∀(t:KasT α),z1j c (t.bind f)=z1j c (f (z1j c t))
 | .ret _=>rfl
 | .ask i j k=>z2c (k (c i j))
omit O in
theorem z2i (p:Array Nat) (i j:Nat):(kas_rev p i j).size =p.size:=mirror_size _ _ _ _
omit O in
theorem z8L (p:Array Nat) (i j:Nat):(bubble p i j).size =p.size:=bubble_size _ _ _
def Eqs (c:Nat→Nat→Bool) (p:Array Nat) (lo hi:Nat):Prop:=∀i j,lo≤i→i<hi→lo≤j→j<hi→c (at0 p i) (at0 p j)=false
omit O in
theorem Dn.turn {p:Array Nat}{lo k:Nat} (h:Dn c p k) (he:Eqs c p lo k) (hk:k≤p.size):Dn c (kas_rev p lo k) k:=by
 intro i j hij hj
 rw[z3R hk,z3R hk]
 by_cases h1:lo≤i
 ·rw[if_pos (by lia),if_pos (by lia)]
  exact he _ _ (by lia) (by lia) (by lia) (by lia)
 ·rw[if_neg (by lia)]
  by_cases h2:lo≤j
  ·rw[if_pos (by lia)]
   exact h _ _ (by lia) (by lia)
  ·rw[if_neg (by lia)]
   exact h _ _ hij hj
theorem z4b:∀f (p:Array Nat) a q,q+1≤a→a+f≤p.size→Dn c p a→Eqs c p (a - (q+1)) a→
 (z1j c (kas_desc f p a q)).1.size =p.size∧a≤(z1j c (kas_desc f p a q)).2.1 ∧(z1j c (kas_desc f p a q)).2.1 ≤a+f∧(z1j c (kas_desc f p a q)).2.2 +1≤(z1j c (kas_desc f p a q)).2.1 ∧Dn c (z1j c (kas_desc f p a q)).1 (z1j c (kas_desc f p a q)).2.1 ∧Eqs c (z1j c (kas_desc f p a q)).1 ((z1j c (kas_desc f p a q)).2.1 - ((z1j c (kas_desc f p a q)).2.2 +1)) (z1j c (kas_desc f p a q)).2.1
 |0,p,a,q,hq,hs,hd,he=>⟨rfl,Nat.le_refl _,Nat.le_refl _,hq,hd,he⟩
 |f+1,p,a,q,hq,hs,hd,he=>by
  have one:∀(p:Array Nat) (b:Nat),Eqs c p (b+1 - (0+1)) (b+1):=fun p b i j h1 h2 h3 h4=>by
   rw[show i=j by lia];exact O.irr _
  rw[kas_desc,z1j]
  cases e:c (p.getD a 0) (p.getD (a - 1) 0) with
  |true=>
   rw[if_pos rfl]
   have e':c (at0 p a) (at0 p (a - 1))=true:=e
   by_cases hq0:q>0
   ·rw[if_pos hq0]
    have hk:a≤p.size:=by lia
    have hd2:Dn c (kas_rev p (a - (q+1)) a) (a+1):=(hd.turn he hk).step O fun _=>by
     rw[z3R hk,z3R hk,if_pos (by lia),if_neg (by lia)]
     refine O.neg _ (at0 p (a - 1)) _ (he _ _ (by lia) (by lia) (by lia) (by lia)) (O.asym _ _ e')
    obtain⟨z1,z2,z3,z4,z5,z6⟩:=z4b f _ (a+1) 0 (by lia) (by rw[z2i];lia) hd2 (one _ _)
    exact⟨by rw[z1,z2i],by lia,by lia,z4,z5,z6⟩
   ·rw[if_neg hq0]
    obtain⟨z1,z2,z3,z4,z5,z6⟩:=z4b f p (a+1) 0 (by lia) (by lia) (hd.step O fun _=>O.asym _ _ e') (one _ _)
    exact⟨z1,by lia,by lia,z4,z5,z6⟩
  |false=>
   rw[if_neg (by decide),z1j]
   have e':c (at0 p a) (at0 p (a - 1))=false:=e
   cases e2:c (p.getD (a - 1) 0) (p.getD a 0) with
   |true=>
    rw[if_pos rfl]
    exact⟨rfl,q0e _,by show a≤_;lia,hq,hd,he⟩
   |false=>
    rw[if_neg (by decide)]
    have e2':c (at0 p (a - 1)) (at0 p a)=false:=e2
    have he2:Eqs c p (a+1 - (q+1+1)) (a+1):=fun i j h1 h2 h3 h4=>by
     have toA:∀i,a - (q+1)≤i→i<a+1→c (at0 p i) (at0 p (a - 1))=false∧c (at0 p (a - 1)) (at0 p i)=false:=fun i h1 h2=>by
        by_cases hi:i=a
        ·subst hi;exact⟨e',e2'⟩
        ·exact⟨he _ _ (by lia) (by lia) (by lia) (by lia),he _ _ (by lia) (by lia) (by lia) (by lia)⟩
     exact O.neg _ _ _ (toA i (by lia) h2).1 (toA j (by lia) h4).2
    obtain⟨z1,z2,z3,z4,z5,z6⟩:=z4b f p (a+1) (q+1) (by lia) (by lia) (hd.step O fun _=>e2') he2
    exact⟨z1,by lia,by lia,z4,z5,z6⟩
theorem z6s {p:Array Nat}{a m:Nat} (h1:1≤a) (h2:a≤m) (h3:m≤p.size) (hd:Dn c p a):(z1j c (kas_tail3 a m p)).2.size =p.size∧1≤(z1j c (kas_tail3 a m p)).1 ∧(z1j c (kas_tail3 a m p)).1 ≤m∧Up c (z1j c (kas_tail3 a m p)).2 (z1j c (kas_tail3 a m p)).1 :=by
 unfold kas_tail3
 rw[z2c,z1j]
 obtain⟨z1,z2,z3,_⟩:=z7n O (kas_rev p 0 a) (m - a) a h1 (hd.rev (by lia))
 exact⟨z2i _ _ _,by lia,by lia,z3⟩
theorem z3M {p:Array Nat}{a m:Nat} (h1:1≤a) (h2:a+1≤m) (h3:m≤p.size) (hd:Dn c p (a+1)):(z1j c (kas_descPart a m p)).2.size =p.size∧1≤(z1j c (kas_descPart a m p)).1 ∧(z1j c (kas_descPart a m p)).1 ≤m∧Up c (z1j c (kas_descPart a m p)).2 (z1j c (kas_descPart a m p)).1 :=by
 unfold kas_descPart
 rw[z2c]
 obtain⟨z1,z2,z3,z4,z5,z6⟩:=z4b O (m - (a+1)) p (a+1) 0 (by lia) (by lia) hd (fun i j _ _ _ _=>by rw[show i=j by lia];exact O.irr _)
 generalize z1j c (kas_desc (m - (a+1)) p (a+1) 0)=r at*
 split
 ·obtain⟨y1,y2,y3,y4⟩:=z6s O (p:=kas_rev r.1 (r.2.1 - (r.2.2+1)) r.2.1) (a:=r.2.1) (m:=m) (by lia) (by lia) (by rw[z2i];lia) (z5.turn z6 (by lia))
  exact⟨by rw[y1,z2i,z1],y2,y3,y4⟩
 ·obtain⟨y1,y2,y3,y4⟩:=z6s O (p:=r.1) (a:=r.2.1) (m:=m) (by lia) (by lia) (by lia) z5
  exact⟨by rw[y1,z1],y2,y3,y4⟩
theorem y0d {p:Array Nat}{m:Nat} (h1:1≤m) (h3:m≤p.size):(z1j c (kas_count m p)).2.size =p.size∧1≤(z1j c (kas_count m p)).1 ∧(z1j c (kas_count m p)).1 ≤m∧Up c (z1j c (kas_count m p)).2 (z1j c (kas_count m p)).1 :=by
 unfold kas_count
 rw[z2c]
 obtain⟨z1,z2,z3,z4⟩:=z7n O p (m - 1) 1 (by lia) (Up.of O fun i h1 h2=>by lia)
 generalize z1j c (kas_asc p (m - 1) 1)=a at*
 by_cases ha:(a==m)=true
 ·rw[if_pos ha]
  exact⟨rfl,z1,by show a≤m;lia,z3⟩
 ·rw[if_neg ha]
  have ham:a≠m:=by simpa using ha
  have e4:=z4 (by lia)
  by_cases h2:a>1
  ·rw[if_pos h2,z1j]
   cases e:c (p.getD 0 0) (p.getD (a - 1) 0) with
   |true=>
    rw[if_pos rfl]
    exact⟨rfl,z1,by show a≤m;lia,z3⟩
   |false=>
    rw[if_neg (by decide)]
    have e':c (at0 p 0) (at0 p (a - 1))=false:=e
    have heq:Eqs c p 0 a:=fun i j _ hi _ hj=>O.neg _ _ _ (O.neg _ _ _ (z3 0 i (by lia) hi) e') (z3 j (a - 1) (by lia) (by lia))
    have hk:a≤p.size:=by lia
    have hd:Dn c (kas_rev p 0 a) (a+1):=(Dn.turn (lo:=0) (fun i j _ hj=>heq i j (by lia) (by lia) (by lia) hj) heq hk).step O fun _=>by
      rw[z3R hk,z3R hk,if_pos (by lia),if_neg (by lia)]
      exact O.neg _ (at0 p (a - 1)) _ (heq _ _ (by lia) (by lia) (by lia) (by lia)) (O.asym _ _ e4)
    obtain⟨y1,y2,y3,y4⟩:=z3M O (p:=kas_rev p 0 a) (a:=a) (m:=m) (by lia) (by lia) (by rw[z2i];exact h3) hd
    exact⟨by rw[y1,z2i],y2,y3,y4⟩
  ·rw[if_neg h2]
   have a1:a=1:=by lia
   subst a1
   exact z3M O (by lia) (by lia) h3 (Dn.of O fun i h1 h2=>by rw[show i=1 by lia];exact O.asym _ _ e4)
theorem z4r {p:Array Nat}{k:Nat} (hu:Up c p k):∀f l r,r - l≤f→l≤r→r≤k→(∀i,i<l→c (at0 p k) (at0 p i)=false)→(∀i,r≤i→i<k→c (at0 p k) (at0 p i)=true)→
 z1j c (kas_place p k f l r)≤k∧(∀i,i<z1j c (kas_place p k f l r)→c (at0 p k) (at0 p i)=false)∧(∀i,z1j c (kas_place p k f l r)≤i→i<k→c (at0 p k) (at0 p i)=true)
 |0,l,r,hf,hlr,hr,h1,h2=>by
  rw[kas_place,z1j]
  exact⟨by lia,h1,fun i hi hk=>h2 i (by lia) hk⟩
 |f+1,l,r,hf,hlr,hr,h1,h2=>by
  rw[kas_place]
  by_cases c0:l≥r
  ·rw[if_pos c0,z1j]
   exact⟨by lia,h1,fun i hi hk=>h2 i (by lia) hk⟩
  ·rw[if_neg c0,z1j]
   cases e:c (p.getD k 0) (p.getD ((l+r)/2) 0) with
   |true=>
    rw[if_pos rfl]
    have e':c (at0 p k) (at0 p ((l+r)/2))=true:=e
    refine z4r hu f l ((l+r)/2) (by lia) (by lia) (by lia) h1 fun i hi hk=>?_
    cases z:c (at0 p k) (at0 p i) with
    |true=>rfl
    |false=>
     have:=O.neg _ _ _ z (hu ((l+r)/2) i hi hk)
     rw[e'] at this
     exact this.symm
   |false=>
    rw[if_neg (by decide)]
    have e':c (at0 p k) (at0 p ((l+r)/2))=false:=e
    refine z4r hu f ((l+r)/2+1) r (by lia) (by lia) hr (fun i hi=>?_) h2
    exact O.neg _ _ _ e' (hu i ((l+r)/2) (by lia) (by lia))
theorem y0e:∀f (p:Array Nat) k,k+f≤p.size→Up c p k→(z1j c (kas_bin f p k)).size =p.size∧Up c (z1j c (kas_bin f p k)) (k+f)
 |0,p,k,_,h=>⟨rfl,h⟩
 |f+1,p,k,hs,h=>by
  rw[kas_bin,z2c]
  obtain⟨l1,l2,l3⟩:=z4r O h k 0 k (by lia) (by lia) (q0e _) (fun i hi=>absurd hi (Nat.not_lt_zero _)) (fun i h1 h2=>absurd h2 (by lia))
  generalize z1j c (kas_place p k k 0 k)=l at*
  have hk:k<p.size:=by lia
  have hu:Up c (bubble p k (k - l)) (k+1):=fun i j hij hj=>by
   rw[z6U hk (by lia),z6U hk (by lia),show k - (k - l)=l by lia]
   by_cases i1:i=l
   ·rw[if_pos i1]
    by_cases j1:j=l
    ·rw[if_pos j1];exact O.irr _
    ·rw[if_neg j1,if_pos (by lia)]
     exact O.asym _ _ (l3 (j - 1) (by lia) (by lia))
   ·rw[if_neg i1]
    by_cases i2:l<i∧i≤k
    ·rw[if_pos i2,if_neg (by lia),if_pos (by lia)]
     exact h (i - 1) (j - 1) (by lia) (by lia)
    ·rw[if_neg i2]
     by_cases j1:j=l
     ·rw[if_pos j1];exact l2 i (by lia)
     ·rw[if_neg j1]
      by_cases j2:l<j∧j≤k
      ·rw[if_pos j2];exact h i (j - 1) (by lia) (by lia)
      ·rw[if_neg j2];exact h i j hij (by lia)
  obtain⟨y1,y2⟩:=y0e f (bubble p k (k - l)) (k+1) (by rw[z8L];lia) hu
  exact⟨by rw[y1,z8L],by rw[show k+(f+1)=k+1+f by lia];exact y2⟩
theorem y2l {n:Nat} (hn:1≤n):(z1j c (kas_sort n)).size =n∧Up c (z1j c (kas_sort n)) n:=by
 unfold kas_sort
 rw[z2c]
 have hsz:(List.toArray (List.range n)).size =n:=by rw[q0h,q1n]
 obtain⟨z1,z2,z3,z4⟩:=y0d O (p:=List.toArray (List.range n)) (m:=n) hn (by lia)
 generalize z1j c (kas_count n (List.toArray (List.range n)))=r at*
 by_cases h:r.1<n
 ·rw[if_pos h]
  have hm:max r.1 1=r.1:=by lia
  rw[hm]
  obtain⟨y1,y2⟩:=y0e O (n - r.1) r.2 r.1 (by lia) z4
  exact⟨by lia,by rw[show r.1+(n - r.1)=n by lia] at y2;exact y2⟩
 ·rw[if_neg h]
  have:r.1=n:=by lia
  rw[this] at z4
  exact⟨by show r.2.size=n;lia,z4⟩
end
structure STO {α:Type} (lt:α→α→Bool):Prop where
 irr:∀x,lt x x=false
 trans:∀x y z,lt x y=true→lt y z=true→lt x z=true
 tot:∀x y,x≠y→lt x y=true∨lt y x=true
theorem STO.asym {α:Type}{lt:α→α→Bool} (h:STO lt) {x y:α} (e:lt x y=true):lt y x=false:=by
 cases z:lt y x with
 |false=>rfl
 |true=>have:=h.trans x y x e z;rw[h.irr] at this;exact this.symm
theorem STO.anti {α:Type}{lt:α→α→Bool} (h:STO lt) {x y:α} (e1:lt x y=false) (e2:lt y x=false):x=y:=by
 apply Classical.byContradiction
 intro hn
 rcases h.tot x y hn with z|z
 ·rw[e1] at z;cases z
 ·rw[e2] at z;cases z
theorem STO.neg {α:Type}{lt:α→α→Bool} (h:STO lt) {x y z:α} (e1:lt x y=false) (e2:lt y z=false):lt x z=false:=by
 cases e:lt x z with
 |false=>rfl
 |true=>
  by_cases hxy:x=y
  ·subst hxy;rw[e] at e2;cases e2
  ·rcases h.tot x y hxy with w|w
   ·rw[e1] at w;cases w
   ·have:=h.trans y x z w e
    rw[e2] at this;cases this
theorem STO.ord {α:Type}{lt:α→α→Bool} (h:STO lt) (f:Nat→α):Ord fun i j=>lt (f i) (f j):=⟨fun _ _ e=>h.asym e,fun _ _ _ e1 e2=>h.neg e1 e2⟩
def z7w {α:Type} [DecidableEq α] (lt:α→α→Bool):List α→List α→Bool
 |[],[]=>false
 |[],_::_=>true
 |_::_,[]=>false
 |x::a,y::b=>if x=y then z7w lt a b else lt x y
theorem y4H {α:Type} [DecidableEq α] {lt:α→α→Bool} (h:STO lt):STO (z7w lt):=by
 refine⟨fun x=>?_,fun x=>?_,fun x=>?_⟩
 ·induction x with
  |nil=>rfl
  |cons a x ih=>rw[z7w,if_pos rfl,ih]
 ·induction x with
  |nil=>
   intro y z e1 e2
   cases z with
   |nil=>cases y<;>simp[z7w] at e1 e2
   |cons _ _=>rfl
  |cons a x ih=>
   intro y z e1 e2
   cases y with
   |nil=>simp[z7w] at e1
   |cons b y=>
    cases z with
    |nil=>simp[z7w] at e2
    |cons d z=>
     rw[z7w] at e1 e2 ⊢
     by_cases h1:a=b
     ·subst h1
      rw[if_pos rfl] at e1
      by_cases h2:a=d
      ·rw[if_pos h2] at e2 ⊢;exact ih _ _ e1 e2
      ·rw[if_neg h2] at e2 ⊢;exact e2
     ·rw[if_neg h1] at e1
      by_cases h2:b=d
      ·subst h2
       rw[if_neg h1];exact e1
      ·rw[if_neg h2] at e2
       have e3:=h.trans _ _ _ e1 e2
       rw[if_neg (fun z=>by subst z;rw[h.irr] at e3;cases e3)]
       exact e3
 ·induction x with
  |nil=>
   intro y hn
   cases y with
   |nil=>exact absurd rfl hn
   |cons _ _=>exact .inl rfl
  |cons a x ih=>
   intro y hn
   cases y with
   |nil=>exact .inr rfl
   |cons b y=>
    rw[z7w,z7w]
    by_cases h1:a=b
    ·subst h1
     rw[if_pos rfl,if_pos rfl]
     exact ih y fun z=>hn (by rw[z])
    ·rw[if_neg h1,if_neg (fun z=>h1 z.symm)]
     exact h.tot a b h1
theorem y4L:STO fun a b:Int=>decide (a<b):=⟨fun x=>by simp,fun x y z h1 h2=>by simp at*;lia,fun x y h=>by simp;lia⟩
theorem z8n:∀a b:List Int,lts (a.map Dt.i) (b.map Dt.i)=z7w (fun a b:Int=>decide (a<b)) a b
 |[],[]=>rfl
 |[],_::_=>rfl
 |_::_,[]=>rfl
 |x::a,y::b=>by
  rw[q0t,q0t,lts,z7w,z8n a b]
  have e:(Dt.eqb (.i x) (.i y)=true)↔x=y:=by rw[Dt.eqb];simp
  by_cases h:x=y
  ·rw[if_pos h,if_pos (e.mpr h)]
  ·rw[if_neg h,if_neg fun z=>h (e.mp z)];rfl
end Srt
end L2
set_option maxHeartbeats 1000000
namespace L2
open PySem
namespace Srt
open PySem.W (KasT kas_sort)
def ltI:List Int→List Int→Bool:=z7w fun a b:Int=>decide (a<b)
theorem ltI_sto:STO ltI:=y4H y4L
def z5v (rs:List (List Int)):List (List Int):=(z5a (rs.map fun r=>r.map Dt.i)).map fun i=>rs.getD i []
theorem z8V (rs:List (List Int)):(z5v rs).Perm rs:=by
 have h:=(z2x (rs.map fun r=>r.map Dt.i)).map fun i=>rs.getD i []
 rw[q0b] at h
 refine h.trans ?_
 rw[show (List.range rs.length).map (fun i=>rs.getD i [])=rs from List.ext_getElem (by simp) fun i h1 h2=>by
  rw[q1h,List.getElem_range,q0a,q0c h2];rfl]
theorem y2d (rs:List (List Int)):(z5v rs).Pairwise fun a b=>ltI b a=false:=by
 unfold z5v z5a
 rw[q0b]
 by_cases h:rs.length<2
 ·rw[if_pos h,q0Z,q1f]
  intro i j hi hj hij
  rw[q1n] at hi hj
  lia
 ·rw[if_neg h]
  have ec:(fun i j=>lts ((rs.map fun r=>r.map Dt.i).getD i []) ((rs.map fun r=>r.map Dt.i).getD j []))=fun i j=>ltI (rs.getD i []) (rs.getD j []):=by
   funext i j
   have g:∀i,(rs.map fun r=>r.map Dt.i).getD i []=(rs.getD i []).map Dt.i:=fun i=>by
     rw[q0a,q0k,q0a]
     cases rs[i]? <;>rfl
   rw[g,g,z8n];rfl
  rw[ec]
  obtain⟨z1,z2⟩:=y2l (c:=fun i j=>ltI (rs.getD i []) (rs.getD j [])) (ltI_sto.ord fun i=>rs.getD i []) (n:=rs.length) (by lia)
  rw[q0Z,q1f]
  intro i j hi hj hij
  have:=z2 i j (by lia) (by rw[q1d] at hj;lia)
  have e:∀i (h:i<(z1j (fun i j=>ltI (rs.getD i []) (rs.getD j [])) (kas_sort rs.length)).toList.length),(z1j (fun i j=>ltI (rs.getD i []) (rs.getD j [])) (kas_sort rs.length)).toList[i]=at0 (z1j (fun i j=>ltI (rs.getD i []) (rs.getD j [])) (kas_sort rs.length)) i:=fun i h=>by
   rw[z3S,q0F (by rw[q1d] at h;exact h)]
   simp
  rw[e i hi,e j hj]
  exact this
theorem y0v:∀(a b:List (List Int)),a.Perm b→a.Pairwise (fun x y=>ltI y x=false)→b.Pairwise (fun x y=>ltI y x=false)→a=b:=by
 intro a
 induction a with
 |nil=>intro b hp _ _;exact (hp.nil_eq)
 |cons x a ih=>
  intro b hp ha hb
  cases b with
  |nil=>have:=hp.length_eq;simp at this
  |cons y b=>
   have exy:x=y:=by
        rcases q0l.mp (hp.mem_iff.mp (q0j ..)) with e|e
        ·exact e
        ·rcases q0l.mp (hp.mem_iff.mpr (q0j ..)) with e2|e2
         ·exact e2.symm
         ·exact ltI_sto.anti (List.rel_of_pairwise_cons hb e) (List.rel_of_pairwise_cons ha e2)
   subst exy
   rw[ih b (List.perm_cons x |>.mp hp) (List.Pairwise.of_cons ha) (List.Pairwise.of_cons hb)]
theorem y0T {u v:List Int}:∀{a b:List Int},a.length=b.length→ltI a b=true→ltI (a++u) (b++v)=true
 |[],[],_,h=>by cases h
 |[],_::_,h,_=>by simp at h
 |_::_,[],h,_=>by simp at h
 |x::a,y::b,h,e=>by
  unfold ltI at e ⊢
  rw[List.cons_append,List.cons_append,z7w]
  rw[z7w] at e
  by_cases z:x=y
  ·rw[if_pos z] at e ⊢
   exact y0T (by simpa using h) e
  ·rw[if_neg z] at e ⊢
   exact e
theorem y0S:∀(a:List Int),ltI (a++[-1]) (a++[1])=true
 |[]=>by decide
 |x::a=>by
  unfold ltI
  rw[List.cons_append,List.cons_append,z7w,if_pos rfl]
  exact y0S a
open Ld in
theorem y3s (w:Nat) (ts:List (List Int)):∀i,i≤ts.length→(sgN w ts i).Pairwise fun a b=>ltI a b=true
 |0,_=>by show ([[]]:List (List Int)).Pairwise _;simp
 |i+1,hi=>by
  have ih:=y3s w ts i (by lia)
  have hl:∀s∈sgN w ts i,s.length=i:=fun s hs=>((z2Z (by lia)).mp hs).1
  rw[sgN]
  generalize sgN w ts i=L at*
  induction L with
  |nil=>simp
  |cons s L ih2=>
   obtain⟨h1,h2⟩:=List.pairwise_cons.mp ih
   rw[List.flatMap_cons]
   refine List.pairwise_append.mpr ⟨?_,ih2 h2 fun s hs=>hl s (.tail _ hs),fun a ha b hb=>?_⟩
   ·unfold z1h
    refine List.Pairwise.filter _ ?_
    refine List.pairwise_cons.mpr ⟨fun a ha=>?_,by simp⟩
    rw[q0g.mp ha]
    exact y0S s
   ·obtain⟨s2,hs2,hb2⟩:=List.mem_flatMap.mp hb
    obtain⟨x,rfl⟩:=z4e ha
    obtain⟨y,rfl⟩:=z4e hb2
    exact y0T (by rw[hl s (.head _),hl s2 (.tail _ hs2)]) (h1 s2 hs2)
open Ld in
theorem y2e {w:Nat}{ts:List (List Int)}{rs:List (List Int)} (h:rs.Perm (sgN w ts ts.length)):z5v rs=sgN w ts ts.length:=
 y0v _ _ ((z8V rs).trans h) (y2d rs) ((y3s w ts _ (q0e _)).imp fun e=>ltI_sto.asym e)
end Srt
namespace St
def sgs:Nat→List (List Int)
 |0=>[[]]
 |n+1=>(sgs n).map (1:: ·)++(sgs n).map (-1:: ·)
open Ld in
theorem z7u:∀{l:List Int},Sgn l→l∈sgs l.length
 |[],_=>by simp[sgs]
 |x::l,h=>by
  have ih:=z7u (l:=l) fun y hy=>h y (.tail _ hy)
  rw[q0J,sgs]
  rcases h x (.head _) with rfl|rfl
  ·exact q0C _ (q0z ih)
  ·exact q0I _ (q0z ih)
theorem z9s:∀n,n<7→((sgs n).map tH).Nodup :=by decide+kernel
theorem z6H {α β:Type}{f:α→β}{l:List α} (h:(l.map f).Nodup) {a b:α} (ha:a∈l) (hb:b∈l) (e:f a=f b):a=b:=by
 obtain⟨i,hi,rfl⟩:=q0v.mp ha
 obtain⟨j,hj,rfl⟩:=q0v.mp hb
 have hp:=q1f.mp h
 rcases Nat.lt_trichotomy i j with z|rfl|z
 ·exact absurd (by rw[q1h,q1h];exact e) (hp i j (by simpa using hi) (by simpa using hj) z)
 ·rfl
 ·exact absurd (by rw[q1h,q1h];exact e.symm) (hp j i (by simpa using hj) (by simpa using hi) z)
open Ld in
theorem tH_inj {n:Nat} (hn:n<7) {a b:List Int} (ha:Sgn a) (hb:Sgn b) (la:a.length=n) (lb:b.length=n) (e:tH a=tH b):a=b:=
 z6H (z9s n hn) (by rw[←la];exact z7u ha) (by rw[←lb];exact z7u hb) e
end St
end L2
set_option maxHeartbeats 4000000
namespace L2
open PySem PySem.Spec PyProof.Rows
def y6k (w:World) (S:Addr) (as:List Addr):HO:= .ext fun h=>∃ps,St.SS w h S ps∧ps.map (·.2)=as.map Value.ref
theorem y2u {α β:Type}{f:α→β}{us:List β}{L:List α} (h:us.Perm (L.map f)):∃L':List α,L'.Perm L∧us=L'.map f:=by
 generalize hM:L.map f=M at h
 induction h generalizing L with
 |nil=>exact⟨[],by rw[List.map_eq_nil_iff.mp hM],rfl⟩
 | @cons x l1 l2 h ih=>
   cases L with
   |nil=>cases hM
   |cons a L=>
    rw[q0t] at hM
    injection hM with e1 e2
    obtain⟨L',p,e⟩:=ih e2
    exact⟨a::L',p.cons a,by rw[q0t,e,e1]⟩
 |swap x y l=>
  cases L with
  |nil=>cases hM
  |cons a L=>
   cases L with
   |nil=>cases hM
   |cons b L=>
    rw[q0t,q0t] at hM
    injection hM with e1 e2
    injection e2 with e2 e3
    exact⟨b::a::L,List.Perm.swap ..,by rw[q0t,q0t,e1,e2,e3]⟩
 |trans _ _ ih1 ih2=>
  obtain⟨L2,p2,e2⟩:=ih2 hM
  obtain⟨L1,p1,e1⟩:=ih1 e2.symm
  exact⟨L1,p1.trans p2,e1⟩
theorem z5f {P:Program}{w:World}:∀{ks:List Int}{its:List Value},Vals (ks.map V.int) its→ItemsAre (intKind P w) ks its
 |[],_,.nil => .nil
 |k::ks,_,.cons r h=>by
  obtain⟨t,rfl⟩:=r
  exact .cons (intKind_is _ _ _ _) (z5f h)
theorem z4S:∀{as:List Addr}{us:List Value},Vals (as.map V.ref) us→us=as.map Value.ref
 |[],_,.nil =>rfl
 |a::as,_,.cons r h=>by rw[z4S h];cases (show _=Value.ref a from r);rfl
theorem y3u:∀{as:List Addr}{kss:List (List Int)},as.length=kss.length→(St.psL kss as).map (·.2)=as.map Value.ref
 |[],[],_=>rfl
 |[],_::_,h=>by simp at h
 |_::_,[],h=>by simp at h
 |a::as,k::kss,h=>congrArg (Value.ref a:: ·) (y3u (as:=as) (kss:=kss) (by simpa using h))
namespace Srt
open PySem.W (KasT kas_sort kas_count kas_bin kas_place kas_descPart kas_tail3 kas_desc kas_asc kas_rev kas_item kas_st kas_cmp kas_runs kasC kas_range)
section
variable {X:Cx}{pins:List (Addr×Obj)}{σ:St}{H:Hp}{s:Shared}
theorem y0c {S:Addr}{as:List Addr}{kss:List (List Int)}{Q:VK} (hh:X.A.handled=none) (hu:X.A.units+64<cLine) (I:Inv X pins σ H s) (hS:H S=some (y6k X.w S as)) (hts:TsA H as kss) (h64:as.length<64) (hn0:2≤as.length→∀ks∈kss,ks≠[])
 (q:∀(D:Addr) (bs:List Addr) (rs:List (List Int)) (H':Hp),H D=none→Same H H'→H' D=some (.lst (bs.map V.ref))→rs.Perm kss→TsA H' bs (z5v rs)→Q (.ref D) H'):
 wpAny (model X.prog X.w) X.A (call (.builtin "sorted") [.ref S]) (EP X pins σ Q) X.xe s:=by
 obtain⟨⟨ps,⟨es,ep,t,ho,ok,rm,led,pm⟩,eps⟩,_⟩:=I.hok S _ hS
 have pw:((St.wk X.w S ep es).toList.map (·.2)).Perm ((as.zip kss).map fun p=>Value.ref p.1):=by
  have e1:(as.zip kss).map (fun p=>Value.ref p.1)=as.map Value.ref:=by
   rw[show (fun p:Addr×List Int=>Value.ref p.1)=Value.ref∘Prod.fst from rfl,←q0M,List.map_fst_zip (by rw[hts.1];exact q0e _)]
  rw[e1,←eps]
  exact ((St.wk_perm (w:=X.w) (S:=S) (ep:=ep) (es:=es)).trans pm).map _
 obtain⟨L,hL,eus⟩:=y2u pw
 have hes:es.size=as.length:=by
  have h1:=pm.length_eq
  have h2:=congrArg List.length eps
  rw[q0b,q0b] at h2
  rw[q1d] at h1
  lia
 have hLl:L.length=as.length:=by rw[hL.length_eq,q1e,hts.1,Nat.min_self]
 have hLm:∀p∈L,H p.1=some (.tup (p.2.map V.int)):=fun p hp=>by
  obtain⟨i,hi,rfl⟩:=q0v.mp (hL.mem_iff.mp hp)
  rw[q1e] at hi
  exact hts.2 i _ _ (by rw[List.getElem_zip];exact q0c (by lia)) (by rw[List.getElem_zip];exact q0c (by lia))
 have hrs:(L.map Prod.snd).Perm kss:=by
  have:=hL.map Prod.snd
  rwa[List.map_snd_zip (by rw[hts.1];exact q0e _)] at this
 have hTs:TsA H (L.map Prod.fst) (L.map Prod.snd):=⟨by simp,fun i a t e1 e2=>by
  rw[q0k] at e1 e2
  obtain⟨p,hp,rfl⟩:=q0A.mp e1
  rw[hp] at e2
  cases e2
  exact hLm p (q0u hp)⟩
 generalize hxs:(L.map Prod.fst).map V.ref=xs
 generalize hds:(L.map Prod.snd).map (fun r=>r.map Dt.i)=ds
 generalize hus:L.map (fun p=>Value.ref p.1)=us at eus
 have hlen:xs.length=us.length:=by rw[←hxs,←hus];simp
 have hxl:xs.length=as.length:=by rw[←hxs];simp[hLl]
 have z:xs.length≤sizeLine:=by rw[hxl,sizeLine_eq];lia
 have hV:Vals xs us:=by
  rw[←hxs,←hus]
  clear hL hLl hLm hrs hTs eus hds hus hxs
  induction L with
  |nil=>exact .nil
  |cons p L ih=>exact .cons rfl ih
 have hd:IsDs X.K H xs (ds.map Dt.t):=by
  have:=hTs.isDs (K:=X.K)
  rw[hxs] at this
  rw[←hds,q0M]
  exact this
 have hf:2≤as.length→∀a∈ds,∃n r,a=Dt.i n::r:=fun h2 a ha=>by
  rw[←hds] at ha
  obtain⟨r,hr,rfl⟩:=q0f.mp ha
  cases r with
  |nil=>exact absurd rfl (hn0 h2 [] (hrs.mem_iff.mp hr))
  |cons n r=>exact⟨n,r.map Dt.i,rfl⟩
 have hok:∀a∈ds,∀b∈ds,Dt.oks 8 a b=true:=fun a ha b hb=>by
  rw[←hds] at ha hb
  obtain⟨r,_,rfl⟩:=q0f.mp ha
  obtain⟨r',_,rfl⟩:=q0f.mp hb
  exact z3h 8 r r'
 have dl:xs.length=ds.length:=by rw[hd.length,q0b]
 have q:∀(D:Addr) (H':Hp),H D=none→Same H H'→H' D=some (.lst ((z5a ds).map fun i=>xs.getD i .non))→Q (.ref D) H':=fun D H' hD g e=>by
  refine q D ((z5a ds).map fun i=>(L.map Prod.fst).getD i 0) (L.map Prod.snd) H' hD g ?_ hrs ⟨?_,fun i a t e1 e2=>?_⟩
  ·rw[e,q0M]
   congr 2
   refine q1l fun i hi=>?_
   have hi':i<ds.length:=q1s.mp ((z2x ds).mem_iff.mp hi)
   show xs.getD i .non =V.ref ((L.map Prod.fst).getD i 0)
   rw[←hxs,q0a,q0a,q0k]
   rw[q0c (show i<(L.map Prod.fst).length by rw[q0b,hLl,←hxl,dl];exact hi')];rfl
  ·unfold z5v
   rw[hds,q0b,q0b]
  ·unfold z5v at e2
   rw[hds,q0k] at e2
   rw[q0k] at e1
   obtain⟨k,hk,rfl⟩:=q0A.mp e1
   rw[hk] at e2
   cases e2
   have hi':k<ds.length:=q1s.mp ((z2x ds).mem_iff.mp (q0u hk))
   have hkL:k<L.length:=by rw[hLl,←hxl,dl];exact hi'
   refine g _ _ (hTs.2 k _ _ ?_ ?_)
   ·rw[q0a,q0c (by rw[q0b];exact hkL)];rfl
   ·show (L.map Prod.snd)[k]? =some ((L.map Prod.snd).getD k [])
    rw[q0a,q0c (by rw[q0b];exact hkL)];rfl
 refine Calls.call_function_entry kind_sorted plain_sorted entry_sorted (args_sorted1 _) ?_
 unfold Builtin.«sorted»
 refine wpAny_bind (m:=checkCount "sorted" 1 1 _) (wpAny_pure ?_)
 refine wpAny_bind (St.collect_set (by simp[hh]) ho ok led (by rw[sizeLine_eq];lia) fun h0 tk keep0=>?_)
 have I0:=I.kept (h':=h0) (t':=tk) keep0
 rw[eus]
 refine wpAny_bind (wpAny_newList ?_ (by rw[←hlen];exact z))
 have hoL:(h0.push (seqObj "list" us.toArray 0)).get? h0.objs.size=some (seqObj "list" us.toArray 0):=q0q _ rfl
 have keep:∀b o,h0.get? b=some o→(h0.push (seqObj "list" us.toArray 0)).get? b=some o:=fun b o e=>q0d _ e
 have fr1:H h0.objs.size=none:=I0.hok.fresh (q0e _)
 have I1:=I0.laid (a:=h0.objs.size) (o:= .lst xs) (t':=tk) keep (q0e _) ⟨z,us,0,hV,hoL⟩
 show wpAny _ _ _ _ _ {s with heap:=h0.push (seqObj "list" us.toArray 0),toks:=tk}
 generalize hD:h0.objs.size=D at*
 generalize hh1:h0.push (seqObj "list" us.toArray 0)=h1 at*
 refine wpAny_bind (wpAny_holding (wpAny_call_entry slot_list_sort ⟨_,hoL,rfl⟩ entry_list_sort ?body (args_list_sort _)))
 case body=>
  show wpAny (model X.prog X.w) X.A.in1.in1 (Builtin.«list.sort» ⟨[.ref D],[]⟩) _ _ _
  rw[list_sort_plain]
  refine wpAny_bind (listItems_at hoL rfl ?_)
  refine wpAny_bind (listUpdate_at hoL rfl ?_ (by rw[q0h,←hlen];exact z) (q0S _))
  obtain⟨e1,ho1⟩:∃e1,(h1.update D (Obj.mapSeq fun _=>(#[]:Array Value))).get? D=some (seqObj "list" #[] e1):=⟨_,get?_update_seq hoL fun _=> #[]⟩
  have I2:=I1.write (x:=D) (e:=D) (o:=EL D e1) (h':=h1.update D (Obj.mapSeq fun _=>(#[]:Array Value))) (t':=tk) (by rw[z0c];exact trivial) (.inl rfl) (fun b u hb hu=>(q1F _ _ (Ne.symm hb)).trans hu) ⟨_,ho1⟩ (EL.ok ho1)
  rw[z7c] at I2
  generalize h1.update D (Obj.mapSeq fun _=>(#[]:Array Value))=h2 at*
  refine wpAny_bind (seqEpoch_at ho1 rfl ?_)
  refine wpAny_bind (wpAny_newTuple ?_ (by rw[List.toList_toArray,←hlen];exact z))
  refine wpAny_bind (wpAny_newList ?_ (q0S _))
  refine wpAny_holding ?_
  have I3:=I2.kept (h':=h2.push (seqObj "tuple" us.toArray 0)) (t':=tk) (fun b u e=>q0d _ e)
  have I4:=I3.kept (h':=(h2.push (seqObj "tuple" us.toArray 0)).push (seqObj "list" #[] 0)) (t':=tk) (fun b u e=>q0d _ e)
  have n4:((h2.push (seqObj "tuple" us.toArray 0)).push (seqObj "list" #[] 0)).get? D=some (seqObj "list" #[] e1):=q0d _ (q0d _ ho1)
  generalize (h2.push (seqObj "tuple" us.toArray 0)).push (seqObj "list" #[] 0)=h4 at*
  show wpAny (model X.prog X.w) X.A.in1.in1 _ _ _ {s with heap:=h4,toks:=tk}
  dsimp only
  have gD:Same H (upd H D (EL D e1)):=fun b o e=>by rw[z0m (z0i e fr1)];exact e
  have pl:(z5a ds).length =ds.length:=by rw[(z2x ds).length_eq,q1n]
  have hout:∀i∈z5a ds,i<xs.length:=fun i hi=>by rw[dl];exact q1s.mp ((z2x ds).mem_iff.mp hi)
  have fin:∀(out:Array Value),out=List.toArray ((z5a ds).map fun i=>us.getD i Value.none)→EP X pins σ Q (.ref D) {s with toks:=tk,heap:=h4.update D (Obj.mapSeq fun _=>out)}:=fun out ho=>by
   subst ho
   obtain⟨c2,hc2⟩:∃c2,(h4.update D (Obj.mapSeq fun _=>List.toArray ((z5a ds).map fun i=>us.getD i Value.none))).get? D=some (seqObj "list" (List.toArray ((z5a ds).map fun i=>us.getD i Value.none)) c2):=⟨_,get?_update_seq n4 fun _=>List.toArray ((z5a ds).map fun i=>us.getD i Value.none)⟩
   have J:=I4.write (x:=D) (e:=D) (o:= .lst ((z5a ds).map fun i=>xs.getD i .non)) (h':=h4.update D (Obj.mapSeq fun _=>List.toArray ((z5a ds).map fun i=>us.getD i Value.none))) (t':=tk) (by rw[z0c];exact trivial) (.inl rfl) (fun b u hb hu=>(q1F _ _ (Ne.symm hb)).trans hu) ⟨_,hc2⟩
        ⟨by rw[q0b,pl,←dl];exact z,_,c2,Vals.pick hV _ hout,hc2⟩
   rw[z7c] at J
   exact⟨.ref D,_,J,rfl,q D _ fr1 (fun b o e=>by rw[z0m (z0i e fr1)];exact e) z0c⟩
  have tail:∀(st':SortSt),(arrOf st').map (·.2)=List.toArray ((z5a ds).map fun i=>us.getD i Value.none)→failedOf st'=none→
        wpAny (model X.prog X.w) X.A.in1.in1 (do
         let touched:=(←seqEpoch D) != e1
         Builtin.List.listUpdate (.ref D) fun _=>(arrOf st').map (·.2)
         if let some e:=failedOf st' then rule "list.sort.comparison-raised";throw e
         if touched then rule "list.sort.modified";raiseError "ValueError" "list modified during sort"
         ret .none) (fun fin s'=>∃v,fin=PySem.Fin.done (.ret v)∧EP X pins σ Q (.ref D) s') (fun _ _=>False) {s with heap:=h4,toks:=tk}:=fun st' ho hf=>by
   refine wpAny_bind (seqEpoch_at n4 rfl ?_)
   refine wpAny_bind (listUpdate_at n4 rfl ?_ (q0S _) (by rw[ho,q0h,q0b,pl,←dl];exact Nat.le_succ_of_le z))
   rw[hf]
   simp only[bne_self_eq_false,Bool.false_eq_true,if_false]
   rw[ho]
   exact wpAny_pure ⟨_,rfl,fin _ rfl⟩
  have z2:(us.toArray.zip us.toArray).map (·.2)=us.toArray:=by
   apply Array.toList_inj.mp
   rw[Array.toList_map,Array.toList_zip]
   exact List.map_snd_zip (q0e _)
  by_cases h2:us.toArray.size<2
  ·rw[if_pos h2,if_pos h2]
   refine wpAny_bind (wpAny_pure ?_)
   rw[StateT.run_pure]
   refine wpAny_bind (wpAny_pure ?_)
   refine wpAny_mono (tail (SortSt.mk' general' (us.toArray.zip us.toArray) #[] 7 none) ?_ rfl) ?_ (fun _ _ h=>h.elim)
   ·show (us.toArray.zip us.toArray).map (·.2)=_
    rw[q0h] at h2
    have e:z5a ds=List.range us.length:=by unfold z5a;rw[if_pos (by lia)];rw[←dl,hlen]
    rw[z2,e]
    congr 1
    exact (z9b us).symm
   ·rintro fin' s' ⟨v,rfl,h⟩
    exact⟨_,rfl,wpAny_pure ⟨_,rfl,h⟩⟩
  ·rw[if_neg h2,if_neg h2]
   rw[q0h] at h2
   have hn:2≤us.length:=by lia
   have hd4:=z3l gD hd
   have item:∀i,i<us.length→IsD X.K (upd H D (EL D e1)) (xs.getD i .non) (.t (ds.getD i []))∧RelV (xs.getD i .non) (us.getD i Value.none):=fun i hi=>y2O hd4 hV i (by lia)
   obtain⟨fs,tf,lf,zf⟩:=y3F I4 hd4 (hf (by lia)) hV
   refine wpAny_bind (PySem.W.kat_kind (T:= .type "int") (fs:=fs) tf (by lia) (fun v hv=>?_) rfl ?_)
   ·obtain⟨n,t,rfl⟩:=zf v hv
    exact PySem.W.Looks.of_pure rfl
   rw[bT]
   have est:SortSt.mk' (tuples' true) (us.toArray.zip us.toArray) #[] 7 none=kas_st (tuples' true) (pairsOf us) (List.toArray (List.range us.length)):=by
        have e:=kas_range (pairsOf us)
        rw[pairsOf_size] at e
        show SortSt.mk' (tuples' true) (pairsOf us) #[] 7 none=SortSt.mk' (tuples' true) ((List.toArray (List.range us.length)).map (kas_item (pairsOf us))) #[] 7 none
        rw[e]
   have ask:(kas_sort us.length).kasWp (kas_cmp X.prog X.w X.A.in1.in1 (tuples' true) (pairsOf us)) (fun p s'=>s'={s with heap:=h4,toks:=tk}∧p.toList=z5a ds) {s with heap:=h4,toks:=tk}:=by
        refine TrT.wp (n:=us.length) (c:=fun i j=>lts (ds.getD i []) (ds.getD j [])) (fun i j C hi hj hC=>?_) (z9K (by lia)) ⟨rfl,?_⟩
        ·unfold kas_cmp
         rw[PySem.W.kas_item_eq,PySem.W.kas_item_eq]
         obtain⟨c1,c2⟩:=item i hi
         obtain⟨c3,c4⟩:=item j hj
         refine y5c (n:=8) I4 (show X.A.units+1+1+8+1<cLine by lia) c1 c3 c2 c4 (hok _ ?_ _ ?_) (hf (by lia) _ ?_) (hf (by lia) _ ?_) hC
         all_goals rw[q0a,q0c (by lia)];exact q0y _
        ·unfold z5a
         rw[if_neg (by lia),←dl,hlen]
   have run:=kas_runs (E:=fun _ _=>False) (Q:=fun _ st' s'=>s'={s with heap:=h4,toks:=tk}∧(arrOf st').map (·.2)=List.toArray ((z5a ds).map fun i=>us.getD i Value.none)∧failedOf st'=none) hn (by lia) (fun p' st' s' a1 a2 a3 a4=>⟨a4.1,?_,a3⟩) ask
   ·rw[←est] at run
    refine wpAny_bind (wpAny_mono run ?_ fun _ _ e=>e.elim)
    rintro⟨⟨⟩,st'⟩ s' ⟨rfl,ho,hf⟩
    refine wpAny_mono (tail st' ho hf) ?_ (fun _ _ h=>h.elim)
    rintro fin' s' ⟨v,rfl,h⟩
    exact⟨_,rfl,wpAny_pure ⟨_,rfl,h⟩⟩
   ·apply Array.toList_inj.mp
    rw[a2,Array.map_map,Array.toList_map,a4.2]
    exact q1l fun i _=>by show (kas_item (pairsOf us) i).2 =_;rw[PySem.W.kas_item_eq]
end
end Srt
open Srt
section
variable {X:Cx}{K:PySem.W.Frag}{w:World}
def cSetT (w:World):List V→Hp→VK→Prop:=fun vs H Q=>∃(l:Addr) (as:List Addr) (kss:List (List Int)),vs=[.ref l]∧H l=some (.lst (as.map V.ref))∧TsA H as kss∧(kss.map St.tH).Nodup ∧as.length<64∧
 ∀(S:Addr) (H':Hp),H S=none→Same H H'→H' S=some (y6k w S as)→Q (.ref S) H'
theorem y1B (hw:X.w=w) (hc:X.calm=true) (hu:X.A.units+64<cLine):z2B X (.type "set") (cSetT w):=by
 subst hw
 intro pins s σ H xs us Q I r h
 obtain⟨l,as,kss,rfl,hl,hts,hap,h64,q⟩:=h
 obtain⟨u,rfl,ru⟩:=z6Z r
 cases (show u=Value.ref l from ru)
 obtain⟨z,us,n,hV,hlen,el⟩:=I.lstM hl
 have eus:us=as.map Value.ref:=z4S hV
 subst eus
 refine St.call_set (kss:=kss) (I.ok.hd hc) (by lia) ⟨_,el,rfl,n,rfl⟩ hts.1 (fun i a ks e1 e2=>?_) hap h64 fun h' tk hS keep=>?_
 ·obtain⟨its,rv,⟨o,p1,p2,n2,p3⟩,_⟩:=I.tuple (SqT.of (hts.2 i a ks e1 e2))
  exact⟨o,its.toArray,n2,p1,p2,p3,by rw[List.toList_toArray];exact z5f rv⟩
 ·have fr:H s.heap.objs.size=none:=I.hok.fresh (q0e _)
  have eps:=y3u hts.1
  refine⟨.ref s.heap.objs.size,_,I.laid (a:=s.heap.objs.size) (o:=y6k X.w s.heap.objs.size as) (t':=tk) keep (q0e _) ⟨⟨_,hS,eps⟩,?_,?_⟩,rfl,q _ _ fr (fun b o e=>by rw[z0m (z0i e fr)];exact e) z0c⟩
  ·obtain⟨es,ep,t,ho,_⟩:=hS
   exact⟨_,ho⟩
  ·rintro h1 h2 ⟨ps,hp,e⟩ k
   exact⟨ps,hp.keep k,e⟩
def y6g (w:World):List V→Hp→VK→Prop:=fun vs H Q=>∃(S:Addr) (as:List Addr) (kss:List (List Int)),vs=[.ref S]∧H S=some (y6k w S as)∧TsA H as kss∧as.length<64∧(2≤as.length→∀ks∈kss,ks≠[])∧
 ∀(D:Addr) (bs:List Addr) (rs:List (List Int)) (H':Hp),H D=none→Same H H'→H' D=some (.lst (bs.map V.ref))→rs.Perm kss→TsA H' bs (z5v rs)→Q (.ref D) H'
theorem z9y (hw:X.w=w) (hc:X.calm=true) (hu:X.A.units+64<cLine):z2B X (.builtin "sorted") (y6g w):=by
 subst hw
 intro pins s σ H xs us Q I r h
 obtain⟨S,as,kss,rfl,hS,hts,h64,hn0,q⟩:=h
 obtain⟨u,rfl,ru⟩:=z6Z r
 cases (show u=Value.ref S from ru)
 exact y0c (I.ok.hd hc) hu I hS hts h64 hn0 q
end
end L2
namespace L2
open PySem PySem.Spec PyProof.Rows
def top (i:Nat):Stmt:=PySem.Challenge.pw_wallspace_k41_whole_lands.main.body.getD i (.Pass ⟨0,0,0,0⟩)
structure Txt (mg:Str→Option Value):Prop where
 abs:mg "abs"=none
 len:mg "len"=none
 isinstance:mg "isinstance"=none
 int:mg "int"=none
 bool:mg "bool"=none
 tuple:mg "tuple"=none
 list:mg "list"=none
 any:mg "any"=none
 min:mg "min"=none
 max:mg "max"=none
 range:mg "range"=none
 enumerate:mg "enumerate"=none
 zip:mg "zip"=none
 sorted:mg "sorted"=none
 set:mg "set"=none
 sum:mg "sum"=none
 all:mg "all"=none
 ValueError:mg "ValueError"=none
 reversed:mg "reversed"=none
section
open Fr
open Builtin.Int (intBits)
variable {P:Program}{w:World}{K:PySem.W.Frag}{mg:Str→Option Value}{base:Heap}{f:Addr}{fd:FuncData}
abbrev z1Z:Stmt:=top 4
theorem sc_divisor:z0z ["one","other","rest"] ["one","other"] (z0g z1Z):=⟨rfl,rfl,rfl,by decide+kernel,rfl,by decide+kernel,by decide+kernel⟩
def z1I:Sp:=fun vs H Q _=>∃a b:Int,vs=[.int a,.int b]∧Q (.int (Int.gcd a b:Int)) H
theorem z9n (T:Txt mg) (F:Fun K "divisor" "divisor" z1Z f fd):FnOk P w K mg base CX0 1 f fd ["one","other"] z1I:=by
 refine F.ok sc_divisor (fun vs H Q E h=>?_) (fun cdv A outer s H vs Q E hr h=>?_)
 ·obtain⟨a,b,rfl,_⟩:=h;rfl
 obtain⟨a,b,rfl,q⟩:=h
 refine⟨_,(z0b (z7X PassesOwn.never (z0x z3E (pv 1) z0e (z0F _)) (z0b (z0n (i:=2) sc_divisor.nd rfl (Or.inl rfl) (z0q y4x (pv 0) (pv 1)))
  (z0b (z0n (i:=0) sc_divisor.nd rfl (Or.inl rfl) (pv 1))
  (z0h (z0n (i:=1) sc_divisor.nd rfl (Or.inl rfl) (pv 2))))))
  (z0h (z0A (z0y z2O rfl T.abs boot_abs (z0a (pv 0) z0d))))),?_⟩
 refine z7K (fun σ H'=>H'=H∧∃x y r,σ=[some (.int x),some (.int y),r]∧Int.gcd x y=Int.gcd a b) (fun σ _=>match σ with|[_,some (.int y),_]=>y.natAbs|_=>0) ⟨rfl,a,b,none,rfl,rfl⟩ ?_ ?_
 ·rintro σ H' ⟨rfl,x,y,r,rfl,hg⟩
  refine⟨_,rfl,rfl,_,rfl,?_⟩
  by_cases hy:y=0
  ·subst hy
   refine z3r ?_
   refine⟨_,rfl,_,rfl,?_⟩
   rw[y4Y hg rfl]
   exact q
  ·rw[show (!decide (V.int y=V.int 0))=true from by simp[hy]]
   refine z7x ?_
   refine⟨_,rfl,_,rfl,_,_,rfl,rfl,hy,?_⟩
   refine⟨_,rfl,?_⟩
   refine⟨_,rfl,?_⟩
   exact⟨⟨rfl,y,x.fmod y,_,rfl,turn hg⟩,less hy⟩
 ·rintro σ H' Q1 Q2 hQ ⟨v,e,e2,k,ek,qk⟩
  exact⟨v,e,e2,k,ek,hQ _ _ qk⟩
end
section
open Fr
open Builtin.Int (intBits)
variable {P:Program}{w:World}{K:PySem.W.Frag}{mg:Str→Option Value}{base:Heap}{f:Addr}{fd:FuncData}
abbrev z1W:Stmt:=top 27
theorem z8Y:z0z ["_law_found"] ["_law_found"] (z0g z1W):=⟨rfl,rfl,rfl,by decide+kernel,rfl,by decide+kernel,by decide+kernel⟩
def z7d:Sp:=fun vs H Q _=>∃i:Int,vs=[.int i]∧Q (.bl true) H
theorem z9k (T:Txt mg) (F:Fun K "_law_whole" "_law_whole" z1W f fd):FnOk P w K mg base CX0 1 f fd ["_law_found"] z7d:=by
 refine F.ok z8Y (fun vs H Q E h=>?_) (fun cdv A outer s H vs Q E hr h=>?_)
 ·obtain⟨_,rfl,_⟩:=h;rfl
 obtain⟨i,rfl,q⟩:=h
 refine⟨_,(z0h (z0A (y3w (z0y z1g rfl T.isinstance boot_isinstance (z0a (pv 0) (z0a (z2Y (v:= .ty "int") rfl T.int boot_int rfl) z0d))) (y3v (y5y (z0y z1g rfl T.isinstance boot_isinstance (z0a (pv 0) (z0a (z2Y (v:= .ty "bool") rfl T.bool boot_bool rfl) z0d)))))))),?_⟩
 refine⟨_,rfl,_,_,_,_,rfl,.int _,rfl,_,rfl,?_⟩
 refine z7x ?_
 exact⟨_,rfl,_,_,_,_,rfl,.int _,rfl,_,rfl,q⟩
end
section
open Fr
open Builtin.Int (intBits)
variable {P:Program}{w:World}{K:PySem.W.Frag}{mg:Str→Option Value}{base:Heap}{f:Addr}{fd:FuncData}
abbrev z1q:Stmt:=top 28
theorem sc_l_divisor:z0z ["_law_one","_law_other"] ["_law_one","_law_other"] (z0g z1q):=⟨rfl,rfl,rfl,by decide+kernel,rfl,by decide+kernel,by decide+kernel⟩
theorem turnE {a0 b0 a b:Int} (h:Int.gcd a b=Int.gcd a0 b0):Int.gcd b (a%b)=Int.gcd a0 b0:=by
 rw[Int.emod_def,Int.gcd_sub_mul_left_right,Int.gcd_comm b a]
 exact h
theorem y4R (a b:Int):Int.gcd (if a<0 then -a else a) (if b<0 then -b else b)=Int.gcd a b:=by
 split<;>split<;>simp[Int.gcd_neg,Int.neg_gcd]
theorem z6A (T:Txt mg) (F:Fun K "_law_divisor" "_law_divisor" z1q f fd):FnOk P w K mg base CX0 1 f fd ["_law_one","_law_other"] z1I:=by
 refine F.ok sc_l_divisor (fun vs H Q E h=>?_) (fun cdv A outer s H vs Q E hr h=>?_)
 ·obtain⟨_,_,rfl,_⟩:=h;rfl
 obtain⟨a,b,rfl,q⟩:=h
 refine⟨_,(z0b (z0n (i:=0) sc_l_divisor.nd rfl (Or.inl rfl) (z0y z2O rfl T.abs boot_abs (z0a (pv 0) z0d)))
  (z0b (z0n (i:=1) sc_l_divisor.nd rfl (Or.inl rfl) (z0y z2O rfl T.abs boot_abs (z0a (pv 1) z0d)))
  (z0b (z7X PassesOwn.never (z0x z6y (pv 1) z0e (z0F _)) (z0h (y5r (i:=0) (j:=1) rfl sc_l_divisor.nd rfl rfl (by decide) rfl rfl (z0a (pv 1) (z0a (z0q z0V (pv 0) (pv 1)) z0d)) (by rfl))))
  (z0h (z0A (pv 0)))))),?_⟩
 refine⟨_,rfl,_,rfl,?_⟩
 refine⟨_,rfl,_,rfl,?_⟩
 refine z7K (fun σ H'=>H'=H∧∃x y,σ=[some (.int x),some (.int y)]∧0≤x∧0≤y∧Int.gcd x y=Int.gcd a b) (fun σ _=>match σ with|[_,some (.int y)]=>y.natAbs|_=>0)
  ⟨rfl,_,_,rfl,by split<;>lia,by split<;>lia,y4R a b⟩ ?_ ?_
 ·rintro σ H' ⟨rfl,x,y,rfl,hx,hy,hg⟩
  refine⟨_,rfl,_,_,rfl,rfl,_,rfl,?_⟩
  refine z5g (fun c=>?_) (fun c=>?_)
  ·have c':0<y:=of_decide_eq_true c
   refine⟨_,rfl,_,rfl,_,rfl,_,_,rfl,rfl,c',_,_,rfl,?_⟩
   have m0:=Int.emod_nonneg x (Int.ne_of_gt c')
   have m1:=Int.emod_lt_of_pos x c'
   refine⟨⟨rfl,y,x%y,rfl,hy,m0,turnE hg⟩,?_⟩
   show (x%y).natAbs <y.natAbs
   lia
  ·have c':¬0<y:=fun z=>c (decide_eq_true z)
   have y0:y=0:=by lia
   subst y0
   refine⟨_,rfl,?_⟩
   have e:x=(Int.gcd a b:Int):=by rw[←hg,Int.gcd_zero];lia
   rw[←e] at q
   exact q
 ·rintro σ H' Q1 Q2 hQ ⟨v,e,i,j,e2,e3,k,ek,qk⟩
  exact⟨v,e,i,j,e2,e3,k,ek,hQ _ _ qk⟩
end
end L2
namespace L2
open PySem PySem.Spec PyProof.Rows
section
open Fr Wl
open Builtin.Int (intBits)
variable {P:Program}{w:World}{K:PySem.W.Frag}{mg:Str→Option Value}{base:Heap}{f:Addr}{fd:FuncData}
theorem z8N (rs:List Int):(rs.map V.int).any trV=true↔∃n∈rs,n≠0:=by
 rw[List.any_map,q1S]
 constructor
 ·rintro⟨n,hn,h⟩
  exact⟨n,hn,by simpa[trV] using h⟩
 ·rintro⟨n,hn,h⟩
  exact⟨n,hn,by simpa[trV] using h⟩
theorem z9d (rs:List Int):∀y∈rs.map V.int,PlV y:=fun y hy=>by
 obtain⟨n,_,rfl⟩:=q0f.mp hy
 trivial
abbrev z0O:Stmt:=top 5
theorem sc_divisor_of_all:z0z ["numbers","shared","number"] ["numbers"] (z0g z0O):=⟨rfl,rfl,rfl,by decide+kernel,rfl,by decide+kernel,by decide+kernel⟩
def z7T (K:PySem.W.Frag):Sp:=fun vs H Q _=>∃(p:Addr) (rs:List Int),vs=[.ref p]∧SqA K H p (rs.map V.int)∧rs.length≤1000∧Q (.int (z1S rs:Nat)) H
theorem z3F (T:Txt mg) (F:Fun K "divisor_of_all" "divisor_of_all" z0O f fd) (c_divisor:Cal P w K mg base 1 "divisor" ["one","other"] z1I):FnOk P w K mg base CX0 2 f fd ["numbers"] (z7T K):=by
 refine F.ok sc_divisor_of_all (fun vs H Q E h=>?_) (fun cdv A outer s H vs Q E hr h=>?_)
 ·obtain⟨_,_,rfl,_⟩:=h;rfl
 obtain⟨p,rs,rfl,hS,hlen,q⟩:=h
 obtain⟨b,hB⟩:=hS.toB
 refine⟨_,(z0b (z0n (i:=1) sc_divisor_of_all.nd rfl (Or.inl rfl) z0e)
  (z0b (z1b PassesOwn.never rfl (z6w (K:=K) rfl (pv 0)) (z0j (i:=2) sc_divisor_of_all.nd rfl (Or.inl rfl)) (z0h (z0n (i:=1) sc_divisor_of_all.nd rfl (Or.inl rfl) (z0s c_divisor hr rfl (z0a (pv 1) (z0a (pv 2) z0d))))))
  (z0h (z0A (pv 1))))),?_⟩
 refine⟨_,rfl,p,b,_,rfl,hB,?_⟩
 refine z0H (z4q K b p (rs.map V.int)) (fun i σ H'=>H'=H∧∃s2,σ=[some (.ref p),some (.int (z1S (rs.take i):Nat)),s2]) ⟨rfl,_,rfl⟩ (fun i σ H' _ h=>h.1▸hB) ?_ ?_
 ·rintro i x σ H4 H5 hi ⟨rfl,s2,rfl⟩ ⟨rfl,hx⟩
  rw[q0k] at hx
  obtain⟨n,hn,rfl⟩:=q0A.mp hx
  have tk:rs.take (i+1)=rs.take i++[n]:=by rw[q0Q,hn];rfl
  refine⟨_,rfl,_,rfl,_,_,rfl,?_⟩
  rw[tk,z6J]
  exact⟨rfl,_,rfl⟩
 ·rintro σ H4 ⟨rfl,s2,rfl⟩
  rw[q0b,q0R]
  exact⟨_,rfl,q⟩
theorem z7F (rs:List Int) (h:z1a rs≠0):atI (((rs.map V.int).filter fun v=>match v with| .int n=> !decide (V.int n=V.int 0)|_=>false).map fun v=>v) 0=some (.int (z1a rs)):=by
 rw[List.map_id']
 induction rs with
 |nil=>exact absurd rfl h
 |cons m r ih=>
  rw[q0t]
  by_cases hm:m=0
  ·subst hm
   rw[q0U (by simp)]
   have e:z1a (0::r)=z1a r:=if_pos rfl
   rw[e] at h ⊢
   exact ih h
  ·rw[q0O (by simp[hm])]
   have e:z1a (m::r)=m:=if_neg hm
   rw[e]
   exact z2m (j:=0) rfl
end
section
open Fr Wl
open Builtin.Int (intBits)
variable {P:Program}{w:World}{K:PySem.W.Frag}{mg:Str→Option Value}{base:Heap}{f:Addr}{fd:FuncData}
theorem z0o {S1 S2:TS}{D:y3V}{σ:St}{H:Hp} (I:St→Hp→Prop) (h1:∀N:St→Hp→Prop,(∀σ' H',I σ' H'→N σ' H')→S1 {D with nx:=N} σ H) (h2:∀σ' H',I σ' H'→S2 D σ' H'):tSeq S1 S2 D σ H:=h1 _ h2
theorem z6P {i:Int} (h1: -(2^64)<i) (h2:i<2^64):intBits i≤64:=intBits_le_64 h1 h2
theorem z1R {ns:List Int}{k:Int} (h0:0≤k) (h:k<ns.length):atI (ns.map V.int) k=some (.int (ns.getD k.toNat 0)):=by
 have hk:k.toNat<ns.length:=by lia
 have ek:k=((k.toNat:Nat):Int):=by lia
 rw[ek]
 refine z2m ?_
 rw[q0k,q0G,q0a,q0c hk]
 rfl
abbrev z3z:Stmt:=top 30
theorem sc_l_mix:z0z ["_law_script","_law_k","_law_cell","_law_number"] ["_law_script","_law_k"] (z0g z3z):=⟨rfl,rfl,rfl,by decide+kernel,rfl,by decide+kernel,by decide+kernel⟩
def y5i (K:PySem.W.Frag):Sp:=fun vs H Q _=>∃(a:Addr) (ns:List Int) (k:Int),vs=[.ref a,.int k]∧SqL K H a (ns.map V.int)∧ns.length≤63∧0≤k∧k≤1000000∧∀r:Int,0≤r→r<2147483587→Q (.int r) H
theorem y2A (T:Txt mg) (F:Fun K "_law_mix" "_law_mix" z3z f fd):FnOk P w K mg base CX0 1 f fd ["_law_script","_law_k"] (y5i K):=by
 refine F.ok sc_l_mix (fun vs H Q E h=>?_) (fun cdv A outer s H vs Q E hr h=>?_)
 ·obtain⟨_,_,_,rfl,_⟩:=h;rfl
 obtain⟨a,ns,k,rfl,hS,h63,h0,h1,q⟩:=h
 refine⟨_,(z0b (z0n (i:=2) sc_l_mix.nd rfl (Or.inl rfl) z0e)
  (z0b (z1c (z0x z6y (z0y (z0S (K:=K) rfl) rfl T.len PySem.boot_len (z0a (pv 0) z0d)) z0e (z0F _)) (z0h (z0n (i:=2) sc_l_mix.nd rfl (Or.inl rfl) (z0K (z0r (K:=K) rfl) (pv 0) (z0q z0V (pv 1) (z0y (y1C rfl) rfl T.min boot_min (z0a z0e (z0a (z0y (z0S (K:=K) rfl) rfl T.len PySem.boot_len (z0a (pv 0) z0d)) z0d)))) (fun _ _=>rfl)))) z0C)
  (z0b (z0n (i:=3) sc_l_mix.nd rfl (Or.inl rfl) (z0q z0V (z0q z1o (pv 2) (z0q z0L z0e (z0q z1o (pv 1) z0e))) z0e))
  (z0b (z0n (i:=3) sc_l_mix.nd rfl (Or.inl rfl) (z0q z0V (z0q z1o (z0q z0L (pv 3) (pv 3)) (pv 1)) z0e))
  (z0h (z0A (z0q z0V (z0q z0L (pv 3) (pv 3)) z0e))))))),?_⟩
 have hl:(ns.map V.int).length =ns.length:=q0b _
 refine⟨_,rfl,a,_,rfl,.inl hS,_,_,rfl,rfl,_,rfl,?_⟩
 refine z5g (fun c=>?_) (fun c=>?_)
 case' _=>
  have c':0<(((ns.map V.int).length :Nat):Int):=of_decide_eq_true c
  rw[hl] at c'
  have em:(if (((ns.map V.int).length :Nat):Int)<63 then (((ns.map V.int).length :Nat):Int) else 63)=ns.length:=by rw[hl];split<;>lia
  refine⟨_,rfl,_,rfl,_,rfl,a,_,rfl,.inl hS,_,_,rfl,?_⟩
  rw[em]
  refine⟨_,_,rfl,rfl,c',a,_,_,_,rfl,rfl,hS,z1R (Int.emod_nonneg _ (by lia)) (Int.emod_lt_of_pos _ c'),?_⟩
 all_goals
  refine⟨_,rfl,_,rfl,_,_,rfl,rfl,_,_,rfl,rfl,z1z (m:=64) (n:=64) (z6P (by lia) (by lia)) (z6P (by lia) (by lia)),_,_,rfl,rfl,_,_,rfl,rfl,cm,?_⟩
  have z1:∀x:Int,intBits (x%2147483629)≤64:=fun x=>z6P (by lia) (by lia)
  refine⟨_,rfl,_,rfl,_,_,rfl,rfl,z1z (m:=64) (n:=64) (z1 _) (z1 _),_,rfl,_,_,rfl,rfl,_,_,rfl,rfl,cm,?_⟩
  exact⟨_,rfl,_,rfl,_,_,rfl,rfl,z1z (m:=64) (n:=64) (z1 _) (z1 _),_,_,rfl,rfl,cm,q _ (by lia) (by lia)⟩
abbrev z1Y:Stmt:=top 31
theorem sc_l_draws:z0z ["_law_script","_law_cell","_law_found","_law_k"] ["_law_script"] (z0g z1Y):=⟨rfl,rfl,rfl,by decide+kernel,rfl,by decide+kernel,by decide+kernel⟩
def z9W (K:PySem.W.Frag):Sp:=fun vs H Q _=>∃(a:Addr) (ss:List Int),vs=[.ref a]∧SqL K H a (ss.map V.int)∧ss.length≤63∧
 ∀(ds:List Int) (l:Addr) (H':Hp),H l=none→ds.length=60→(∀d∈ds,0≤d∧d<2147483587)→Same H H'→H' l=some (.lst (ds.map V.int))→Q (.ref l) H'
theorem z9w {xs us:List V} (h:Each (fun _ u=>∃n:Int,u=V.int n∧0≤n∧n<2147483587) xs us):∃ps:List Int,us=ps.map V.int∧ps.length=xs.length∧∀n∈ps,0≤n∧n<2147483587:=by
 induction h with
 |nil=>exact⟨[],rfl,rfl,fun n h=>by cases h⟩
 |cons e _ ih=>
  obtain⟨n,rfl,n0⟩:=e
  obtain⟨ps,rfl,hl,hp⟩:=ih
  refine⟨n::ps,rfl,by simp[hl],fun k hk=>?_⟩
  rcases q0l.mp hk with rfl|hk
  ·exact n0
  ·exact hp k hk
def y4n (n:Nat):List V:=(List.range n).map fun i=>V.int ((0:Int)+(i:Nat))
theorem y4m {n i:Nat} (h:i<n):(y4n n)[i]? =some (V.int (0+(i:Nat))):=by
 unfold y4n
 rw[q0k,List.getElem?_range h];rfl
theorem z5z (n:Nat):(y4n n).length =n:=by unfold y4n;rw[List.length_map,List.length_range]
theorem z7m (n:Nat):z6a (Itr 0 n) (y4n n).length (fun _=>True) (fun i H x H'=>H'=H∧(y4n n)[i]? =some x):=by
 have r:=z1D 0 n
 rw[z5z]
 exact⟨r.go,r.stop,fun i H x H' h hi y=>by
  obtain⟨e1,e2⟩:=r.yld i H x H' h hi y
  exact⟨e1,by rw[y4m hi,e2]⟩⟩
theorem z9m (T:Txt mg) (F:Fun K "_law_draws" "_law_draws" z1Y f fd) (c_l_mix:Cal P w K mg base 1 "_law_mix" ["_law_script","_law_k"] (y5i K)):FnOk P w K mg base CX0 2 f fd ["_law_script"] (z9W K):=by
 refine F.ok sc_l_draws (fun vs H Q E h=>?_) (fun cdv A outer s H vs Q E hr h=>?_)
 ·obtain⟨_,_,rfl,_⟩:=h;rfl
 obtain⟨a,ss,rfl,hS,h63,q⟩:=h
 refine⟨_,(z0b (z0n (i:=1) sc_l_draws.nd rfl (Or.inl rfl) z0e)
  (z0b (z1c (z0x z6y (z0y (z0S (K:=K) rfl) rfl T.len PySem.boot_len (z0a (pv 0) z0d)) z0e (z0F _)) (z0h (z0n (i:=1) sc_l_draws.nd rfl (Or.inl rfl) (z0K (z0r (K:=K) rfl) (pv 0) z0e (fun _ _=>rfl)))) z0C)
  (z0b (z1c (z0x z4x (z0q z0V (pv 1) z0e) z0e (z0F _)) (z0h (z0A (z0N (Nc:=["_law_k","_law_script"]) (fr:=[none,some 0]) rfl (z2d rfl T.range (z0a z0e z0d)) rfl (by decide) rfl (by decide) rfl ⟨rfl,trivial⟩ ⟨⟨rfl,rfl,rfl,rfl⟩,trivial⟩ (fun _ _ _ _=>(z0j (i:=0) (show List.Nodup (["_law_k","_law_script"]:List Str) from by decide) rfl (Or.inl rfl))) (fun _ _ _ _=>z0Q) (fun _ _ _ _=>(z0s c_l_mix hr rfl (z0a (pv 1) (z0a (pv 0) z0d))))))) z0C)
  (z0b (z0n (i:=2) sc_l_draws.nd rfl (Or.inl rfl) (z0P z0d))
  (z0b (z0n (i:=1) sc_l_draws.nd rfl (Or.inl rfl) (z0q z5D (pv 1) z0e))
  (z0b (z1b PassesOwn.never rfl (z2d rfl T.range (z0a z0e z0d)) (z0j (i:=3) sc_l_draws.nd rfl (Or.inl rfl)) (z0b (z2X (z9f PySem.F.plainAttrs_list PySem.F.slot_list_append PySem.F.type_list_append z1K (pv 2) (z0a (z0q z0V (pv 1) z0e) z0d)))
  (z0h (z0n (i:=1) sc_l_draws.nd rfl (Or.inl rfl) (z0q z5D (pv 1) z0e)))))
  (z0h (z0A (pv 2))))))))),?_⟩
 have hl:(ss.map V.int).length =ss.length:=q0b _
 refine z0o (fun σ H'=>H=H'∧∃(c:Int),σ=[some (.ref a),some (.int c),none,none]) (fun N hN=>?_) ?_
 ·exact hN _ _ ⟨rfl,_,rfl⟩
 rintro σ H' ⟨rfl,c,rfl⟩
 refine z0o (fun σ H'=>H=H'∧∃(c:Int),σ=[some (.ref a),some (.int c),none,none]) (fun N hN=>?_) ?_
 ·refine⟨_,rfl,a,_,rfl,.inl hS,_,_,rfl,rfl,_,rfl,?_⟩
  refine z5g (fun c=>?_) (fun c=>?_)
  ·have c':0<(((ss.map V.int).length :Nat):Int):=of_decide_eq_true c
   rw[hl] at c'
   exact⟨_,rfl,a,_,_,_,rfl,rfl,hS,z1R (by decide) c',hN _ _ ⟨rfl,_,rfl⟩⟩
  ·exact hN _ _ ⟨rfl,_,rfl⟩
 rintro σ H' ⟨rfl,c,rfl⟩
 refine⟨_,rfl,_,_,rfl,rfl,cm,rfl,_,rfl,?_⟩
 refine z5g (fun c=>?_) (fun c=>?_)
 ·refine⟨_,rfl,by decide,by decide,fun D hD=>?_⟩
  refine z6L rfl (z7m 60) hD (fun _=>true) (fun _ _ u=>∃n:Int,u=V.int n∧0≤n∧n<2147483587) (fun _ _ _ _ _ _ h=>h) (fun _ _=>trivial) (z0k (by rw[z5z];decide)) ?_ ?_ ?_
  ·intro x hx Hc gc S h
   exact h _ (Same.refl _)
  ·intro x hx _ Hc gc S h
   unfold y4n at hx
   obtain⟨j,hj,rfl⟩:=q0f.mp hx
   have hj':=q1s.mp hj
   exact⟨_,rfl,_,rfl,a,ss,_,rfl,SqL.same gc hS,h63,by lia,by lia,fun r r0 r1=>h _ _ (Same.refl _) ⟨_,rfl,r0,r1⟩⟩
  intro xs H4 g4 hD4 he
  rw[z0E] at he
  obtain⟨ps,rfl,pl,zp⟩:=z9w he
  rw[z5z] at pl
  exact q ps D _ hD pl zp g4 hD4
 refine⟨q0S _,fun l hl0=>?_⟩
 have g0:=z0f hl0 (.lst [])
 have e0:upd H l (.lst []) l=some (.lst (([]:List Int).map V.int)):=z0c
 generalize upd H l (.lst [])=H0 at*
 refine⟨_,rfl,_,_,rfl,rfl,cf,?_⟩
 refine⟨_,rfl,by decide,by decide,?_⟩
 refine z0H (z1D 0 60) (fun i σ H'=>∃(ds:List Int) (num:Int) (s3:Option V),σ=[some (.ref a),some (.int num),some (.ref l),s3]∧H' l=some (.lst (ds.map V.int))∧ds.length=i∧(∀d∈ds,0≤d∧d<2147483587)∧Same H H')
  ⟨[],_,_,rfl,e0,rfl,by simp,g0⟩ (fun _ _ _ _ _=>trivial) ?_ ?_
 ·clear e0
  rintro i x σ H1 H2 hi ⟨ds,num,s3,rfl,hl1,hlen,hb,g⟩ ⟨rfl,rfl⟩
  have hz:(ds.map V.int).length <sizeLine:=z3I (by rw[q0b,hlen];lia)
  refine⟨_,rfl,.inl ⟨rfl,_,SqL.of hl1⟩,_,rfl,_,_,rfl,rfl,cm,l,_,_,rfl,rfl,hl1,hz,?_⟩
  refine⟨_,rfl,_,_,rfl,rfl,cf,?_⟩
  refine⟨ds++[num%5040],_,_,rfl,by rw[z0c,q0H];rfl,by simp[hlen],fun d hd=>?_,fun b u e=>by rw[z0m (z0i e hl0)];exact g _ _ e⟩
  rcases q0s.mp hd with hd|hd
  ·exact hb d hd
  ·rw[q0g.mp hd];lia
 ·rintro σ H1 ⟨ds,num,s3,rfl,hl1,hlen,hb,g⟩
  exact⟨_,rfl,q ds l _ hl0 hlen hb g hl1⟩
end
end L2
namespace L2
open PySem PySem.Spec PyProof.Rows
section
open Fr Wl
open Builtin.Int (intBits)
variable {P:Program}{w:World}{K:PySem.W.Frag}{mg:Str→Option Value}{base:Heap}{f:Addr}{fd:FuncData}
abbrev z1X:Stmt:=top 32
theorem sc_l_plain:z0z ["_law_row_here","_law_most","_law_number","_law_first"] ["_law_row_here"] (z0g z1X):=⟨rfl,rfl,rfl,by decide+kernel,rfl,by decide+kernel,by decide+kernel⟩
def z7e (K:PySem.W.Frag):Sp:=fun vs H Q _=>∃(p:Addr) (rs:List Int),vs=[.ref p]∧SqA K H p (rs.map V.int)∧rs.length≤1000∧(∀n∈rs,intBits n≤9000)∧(∃n∈rs,n≠0)∧
 ∀t H',Same H H'→H' t=some (.tup ((z0l rs).map V.int))→Q (.ref t) H'
theorem z9l (T:Txt mg) (F:Fun K "_law_plain" "_law_plain" z1X f fd) (c_l_divisor:Cal P w K mg base 1 "_law_divisor" ["_law_one","_law_other"] z1I):FnOk P w K mg base CX0 2 f fd ["_law_row_here"] (z7e K):=by
 refine F.ok sc_l_plain (fun vs H Q E h=>?_) (fun cdv A outer s H vs Q E hr h=>?_)
 ·obtain⟨_,_,rfl,_⟩:=h;rfl
 obtain⟨p,rs,rfl,hS,hlen,zb,hnz2,q⟩:=h
 obtain⟨b,hB1⟩:=hS.toB
 refine⟨_,(z0b (z0n (i:=1) sc_l_plain.nd rfl (Or.inr rfl) z0e)
  (z0b (z1b PassesOwn.never rfl (z6w (K:=K) rfl (pv 0)) (z0j (i:=2) sc_l_plain.nd rfl (Or.inl rfl)) (z0h (z0n (i:=1) sc_l_plain.nd rfl (Or.inr rfl) (z0s c_l_divisor hr rfl (z0a (pv 1) (z0a (pv 2) z0d))))))
  (z0b (z0n (i:=3) sc_l_plain.nd rfl (Or.inl rfl) (z0K (z0r (K:=K) rfl) (z0N (Nc:=["_law_number"]) (fr:=[none]) rfl (z6w (K:=K) rfl (pv 0)) rfl (by decide) rfl (by decide) rfl trivial trivial (fun _ _ _ _=>(z0j (i:=0) (show List.Nodup (["_law_number"]:List Str) from by decide) rfl (Or.inl rfl))) (fun _ _ _ _=>(z2W (z0x z3E (pv 0) z0e (z0F _)))) (fun _ _ _ _=>(pv 0))) z0e (fun _ _=>rfl)))
  (z0b (z1c (z0x y4y (pv 3) z0e (z0F _)) (z0h (z0n (i:=1) sc_l_plain.nd rfl (Or.inr rfl) (z0q z1P z0e (pv 1)))) z0C)
  (z0h (z0A (z1v (z4I (K:=K) rfl) rfl T.tuple boot_tuple (z0a (z0N (Nc:=["_law_number","_law_most"]) (fr:=[none,some 1]) rfl (z6w (K:=K) rfl (pv 0)) rfl (by decide) rfl (by decide) rfl ⟨rfl,trivial⟩ ⟨⟨rfl,rfl,rfl,rfl⟩,trivial⟩ (fun _ _ _ _=>(z0j (i:=0) (show List.Nodup (["_law_number","_law_most"]:List Str) from by decide) rfl (Or.inl rfl))) (fun _ _ _ _=>z0Q) (fun _ _ _ _=>(z0q z4w (pv 0) (pv 1)))) z0d)))))))),?_⟩
 refine⟨_,rfl,p,b,_,rfl,hB1,?_⟩
 refine z0H (z4q K b p (rs.map V.int)) (fun i σ H'=>H=H'∧∃s2,σ=[some (.ref p),some (.int (z1S (rs.take i):Nat)),s2,none]) ⟨rfl,_,rfl⟩ (fun i σ H' _ h=>h.1▸hB1) ?_ ?_
 ·rintro i x σ H4 H5 hi ⟨rfl,s2,rfl⟩ ⟨rfl,hx⟩
  rw[q0k] at hx
  obtain⟨n,hn,rfl⟩:=q0A.mp hx
  have tk:rs.take (i+1)=rs.take i++[n]:=by rw[q0Q,hn];rfl
  refine⟨_,rfl,_,rfl,_,_,rfl,?_⟩
  rw[tk,z6J]
  exact⟨rfl,_,rfl⟩
 rintro σ H1 ⟨rfl,s2,rfl⟩
 rw[q0b,q0R]
 refine⟨_,rfl,p,b,_,rfl,hB1,fun D hD=>?_⟩
 refine z1e rfl (z4q K b p (rs.map V.int)) hD (fun v=>match v with| .int n=> !decide (V.int n=V.int 0)|_=>false) (fun v=>v) (fun H' g'=>hB1.same g') (z0k (by rw[q0b];lia)) ?_ ?_ ?_
 ·intro x hx Hc gc S h
  obtain⟨n,_,rfl⟩:=q0f.mp hx
  exact⟨_,rfl,rfl,_,rfl,h⟩
 ·intro x hx _ Hc gc S h
  exact⟨_,rfl,h⟩
 ·refine⟨D,_,_,_,rfl,rfl,SqL.of z0c,z7F rs (z5J hnz2),?_⟩
  have gD:=z0f (H:=H) hD (.lst ((((rs.map V.int).filter fun v=>match v with| .int n=> !decide (V.int n=V.int 0)|_=>false)).map fun v=>v))
  generalize upd H D (.lst ((((rs.map V.int).filter fun v=>match v with| .int n=> !decide (V.int n=V.int 0)|_=>false)).map fun v=>v))=H5 at gD
  have hB5:=hB1.same gD
  refine⟨_,rfl,_,_,rfl,rfl,_,rfl,?_⟩
  have hby:byL rs≠0∧intBits (byL rs)≤9000:=⟨z2T hnz2,y3c hnz2 zb⟩
  refine z5g (fun c=>?_) (fun c=>?_)
  case' _=>
   have c':z1a rs<0:=of_decide_eq_true c
   have eb:0 - (z1S rs:Int)=byL rs:=by unfold byL;rw[if_pos c'];lia
   refine⟨_,rfl,_,_,rfl,rfl,?_⟩
   dsimp only
   rw[eb]
  rotate_left
  case' _=>
   have c':¬z1a rs<0:=fun z=>c (decide_eq_true z)
   have eb:(z1S rs:Int)=byL rs:=by unfold byL;rw[if_neg c']
   rw[eb]
  all_goals
   refine⟨_,rfl,p,b,_,rfl,hB5,fun D2 hD2=>?_⟩
   refine z1e rfl (z4q K b p (rs.map V.int)) hD2 (fun _=>true) (fun v=>match v with| .int n=> .int (n.fdiv (byL rs))|u=>u) (fun H' g'=>hB5.same g') (z0k (by rw[q0b];lia)) ?_ ?_ ?_
   ·intro x _ Hc _ S h
    exact h
   ·intro x hx _ Hc _ S h
    obtain⟨n,_,rfl⟩:=q0f.mp hx
    exact⟨_,rfl,_,rfl,_,_,rfl,rfl,hby,h⟩
   ·rw[z0E,q0M]
    have em:rs.map ((fun v=>match v with| .int n=>V.int (n.fdiv (byL rs))|u=>u)∘V.int)=(z0l rs).map V.int:=by
     unfold z0l
     rw[q0M];rfl
    rw[em]
    exact⟨D2,_,rfl,.inl ⟨SqL.of z0c,fun t ht=>q t _ (gD.trans ((z0f hD2 _).trans (z0f ht _))) z0c⟩⟩
end
end L2
namespace L2
open PySem PySem.Spec PyProof.Rows
section
open Fr Wl Rk
open Builtin.Int (intBits)
variable {P:Program}{w:World}{K:PySem.W.Frag}{mg:Str→Option Value}{base:Heap}{f:Addr}{fd:FuncData}
theorem z2y {n k:Nat} (h:k<n):ixN n (k:Int)=some k:=by
 unfold ixN
 rw[if_pos (by lia),if_pos (by lia)]
 rw[q0G]
theorem z9v (m:Nat):(List.replicate m [V.int 0]).flatten =(List.replicate m (0:Int)).map V.int:=by
 induction m with
 |zero=>rfl
 |succ m ih=>rw[List.replicate_succ,List.flatten_cons,ih,List.replicate_succ];rfl
theorem y5Q {K:PySem.W.Frag}{H:Hp}{a:Addr}{ns:List Int} (h:H a=some (.lst (ns.map V.int))):IsD K H (.ref a) (.l (ns.map Dt.i)):= .l (SqL.of h) (z3m ns)
theorem z8W {n:Int} (h:n.natAbs≤5000000000000000000):intBits n≤64:=intBits_le_of_natAbs (y:=5000000000000000000) h (by decide)
theorem y1i {ds:List Int} (h:∀d∈ds,0≤d∧d<2147483587) (j:Nat):0≤ds.getD j 0∧ds.getD j 0<2147483587:=by
 rw[q0a]
 cases e:ds[j]? with
 |none=>exact⟨Int.le_refl _,by decide⟩
 |some n=>exact h n (List.mem_of_getElem? e)
theorem z5O {rs:List Int}{b:Nat} (h:∀n∈rs,n.natAbs≤b) (j:Nat):(rs.getD j 0).natAbs ≤b:=by
 rw[q0a]
 cases e:rs[j]? with
 |none=>exact Nat.zero_le _
 |some n=>exact h n (List.mem_of_getElem? e)
def y6m (H:Hp) (a:Addr) (m k:Nat) (way:Int) (b:Nat):St→Hp→Prop:=fun σ H'=>∃(R:Addr) (rs:List Int) (s5 s6:Option V),σ=[some (.ref a),some (.int (m:Nat)),some (.int (k:Nat)),some (.int way),some (.ref R),s5,s6]∧H R=none∧H' R=some (.lst (rs.map V.int))∧rs.length=m+1∧(∀n∈rs,n.natAbs≤b)∧Same H H'
theorem z7o {H H':Hp}{a R:Addr}{m k b j:Nat}{way z:Int}{rs:List Int}{s5 s6:Option V} (hR:H R=none) (hl:rs.length=m+1) (hb:∀n∈rs,n.natAbs≤b) (g:Same H H') (hz:z.natAbs≤b):
 y6m H a m k way b [some (.ref a),some (.int (m:Nat)),some (.int (k:Nat)),some (.int way),some (.ref R),s5,s6] (upd H' R (.lst ((rs.map V.int).set j (.int z)))):=
 ⟨R,rs.set j z,s5,s6,rfl,hR,by rw[z0c,List.map_set],by rw[List.length_set];exact hl,fun n hn=>by
   rcases List.mem_or_eq_of_mem_set hn with hn|rfl
   ·exact hb n hn
   ·exact hz,fun c o e=>by rw[z0m (z0i e hR)];exact g _ _ e⟩
def RB (m:Nat) (rs:List Int):Prop:=(∀n∈rs,n.natAbs≤4000000000000000000)∧∀j,j<m→(v rs j).natAbs ≤4000000000
theorem RB.of {m:Nat}{rs:List Int} (h:∀n∈rs,n.natAbs≤3):RB m rs:=⟨fun n hn=>q0o (h n hn) (by decide),fun j _=>q0o (z5O h j) (by decide)⟩
theorem v_set {rs:List Int}{i j:Nat}{z:Int}:v (rs.set i z) j=z∨v (rs.set i z) j=v rs j:=by
 show (rs.set i z).getD j 0=z∨(rs.set i z).getD j 0=rs.getD j 0
 rw[q0a,q0a,List.getElem?_set]
 by_cases h:i=j
 ·rw[if_pos h]
  by_cases h2:i<rs.length
  ·rw[if_pos h2];exact .inl rfl
  ·rw[if_neg h2,q1o (by lia)];exact .inr rfl
 ·rw[if_neg h];exact .inr rfl
theorem y1V {rs:List Int}{i j:Nat}{z:Int} (h:i≠j):v (rs.set i z) j=v rs j:=by
 show (rs.set i z).getD j 0=rs.getD j 0
 rw[q0a,q0a,q1J h]
theorem RB.set {m i:Nat}{rs:List Int}{z:Int} (h:RB m rs) (hz:z.natAbs≤4000000000):RB m (rs.set i z):=⟨fun n hn=>by
 rcases List.mem_or_eq_of_mem_set hn with hn|rfl
 ·exact h.1 n hn
 ·exact q0o hz (by decide),fun j hj=>by
 rcases v_set (rs:=rs) (i:=i) (j:=j) (z:=z) with e|e
 ·rw[e];exact hz
 ·rw[e];exact h.2 j hj⟩
theorem RB.last {m:Nat}{rs:List Int}{z:Int} (h:RB m rs) (hz:z.natAbs≤4000000000000000000):RB m (rs.set m z):=⟨fun n hn=>by
 rcases List.mem_or_eq_of_mem_set hn with hn|rfl
 ·exact h.1 n hn
 ·exact hz,fun j hj=>by rw[y1V (by lia)];exact h.2 j hj⟩
def RowJ (H:Hp) (a:Addr) (m k:Nat) (way:Int):St→Hp→Prop:=fun σ H'=>∃(R:Addr) (rs:List Int) (s5 s6:Option V),σ=[some (.ref a),some (.int (m:Nat)),some (.int (k:Nat)),some (.int way),some (.ref R),s5,s6]∧H R=none∧H' R=some (.lst (rs.map V.int))∧rs.length=m+1∧RB m rs∧Same H H'
theorem y2s {Hx:Hp}{z1 z2 z3:Addr}{z:Int} (h0:0≤z) (h1:z<3) (e1:Hx z1=some (.lst [V.int 1,V.int 0,V.int 0,V.int 2])) (e2:Hx z2=some (.lst [V.int 0,V.int 1,V.int 1,V.int (-1)])) (e3:Hx z3=some (.lst [V.int 1,V.int 1,V.int 0,V.int 0])):
 ∃(y:Addr) (cs:List Int),atI [V.ref z1,V.ref z2,V.ref z3] z=some (.ref y)∧Hx y=some (.lst (cs.map V.int))∧cs.length=4∧∀n∈cs,n.natAbs≤3:=by
 rcases (by lia:z=0∨z=1∨z=2) with rfl|rfl|rfl
 ·exact⟨z1,[1,0,0,2],rfl,e1,rfl,by decide⟩
 ·exact⟨z2,[0,1,1,-1],rfl,e2,rfl,by decide⟩
 ·exact⟨z3,[1,1,0,0],rfl,e3,rfl,by decide⟩
abbrev z3y:Stmt:=top 33
theorem sc_l_row:z0z ["_law_draws_here","_law_ways","_law_k","_law_way","_law_row_here","_law_j","_law_at"] ["_law_draws_here","_law_ways","_law_k","_law_way"] (z0g z3y):=⟨rfl,rfl,rfl,by decide+kernel,rfl,by decide+kernel,by decide+kernel⟩
def y5h (K:PySem.W.Frag):Sp:=fun vs H Q _=>∃(a:Addr) (ds:List Int) (m k:Nat) (way:Int),vs=[.ref a,.int (m:Nat),.int (k:Nat),.int way]∧H a=some (.lst (ds.map V.int))∧ds.length=60∧(∀d∈ds,0≤d∧d<2147483587)∧1≤m∧m≤4∧k≤6∧
 ∀(t:Addr) (rs:List Int) (H':Hp),Same H H'→H' t=some (.tup ((z0l rs).map V.int))→rs.length=m+1→(∃j,j<m∧v rs j≠0)→((∀n∈rs,intBits n≤64)∧∀j,j<m→intBits (v rs j)≤32)→Q (.ref t) H'
theorem y2z (T:Txt mg) (F:Fun K "_law_row" "_law_row" z3y f fd) (c_l_plain:Cal P w K mg base 2 "_law_plain" ["_law_row_here"] (z7e K)):FnOk P w K mg base CX0 3 f fd ["_law_draws_here","_law_ways","_law_k","_law_way"] (y5h K):=by
 refine F.ok sc_l_row (fun vs H Q E h=>?_) (fun cdv A outer s H vs Q E hr h=>?_)
 ·obtain⟨_,_,_,_,_,rfl,_⟩:=h;rfl
 obtain⟨a,ds,m,k,way,rfl,ha,dl,db,m1,m4,k6,q⟩:=h
 apply Exists.intro
 apply And.intro
 ·apply z0b
  ·exact (z0n (i:=4) sc_l_row.nd rfl (Or.inl rfl) (z0P z0d))
  apply z0b
  ·exact (z1b PassesOwn.never rfl (z2d rfl T.range (z0a (z0q z1o (pv 1) z0e) z0d)) (z0j (i:=5) sc_l_row.nd rfl (Or.inl rfl)) (z0h (z2X (z9f PySem.F.plainAttrs_list PySem.F.slot_list_append PySem.F.type_list_append z1K (pv 4) (z0a (z0q z1P (z0q z0V (z0K (z0r (K:=K) rfl) (pv 0) (z0q z1o (z0q z1o z0e (z0q z0L z0e (pv 2))) (pv 5)) (fun _ _=>rfl)) z0e) z0e) z0d)))))
  apply z0b
  ·exact (z1c (z0x z4x (pv 3) z0e (z0F _)) (z0h (z2u z0e (z3f (pv 4) (pv 1) z1y))) z0C)
  apply z0b
  ·apply (z1c (z0x z4x (pv 3) z0e (z0F _)) (z0h (z0n (i:=4) sc_l_row.nd rfl (Or.inl rfl) (z0q z4y (z1O (z2h (K:=K) rfl) (z0K (z0r (K:=K) rfl) ?l (z0q z0V (z0K (z0r (K:=K) rfl) (pv 4) z0e (fun _ _=>rfl)) z0e) (fun _ _=>rfl)) z2w (z2v (pv 1))) (z0P (z0a (z0K (z0r (K:=K) rfl) (pv 4) (pv 1) (fun _ _=>rfl)) z0d))))) z0C)
   case l=>exact (z0P (z0a (z0P (z0a z0e (z0a z0e (z0a z0e (z0a z0e z0d))))) (z0a (z0P (z0a z0e (z0a z0e (z0a z0e (z0a (z2Q z1x z0e) z0d))))) (z0a (z0P (z0a z0e (z0a z0e (z0a z0e (z0a z0e z0d))))) z0d))))
  apply z0b
  ·exact (z1c (PW.pt (y5q (z0x z4x (pv 3) z0e (z0F _)) (y4q (z0x z6y (pv 1) z0e (z0F _))))) (z0b (z0n (i:=6) sc_l_row.nd rfl (Or.inl rfl) (z0q z0V (z0K (z0r (K:=K) rfl) (pv 4) z0e (fun _ _=>rfl)) (pv 1)))
  (z0b (z0n (i:=4) sc_l_row.nd rfl (Or.inl rfl) (z0q z4y (z0q z8g (z0P (z0a z0e z0d)) (pv 1)) (z0P (z0a (z0q z1P (z0q z0V (z0K (z0r (K:=K) rfl) (pv 4) (pv 1) (fun _ _=>rfl)) z0e) z0e) z0d))))
  (z0b (z2u z0e (z3f (pv 4) (pv 6) z1y))
  (z0h (z2u (z2Q z1x z0e) (z3f (pv 4) (z0q z0V (z0q z1o (z0q z1o (pv 6) z0e) (z0q z0V (z0q z5D (z0K (z0r (K:=K) rfl) (pv 0) (z0q z1o z0e (z0q z0L z0e (pv 2))) (fun _ _=>rfl)) z0e) (z0q z1P (pv 1) z0e))) (pv 1)) z1y)))))) z0C)
  apply z0b
  ·exact (z1c (z0x z4x (pv 3) z0e (z0F _)) (z0b (z2u (z0q z1o (z0q z0L (z0K (z0r (K:=K) rfl) (pv 4) (pv 1) (fun _ _=>rfl)) (y0q (v:=1000000000000000000) (by decide+kernel) z0e z0e)) (z0K (z0r (K:=K) rfl) (pv 0) (pv 2) (fun _ _=>rfl))) (z3f (pv 4) (pv 1) z1y))
  (z0h (z2u (z0q z1o (z0q z0L (z0K (z0r (K:=K) rfl) (pv 4) z0e (fun _ _=>rfl)) (y0q (v:=1000000000) (by decide+kernel) z0e z0e)) z0e) (z3f (pv 4) z0e z1y)))) z0C)
  apply z0b
  ·exact (z1c (z0x z4x (pv 3) z0e (z0F _)) (z0h (z3B (jj:=4) rfl sc_l_row.nd rfl (Or.inl rfl) (Or.inl rfl) (Nc:=["_law_number"]) (fr:=[none]) rfl (z0D (K:=K) rfl (pv 4)) rfl (by decide) rfl (by decide) rfl trivial trivial (fun _ _ _ _=>(z0j (i:=0) (show List.Nodup (["_law_number"]:List Str) from by decide) rfl (Or.inl rfl))) (fun _ _ _ _=>z0Q) (fun _ _ _ _=>(z0q z1P (z0q z0V (pv 0) z0e) z0e)))) z0C)
  apply z0b
  ·exact (z1c (z0x (y4z (K:=K) rfl hr.units) (z0N (Nc:=["_law_number"]) (fr:=[none]) rfl (z0D (K:=K) rfl (z1O (z2h (K:=K) rfl) (pv 4) z2w (z2v (pv 1)))) rfl (by decide) rfl (by decide) rfl trivial trivial (fun _ _ _ _=>(z0j (i:=0) (show List.Nodup (["_law_number"]:List Str) from by decide) rfl (Or.inl rfl))) (fun _ _ _ _=>(z2W (z0x z3E (pv 0) z0e (z0F _)))) (fun _ _ _ _=>(pv 0))) (z0P z0d) (z0F _)) (z0h (z2u z0e (z3f (pv 4) (z0q z1P (pv 1) z0e) z1y))) z0C)
  apply z0h
  ·exact (z0A (z0s c_l_plain hr rfl (z0a (pv 4) z0d)))
 have zs:∀z:Int,-1000≤z→z≤1000→intBits z≤64:=fun z h1 h2=>z6P (by lia) (by lia)
 refine z0o (fun σ H'=>∃R0:Addr,σ=[some (.ref a),some (.int (m:Nat)),some (.int (k:Nat)),some (.int way),some (.ref R0),none,none]∧H R0=none∧H' R0=some (.lst (([]:List Int).map V.int))∧Same H H') (fun N hN=>?_) ?_
 ·exact⟨q0S _,fun R0 hR0=>hN _ _ ⟨R0,rfl,hR0,z0c,z0f hR0 _⟩⟩
 rintro σ H0 ⟨R0,rfl,hR0,e0,g0⟩
 refine z0o (y6m H a m k way 3) (fun N hN=>?_) ?_
 ·refine⟨_,rfl,_,_,rfl,rfl,_,rfl,by lia,by lia,?_⟩
  rw[show ((m:Int)+1).toNat =m+1 by lia]
  refine z0H (z1D 0 (m+1)) (fun i σ H'=>∃(rs:List Int) (s5:Option V),σ=[some (.ref a),some (.int (m:Nat)),some (.int (k:Nat)),some (.int way),some (.ref R0),s5,none]∧H' R0=some (.lst (rs.map V.int))∧rs.length=i∧(∀n∈rs,n.natAbs≤3)∧Same H H') ⟨[],_,rfl,e0,rfl,by simp,g0⟩ (fun _ _ _ _ _=>trivial) ?_ ?_
  ·clear e0
   rintro i x σ H1 H2 hi ⟨rs,s5,rfl,e,el,eb,g⟩ ⟨rfl,rfl⟩
   have hz:(rs.map V.int).length <sizeLine:=z3I (by rw[q0b,el];lia)
   refine⟨_,rfl,.inl ⟨rfl,_,SqL.of e⟩,_,rfl,_,rfl,_,_,rfl,rfl,z1z (zs _ (by lia) (by lia)) (zs _ (by lia) (by lia)),_,_,rfl,rfl,_,rfl,_,_,rfl,rfl,a,_,_,_,rfl,rfl,SqL.of (g _ _ ha),z1R (by lia) (by lia),_,_,rfl,rfl,cm,_,_,rfl,rfl,R0,_,_,rfl,rfl,e,hz,?_⟩
   dsimp only
   generalize ds.getD (16+5*(k:Int)+(0+(i:Int))).toNat 0=d
   refine⟨rs++[d%7 - 3],_,rfl,by rw[z0c,q0H];rfl,by simp[el],fun n hn=>?_,fun b u e=>by rw[z0m (z0i e hR0)];exact g _ _ e⟩
   rcases q0s.mp hn with hn|hn
   ·exact eb n hn
   ·rw[q0g.mp hn];lia
  ·rintro σ H1 ⟨rs,s5,rfl,e,el,eb,g⟩
   exact hN _ _ ⟨R0,rs,_,_,rfl,hR0,e,el,eb,g⟩
 clear e0 g0
 rintro σ H1 ⟨R,rs,s5,s6,rfl,hR,e,el,eb,g⟩
 refine z0o (y6m H a m k way 3) (fun N hN=>?_) ?_
 ·refine⟨_,rfl,rfl,_,rfl,?_⟩
  refine z5g (fun c=>?_) (fun c=>?_)
  ·refine⟨_,rfl,_,rfl,R,_,_,m,rfl,rfl,e,z2y (by rw[q0b];lia),?_⟩
   exact hN _ _ (z7o hR el eb g (by decide))
  ·exact hN _ _ ⟨R,rs,_,_,rfl,hR,e,el,eb,g⟩
 clear e el eb g hR
 rintro σ H1 ⟨R,rs,s5,s6,rfl,hR,e,el,eb,g⟩
 refine z0o (y6m H a m k way 3) (fun N hN=>?_) ?_
 ·refine⟨_,rfl,rfl,_,rfl,?_⟩
  refine z5g (fun c=>?_) (fun c=>?_)
  ·refine⟨z0k (by show 4≤_;decide),fun z1 hz1=>⟨_,rfl,z0k (by show 4≤_;decide),fun z2 hz2=>⟨z0k (by show 4≤_;decide),fun z3 hz3=>⟨z0k (by show 3≤_;decide),fun z4 hz4=>?_⟩⟩⟩⟩
   have g1:=z0f hz1 (.lst [V.int 1,V.int 0,V.int 0,V.int 2])
   have e1:upd H1 z1 (.lst [V.int 1,V.int 0,V.int 0,V.int 2]) z1=some (.lst [V.int 1,V.int 0,V.int 0,V.int 2]):=z0c
   generalize upd H1 z1 (.lst [V.int 1,V.int 0,V.int 0,V.int 2])=H2 at*
   have g2:=z0f hz2 (.lst [V.int 0,V.int 1,V.int 1,V.int (-1)])
   have e2:upd H2 z2 (.lst [V.int 0,V.int 1,V.int 1,V.int (-1)]) z2=some (.lst [V.int 0,V.int 1,V.int 1,V.int (-1)]):=z0c
   generalize upd H2 z2 (.lst [V.int 0,V.int 1,V.int 1,V.int (-1)])=H3 at*
   have g3:=z0f hz3 (.lst [V.int 1,V.int 1,V.int 0,V.int 0])
   have e3:upd H3 z3 (.lst [V.int 1,V.int 1,V.int 0,V.int 0]) z3=some (.lst [V.int 1,V.int 1,V.int 0,V.int 0]):=z0c
   generalize upd H3 z3 (.lst [V.int 1,V.int 1,V.int 0,V.int 0])=H4 at*
   have g4:=z0f hz4 (.lst [V.ref z1,V.ref z2,V.ref z3])
   have e4:upd H4 z4 (.lst [V.ref z1,V.ref z2,V.ref z3]) z4=some (.lst [V.ref z1,V.ref z2,V.ref z3]):=z0c
   generalize upd H4 z4 (.lst [V.ref z1,V.ref z2,V.ref z3])=H5 at*
   have g15:=g1.trans (g2.trans (g3.trans g4))
   have e5:=g15 _ _ e
   refine⟨_,rfl,R,_,_,_,rfl,rfl,SqL.of e5,z1R (by decide) (by lia),_,_,rfl,rfl,cm,?_⟩
   obtain⟨y,cs,hy,ey,cl,cb⟩:=y2s (z:=rs.getD (0:Int).toNat 0%3) (by lia) (by lia) ((g2.trans (g3.trans g4)) _ _ e1) ((g3.trans g4) _ _ e2) (g4 _ _ e3)
   refine⟨z4,_,_,_,rfl,rfl,SqL.of e4,hy,_,rfl,_,rfl,y,_,rfl,SqL.of ey,fun s1 hs1=>?_⟩
   rw[z8J (by lia) (by rw[q0b,cl];lia),q0G,←List.map_take]
   have g6:=z0f hs1 (.lst ((cs.take m).map V.int))
   have e6:upd H5 s1 (.lst ((cs.take m).map V.int)) s1=some (.lst ((cs.take m).map V.int)):=z0c
   generalize upd H5 s1 (.lst ((cs.take m).map V.int))=H6 at*
   refine⟨_,rfl,_,rfl,R,_,_,_,rfl,rfl,SqL.of (g6 _ _ e5),z1R (by lia) (by lia),z0k (by show 1≤_;decide),fun s2 hs2=>?_⟩
   have lw:=z5O eb (m:Int).toNat
   generalize rs.getD (m:Int).toNat 0=lst at*
   have g7:=z0f hs2 (.lst [V.int lst])
   have e7:upd H6 s2 (.lst [V.int lst]) s2=some (.lst [V.int lst]):=z0c
   generalize upd H6 s2 (.lst [V.int lst])=H7 at*
   refine⟨s1,s2,_,_,rfl,rfl,g7 _ _ e6,e7,z0k (by rw[q0b,q0n,cl];show min m 4+1≤_;lia),fun R2 hR2=>?_⟩
   have g17:Same H1 H7:=g15.trans (g6.trans g7)
   refine hN _ _ ⟨R2,cs.take m++[lst],_,_,rfl,(g.trans g17).free hR2,by rw[z0c,q0H];rfl,by rw[q0m,q0n,cl];show min m 4+1=_;lia,fun n hn=>?_,g.trans (g17.trans (z0f hR2 _))⟩
   rcases q0s.mp hn with hn|hn
   ·exact cb n (List.mem_of_mem_take hn)
   ·rw[q0g.mp hn];exact lw
  ·exact hN _ _ ⟨R,rs,_,_,rfl,hR,e,el,eb,g⟩
 clear e el eb g hR
 rintro σ H1 ⟨R,rs,s5,s6,rfl,hR,e,el,eb,g⟩
 refine z0o (y6m H a m k way 3) (fun N hN=>?_) ?_
 ·refine⟨_,rfl,rfl,_,rfl,?_⟩
  refine z5g (fun c=>?_) (fun c=>?_)
  ·refine⟨_,rfl,_,_,rfl,rfl,_,rfl,?_⟩
   refine z5g (fun c2=>?_) (fun c2=>?_)
   ·have m2:1<(m:Int):=of_decide_eq_true c2
    refine z0o (fun σ H'=>∃(at_:Nat),σ=[some (.ref a),some (.int (m:Nat)),some (.int (k:Nat)),some (.int way),some (.ref R),s5,some (.int (at_:Nat))]∧H1=H'∧at_<m) (fun N' hN'=>?_) ?_
    ·refine⟨_,rfl,R,_,_,_,rfl,rfl,SqL.of e,z1R (by decide) (by lia),_,rfl,_,_,rfl,rfl,(show (0:Int)<(m:Int) by lia),?_⟩
     have h0:=Int.emod_nonneg (rs.getD (0:Int).toNat 0) (show (m:Int)≠0 by lia)
     have h1:=Int.emod_lt_of_pos (rs.getD (0:Int).toNat 0) (show (0:Int)<(m:Int) by lia)
     exact hN' _ _ ⟨(rs.getD (0:Int).toNat 0%(m:Int)).toNat,by rw[Int.toNat_of_nonneg h0];rfl,rfl,by lia⟩
    rintro σ H2 ⟨at_,rfl,rfl,atm⟩
    refine z0o (fun σ H'=>∃(R2:Addr) (rs2:List Int),σ=[some (.ref a),some (.int (m:Nat)),some (.int (k:Nat)),some (.int way),some (.ref R2),s5,some (.int (at_:Nat))]∧H R2=none∧H' R2=some (.lst (rs2.map V.int))∧rs2.length=m+1∧(∀n∈rs2,n.natAbs≤3)∧Same H H') (fun N' hN'=>?_) ?_
    ·refine⟨z0k (by show 1≤_;decide),fun z hz=>?_⟩
     have g0:=z0f hz (.lst [V.int 0])
     have e0:upd H1 z (.lst [V.int 0]) z=some (.lst [V.int 0]):=z0c
     generalize upd H1 z (.lst [V.int 0])=H2 at*
     refine⟨_,rfl,z,_,_,rfl,rfl,e0,by lia,by lia,z0k (by rw[q0G];show 1*m≤_;lia),fun z1 hz1=>?_⟩
     rw[q0G,z9v]
     have g1:=z0f hz1 (.lst ((List.replicate m (0:Int)).map V.int))
     have e1:upd H2 z1 (.lst ((List.replicate m (0:Int)).map V.int)) z1=some (.lst ((List.replicate m (0:Int)).map V.int)):=z0c
     generalize upd H2 z1 (.lst ((List.replicate m (0:Int)).map V.int))=H3 at*
     refine⟨_,rfl,_,rfl,R,_,_,_,rfl,rfl,SqL.of ((g0.trans g1) _ _ e),z1R (by lia) (by lia),_,_,rfl,rfl,cm,_,_,rfl,rfl,z0k (by show 1≤_;decide),fun z2 hz2=>?_⟩
     dsimp only
     have lw:(rs.getD (m:Int).toNat 0%3 - 1).natAbs ≤3:=by lia
     generalize rs.getD (m:Int).toNat 0%3 - 1=lst at*
     have g2:=z0f hz2 (.lst [V.int lst])
     have e2:upd H3 z2 (.lst [V.int lst]) z2=some (.lst [V.int lst]):=z0c
     generalize upd H3 z2 (.lst [V.int lst])=H4 at*
     refine⟨z1,z2,_,_,rfl,rfl,g2 _ _ e1,e2,z0k (by rw[q0b,q1H];show m+1≤_;lia),fun R2 hR2=>?_⟩
     have g14:Same H H4:=g.trans (g0.trans (g1.trans g2))
     refine hN' _ _ ⟨R2,List.replicate m 0++[lst],rfl,g14.free hR2,by rw[z0c,q0H];rfl,by simp,fun n hn=>?_,g14.trans (z0f hR2 _)⟩
     rcases q0s.mp hn with hn|hn
     ·rw[(List.mem_replicate.mp hn).2];decide
     ·rw[q0g.mp hn];exact lw
    rintro σ H2 ⟨R2,rs2,rfl,hR2,e2,el2,eb2,g2⟩
    refine z0o (fun σ H'=>∃(rs2:List Int),σ=[some (.ref a),some (.int (m:Nat)),some (.int (k:Nat)),some (.int way),some (.ref R2),s5,some (.int (at_:Nat))]∧H' R2=some (.lst (rs2.map V.int))∧rs2.length=m+1∧(∀n∈rs2,n.natAbs≤3)∧Same H H') (fun N' hN'=>?_) ?_
    ·refine⟨_,rfl,_,rfl,R2,_,_,at_,rfl,rfl,e2,z2y (by rw[q0b];lia),?_⟩
     obtain⟨_,rs3,_,_,e,_,h1,h2,h3,h4⟩:=z7o (a:=a) (k:=k) (way:=way) (j:=at_) (z:=1) (s5:=none) (s6:=none) hR2 el2 eb2 g2 (by decide)
     injection e with _ e;injection e with _ e;injection e with _ e;injection e with _ e;injection e with e _;injection e with e;injection e with e;subst e
     exact hN' _ _ ⟨rs3,rfl,h1,h2,h3,h4⟩
    rintro σ H3 ⟨rs3,rfl,e3,el3,eb3,g3⟩
    have dn:=y1i db (16+5*(k:Int)).toNat
    refine⟨_,rfl,_,rfl,_,rfl,_,_,rfl,rfl,_,rfl,_,rfl,_,_,rfl,rfl,z1z (zs _ (by lia) (by lia)) (zs _ (by lia) (by lia)),_,_,rfl,rfl,a,_,_,_,rfl,rfl,SqL.of (g3 _ _ ha),z1R (by lia) (by lia),_,_,rfl,rfl,cf,_,rfl,_,_,rfl,rfl,_,_,rfl,rfl,(show (0:Int)<(m:Int) - 1 by lia),_,_,rfl,rfl,_,rfl,_,_,rfl,rfl,(show (0:Int)<(m:Int) by lia),?_⟩
    dsimp only
    obtain⟨j,ej,hj⟩:∃j:Nat,((at_:Int)+1+ds.getD (16+5*(k:Int)).toNat 0/7%((m:Int) - 1))%(m:Int)=(j:Nat)∧j<m:=by
     have h0:=Int.emod_nonneg ((at_:Int)+1+ds.getD (16+5*(k:Int)).toNat 0/7%((m:Int) - 1)) (show (m:Int)≠0 by lia)
     have h1:=Int.emod_lt_of_pos ((at_:Int)+1+ds.getD (16+5*(k:Int)).toNat 0/7%((m:Int) - 1)) (show (0:Int)<(m:Int) by lia)
     exact⟨_,(Int.toNat_of_nonneg h0).symm,by lia⟩
    rw[ej]
    refine⟨R2,_,_,j,rfl,rfl,e3,z2y (by rw[q0b];lia),?_⟩
    exact hN _ _ (z7o hR2 el3 eb3 g3 (by decide))
   ·exact hN _ _ ⟨R,rs,_,_,rfl,hR,e,el,eb,g⟩
  ·exact z3r (hN _ _ ⟨R,rs,_,_,rfl,hR,e,el,eb,g⟩)
 clear e el eb g hR
 rintro σ H1 ⟨R,rs,s5,s6,rfl,hR,e,el,eb,g⟩
 refine z0o (RowJ H a m k way) (fun N hN=>?_) ?_
 ·refine⟨_,rfl,rfl,_,rfl,?_⟩
  refine z5g (fun c=>?_) (fun c=>?_)
  ·have lw:=z5O eb (m:Int).toNat
   have dk:=y1i db (k:Int).toNat
   refine z0o (fun σ H'=>∃(rs2:List Int),σ=[some (.ref a),some (.int (m:Nat)),some (.int (k:Nat)),some (.int way),some (.ref R),s5,s6]∧H' R=some (.lst (rs2.map V.int))∧rs2.length=m+1∧(rs2.getD 0 0).natAbs ≤3∧RB m rs2∧Same H H') (fun N' hN'=>?_) ?_
   ·refine⟨_,rfl,_,rfl,R,_,_,_,rfl,rfl,SqL.of e,z1R (by lia) (by lia),_,_,rfl,rfl,z1z (m:=64) (n:=64) (zs _ (by lia) (by lia)) (by decide),_,rfl,_,rfl,a,_,_,_,rfl,rfl,SqL.of (g _ _ ha),z1R (by lia) (by lia),_,_,rfl,rfl,?_⟩
    refine⟨_,rfl,_,rfl,R,_,_,m,rfl,rfl,e,z2y (by rw[q0b];lia),?_⟩
    dsimp only
    generalize rs.getD (m:Int).toNat 0=x at*
    generalize ds.getD (k:Int).toNat 0=y at*
    refine hN' _ _ ⟨rs.set m (x*1000000000000000000+y),rfl,by rw[z0c,List.map_set],by rw[List.length_set];exact el,?_,(RB.of eb).last (by lia),fun c o e'=>by rw[z0m (z0i e' hR)];exact g _ _ e'⟩
    ·have h0:=z5O eb 0
     rw[q0a] at h0 ⊢
     rw[q1J (by lia)]
     exact h0
   rintro σ H2 ⟨rs2,rfl,e2,el2,eb0,eb2,g2⟩
   have h0:(rs2.getD (0:Int).toNat 0).natAbs ≤3:=eb0
   refine⟨_,rfl,R,_,_,_,rfl,rfl,SqL.of e2,z1R (by decide) (by lia),_,_,rfl,rfl,z1z (m:=64) (n:=64) (zs _ (by lia) (by lia)) (by decide),_,_,rfl,rfl,_,rfl,R,_,_,0,rfl,rfl,e2,z2y (k:=0) (by rw[q0b];lia),?_⟩
   exact hN _ _ ⟨R,_,_,_,rfl,hR,by rw[z0c,←List.map_set],by rw[List.length_set];exact el2,eb2.set (by show (rs2.getD (0:Int).toNat 0*1000000000+1).natAbs ≤_;lia),fun c o e'=>by rw[z0m (z0i e' hR)];exact g2 _ _ e'⟩
  ·exact hN _ _ ⟨R,rs,_,_,rfl,hR,e,el,RB.of eb,g⟩
 clear e el eb g hR
 rintro σ H1 ⟨R,rs,s5,s6,rfl,hR,e,el,eb,g⟩
 refine z0o (RowJ H a m k way) (fun N hN=>?_) ?_
 ·refine⟨_,rfl,rfl,_,rfl,?_⟩
  refine z5g (fun c=>?_) (fun c=>?_)
  ·refine⟨_,rfl,R,rfl,⟨_,SqL.of e⟩,fun D hD=>?_⟩
   refine z1e rfl (z0v K R (rs.map V.int)) hD (fun _=>true) (fun v=>match v with| .int n=> .int (n%3 - 1)|u=>u) (fun H' g'=>SqL.of (g' _ _ e)) (z0k (by rw[q0b];lia)) ?_ ?_ ?_
   ·intro x _ Hc _ S h
    exact h
   ·intro x hx _ Hc _ S h
    obtain⟨n,_,rfl⟩:=q0f.mp hx
    exact⟨_,rfl,_,_,rfl,rfl,cm,_,_,rfl,rfl,h⟩
   ·rw[z0E,q0M]
    have em:rs.map ((fun v=>match v with| .int n=>V.int (n%3 - 1)|u=>u)∘V.int)=(rs.map fun n=>n%3 - 1).map V.int:=by rw[q0M];rfl
    rw[em]
    refine hN _ _ ⟨D,rs.map fun n=>n%3 - 1,_,_,rfl,g.free hD,z0c,by rw[q0b];exact el,RB.of fun n hn=>?_,g.trans (z0f hD _)⟩
    obtain⟨y,_,rfl⟩:=q0f.mp hn
    lia
  ·exact hN _ _ ⟨R,rs,_,_,rfl,hR,e,el,eb,g⟩
 clear e el eb g hR
 rintro σ H1 ⟨R,rs,s5,s6,rfl,hR,e,el,eb,g⟩
 refine z0o (fun σ H'=>∃(R:Addr) (rs:List Int) (s5 s6:Option V),σ=[some (.ref a),some (.int (m:Nat)),some (.int (k:Nat)),some (.int way),some (.ref R),s5,s6]∧H' R=some (.lst (rs.map V.int))∧rs.length=m+1∧RB m rs∧(∃j,j<m∧v rs j≠0)∧Same H H') (fun N hN=>?_) ?_
 ·refine⟨_,rfl,_,rfl,_,rfl,R,_,rfl,SqL.of e,fun p1 hp1=>?_⟩
  rw[z8J (by lia) (by rw[q0b];lia),q0G,←List.map_take]
  have g1:=z0f hp1 (.lst ((rs.take m).map V.int))
  have e1:upd H1 p1 (.lst ((rs.take m).map V.int)) p1=some (.lst ((rs.take m).map V.int)):=z0c
  generalize upd H1 p1 (.lst ((rs.take m).map V.int))=H2 at*
  refine⟨p1,rfl,⟨_,SqL.of e1⟩,fun D hD=>?_⟩
  refine z1e rfl (z0v K p1 ((rs.take m).map V.int)) hD (fun v=>match v with| .int n=> !decide (V.int n=V.int 0)|_=>false) (fun v=>v) (fun H' g'=>SqL.of (g' _ _ e1)) (z0k (by rw[q0b,q0n];lia)) ?_ ?_ ?_
  ·intro x hx Hc gc S h
   obtain⟨n,_,rfl⟩:=q0f.mp hx
   exact⟨_,rfl,rfl,_,rfl,h⟩
  ·intro x hx _ Hc gc S h
   exact⟨_,rfl,h⟩
  have em:(((rs.take m).map V.int).filter fun v=>match v with| .int n=> !decide (V.int n=V.int 0)|_=>false).map (fun v=>v)=((rs.take m).filter (· != 0)).map V.int:=by
   rw[List.map_id',List.filter_map]
   congr 1
   refine List.filter_congr fun n _=>?_
   show (!decide (V.int n=V.int 0))=(n != 0)
   by_cases h:n=0
   ·subst h;rfl
   ·rw[decide_eq_false (fun z=>h (by injection z))]
    simpa using h
  rw[em]
  have g2:=z0f hD (.lst (((rs.take m).filter (· != 0)).map V.int))
  have e2:upd H2 D (.lst (((rs.take m).filter (· != 0)).map V.int)) D=some (.lst (((rs.take m).filter (· != 0)).map V.int)):=z0c
  generalize upd H2 D (.lst (((rs.take m).filter (· != 0)).map V.int))=H3 at*
  refine⟨q0S _,fun z hz=>?_⟩
  have g3:=z0f hz (.lst [])
  have e3:upd H3 z (.lst []) z=some (.lst (([]:List Int).map V.int)):=z0c
  generalize upd H3 z (.lst [])=H4 at*
  refine⟨D,z,_,_,rfl,rfl,y5Q (g3 _ _ e2),y5Q e3,z3h 8 _ _,_,rfl,?_⟩
  have g14:=g1.trans (g2.trans g3)
  have eR:=g14 _ _ e
  refine z5g (fun c=>?_) (fun c=>?_)
  ·refine⟨_,rfl,_,rfl,_,_,rfl,rfl,R,_,_,m - 1,rfl,rfl,eR,?_,?_⟩
   ·rw[show (m:Int) - 1=((m - 1:Nat):Int) by lia]
    exact z2y (by rw[q0b];lia)
   refine hN _ _ ⟨R,rs.set (m - 1) 1,_,_,rfl,by rw[z0c,List.map_set],by rw[List.length_set];exact el,eb.set (by decide),⟨m - 1,by lia,?_⟩,fun c o e'=>by rw[z0m (z0i e' hR)];exact (g.trans g14) _ _ e'⟩
   ·show (rs.set (m - 1) 1).getD (m - 1) 0≠0
    rw[q0a,List.getElem?_set_self (by lia)]
    decide
  ·refine hN _ _ ⟨R,rs,_,_,rfl,eR,el,eb,?_,g.trans g14⟩
   have hne:(rs.take m).filter (· != 0)≠[]:=fun z=>c (by rw[z];rfl)
   obtain⟨n,hn⟩:=List.exists_mem_of_ne_nil _ hne
   obtain⟨h1,h2⟩:=q1a.mp hn
   obtain⟨j,hj⟩:=List.mem_iff_getElem?.mp h1
   have hjm:j<m:=by
        have:=(q0E.mp hj).1
        rw[q0n] at this;lia
   rw[q1K hjm] at hj
   refine⟨j,hjm,?_⟩
   show rs.getD j 0≠0
   rw[q0a,hj]
   simpa using h2
 clear e el eb g hR
 rintro σ H1 ⟨R,rs,s5,s6,rfl,e,el,eb,⟨j,hj,hn⟩,g⟩
 have nz:∃n∈rs,n≠0:=by
  have h':rs.getD j 0≠0:=hn
  rw[q0a,q0c (by lia)] at h'
  exact⟨rs[j]'(by lia),q0y _,h'⟩
 have bb:∀n∈rs,intBits n≤64:=fun n hn=>z8W (q0o (eb.1 n hn) (by decide))
 exact⟨_,rfl,R,rs,rfl,.inl (SqL.of e),by lia,fun n hn=>q0o (bb n hn) (by decide),nz,fun t H2 g2 et=>q t rs _ (g.trans g2) et el ⟨j,hj,hn⟩ ⟨bb,fun j hj=>intBits_le_of_natAbs (y:=4000000000) (eb.2 j hj) (by decide)⟩⟩
end
end L2
namespace L2
open PySem PySem.Spec PyProof.Rows
section
open Fr Wl Rk
open Builtin.Int (intBits)
variable {P:Program}{w:World}{K:PySem.W.Frag}{mg:Str→Option Value}{base:Heap}{f:Addr}{fd:FuncData}
theorem y2U {z:Int} (h0:0≤z) (h1:z<8):∃m:Nat,atI [V.int 2,V.int 3,V.int 2,V.int 1,V.int 3,V.int 2,V.int 0,V.int 4] z=some (.int (m:Nat))∧m≤4:=by
 rcases (by lia:z=0∨z=1∨z=2∨z=3∨z=4∨z=5∨z=6∨z=7) with rfl|rfl|rfl|rfl|rfl|rfl|rfl|rfl
 ·exact⟨2,rfl,by decide⟩
 ·exact⟨3,rfl,by decide⟩
 ·exact⟨2,rfl,by decide⟩
 ·exact⟨1,rfl,by decide⟩
 ·exact⟨3,rfl,by decide⟩
 ·exact⟨2,rfl,by decide⟩
 ·exact⟨0,rfl,by decide⟩
 ·exact⟨4,rfl,by decide⟩
def wlD (m:Nat) (t:List Int):Prop:=∃rs:List Int,t=z0l rs∧rs.length=m+1∧(∃j,j<m∧v rs j≠0)∧(∀n∈rs,intBits n≤64)∧∀j,j<m→intBits (v rs j)≤32
abbrev z1C:Stmt:=top 34
theorem sc_l_fences:z0z ["_law_draws_here","_law_most","_law_ways","_law_many","_law_way","_law_found","_law_k","_law_one"] ["_law_draws_here","_law_most"] (z0g z1C):=⟨rfl,rfl,rfl,by decide+kernel,rfl,by decide+kernel,by decide+kernel⟩
def z7S (K:PySem.W.Frag):Sp:=fun vs H Q _=>∃(a:Addr) (ds:List Int) (most:Nat),vs=[.ref a,.int (most:Nat)]∧H a=some (.lst (ds.map V.int))∧ds.length=60∧(∀d∈ds,0≤d∧d<2147483587)∧most≤6∧
 ∀(tp l:Addr) (as:List Addr) (ts:List (List Int)) (m:Nat) (H':Hp),H l=none→Same H H'→H' tp=some (.tup [V.int (m:Nat),V.ref l])→H' l=some (.lst (as.map V.ref))→TsA H' as ts→m≤4→ts.length≤most→(m=4→ts.length≤5)→(m=0→ts=[])→ts.Nodup→(∀t∈ts,wlD m t)→Q (.ref tp) H'
theorem z7t (T:Txt mg) (F:Fun K "_law_fences" "_law_fences" z1C f fd) (c_l_row:Cal P w K mg base 3 "_law_row" ["_law_draws_here","_law_ways","_law_k","_law_way"] (y5h K)):FnOk P w K mg base CX0 4 f fd ["_law_draws_here","_law_most"] (z7S K):=by
 refine F.ok sc_l_fences (fun vs H Q E h=>?_) (fun cdv A outer s H vs Q E hr h=>?_)
 ·obtain⟨_,_,_,rfl,_⟩:=h;rfl
 obtain⟨a,ds,most,rfl,ha,dl,db,m6,q⟩:=h
 refine⟨_,(z0b (z0n (i:=2) sc_l_fences.nd rfl (Or.inl rfl) (z0K (z0r (K:=K) rfl) (z0P (z0a z0e (z0a z0e (z0a z0e (z0a z0e (z0a z0e (z0a z0e (z0a z0e (z0a z0e z0d))))))))) (z0q z0V (z0K (z0r (K:=K) rfl) (pv 0) z0e (fun _ _=>rfl)) z0e) (fun _ _=>rfl)))
  (z0b (z0n (i:=3) sc_l_fences.nd rfl (Or.inl rfl) (z0q z0V (z0K (z0r (K:=K) rfl) (pv 0) z0e (fun _ _=>rfl)) (z0q z1o (pv 1) z0e)))
  (z0b (z1c (z0x z4x (pv 2) z0e (z0F _)) (z0h (z0n (i:=3) sc_l_fences.nd rfl (Or.inl rfl) z0e)) z0C)
  (z0b (z1c (z0x z4x (pv 2) z0e (z0F _)) (z0h (z0n (i:=3) sc_l_fences.nd rfl (Or.inl rfl) (z0q z0V (pv 3) z0e))) z0C)
  (z0b (z0n (i:=4) sc_l_fences.nd rfl (Or.inl rfl) (z0q z0V (z0K (z0r (K:=K) rfl) (pv 0) z0e (fun _ _=>rfl)) z0e))
  (z0b (z0n (i:=5) sc_l_fences.nd rfl (Or.inl rfl) (z0P z0d))
  (z0b (z1b PassesOwn.never rfl (z2d rfl T.range (z0a (pv 3) z0d)) (z0j (i:=6) sc_l_fences.nd rfl (Or.inl rfl)) (z0b (z0n (i:=7) sc_l_fences.nd rfl (Or.inl rfl) (z0s c_l_row hr rfl (z0a (pv 0) (z0a (pv 2) (z0a (pv 6) (z0a (pv 4) z0d))))))
  (z0h (z1c (z0x (z9g (K:=K) rfl hr.units) (pv 7) (pv 5) (by with_unfolding_all rfl)) (z0h (z2X (z9f PySem.F.plainAttrs_list PySem.F.slot_list_append PySem.F.type_list_append z1K (pv 5) (z0a (pv 7) z0d)))) z0C))))
  (z0h (z0A (z3N (z0a (pv 2) (z0a (pv 5) z0d)))))))))))),?_⟩
 refine z0o (fun σ H'=>∃m:Nat,σ=[some (.ref a),some (.int (most:Nat)),some (.int (m:Nat)),none,none,none,none,none]∧m≤4∧Same H H') (fun N hN=>?_) ?_
 ·refine⟨z0k (by show 8≤_;decide),fun z hz=>?_⟩
  have g1:=z0f hz (.lst [V.int 2,V.int 3,V.int 2,V.int 1,V.int 3,V.int 2,V.int 0,V.int 4])
  obtain⟨m,hm,m4⟩:=y2U (z:=ds.getD (0:Int).toNat 0%8) (by lia) (by lia)
  exact⟨_,rfl,a,_,_,_,rfl,rfl,SqL.of (g1 _ _ ha),z1R (by decide) (by lia),_,_,rfl,rfl,cm,z,_,_,_,rfl,rfl,SqL.of z0c,hm,hN _ _ ⟨m,rfl,m4,g1⟩⟩
 rintro σ H1 ⟨m,rfl,m4,g⟩
 refine z0o (fun σ H'=>∃n:Nat,σ=[some (.ref a),some (.int (most:Nat)),some (.int (m:Nat)),some (.int (n:Nat)),none,none,none,none]∧n≤most∧H1=H') (fun N hN=>?_) ?_
 ·refine⟨_,rfl,a,_,_,_,rfl,rfl,SqL.of (g _ _ ha),z1R (by decide) (by lia),_,rfl,_,_,rfl,rfl,_,_,rfl,rfl,(show (0:Int)<(most:Int)+1 by lia),?_⟩
  have h0:=Int.emod_nonneg (ds.getD (1:Int).toNat 0) (show (most:Int)+1≠0 by lia)
  have h1:=Int.emod_lt_of_pos (ds.getD (1:Int).toNat 0) (show (0:Int)<(most:Int)+1 by lia)
  exact hN _ _ ⟨(ds.getD (1:Int).toNat 0%((most:Int)+1)).toNat,by rw[Int.toNat_of_nonneg h0];rfl,by lia,rfl⟩
 rintro σ H2 ⟨n,rfl,nm,rfl⟩
 refine z0o (fun σ H'=>∃n:Nat,σ=[some (.ref a),some (.int (most:Nat)),some (.int (m:Nat)),some (.int (n:Nat)),none,none,none,none]∧n≤most∧(m=0→n=0)∧H1=H') (fun N hN=>?_) ?_
 ·refine⟨_,rfl,rfl,_,rfl,?_⟩
  refine z5g (fun c=>?_) (fun c=>?_)
  ·exact hN _ _ ⟨0,rfl,by lia,fun _=>rfl,rfl⟩
  ·exact hN _ _ ⟨n,rfl,nm,fun z=>absurd (decide_eq_true (by rw[z];rfl)) c,rfl⟩
 clear nm n
 rintro σ H2 ⟨n,rfl,nm,n0,rfl⟩
 refine z0o (fun σ H'=>∃n:Nat,σ=[some (.ref a),some (.int (most:Nat)),some (.int (m:Nat)),some (.int (n:Nat)),none,none,none,none]∧n≤most∧(m=0→n=0)∧(m=4→n≤5)∧H1=H') (fun N hN=>?_) ?_
 ·refine⟨_,rfl,rfl,_,rfl,?_⟩
  refine z5g (fun c=>?_) (fun c=>?_)
  ·refine⟨_,rfl,_,_,rfl,rfl,cm,?_⟩
   refine hN _ _ ⟨n%6,?_,q0o (Nat.mod_le _ _) nm,fun z=>by rw[n0 z],fun _=>by lia,rfl⟩
   show [_,_,_,some (V.int ((n:Int)%6)),_,_,_,_]=_
   rw[show (n:Int)%6=((n%6:Nat):Int) by lia]
  ·exact hN _ _ ⟨n,rfl,nm,n0,fun z=>absurd (decide_eq_true (by rw[z];rfl)) c,rfl⟩
 clear nm n0 n
 rintro σ H2 ⟨n,rfl,nm,n0,n5,rfl⟩
 refine z0o (fun σ H'=>∃wy:Int,σ=[some (.ref a),some (.int (most:Nat)),some (.int (m:Nat)),some (.int (n:Nat)),some (.int wy),none,none,none]∧H1=H') (fun N hN=>?_) ?_
 ·exact⟨_,rfl,a,_,_,_,rfl,rfl,SqL.of (g _ _ ha),z1R (by decide) (by lia),_,_,rfl,rfl,cm,hN _ _ ⟨_,rfl,rfl⟩⟩
 rintro σ H2 ⟨wy,rfl,rfl⟩
 refine z0o (fun σ H'=>∃l:Addr,σ=[some (.ref a),some (.int (most:Nat)),some (.int (m:Nat)),some (.int (n:Nat)),some (.int wy),some (.ref l),none,none]∧H l=none∧H' l=some (.lst (([]:List Addr).map V.ref))∧Same H H') (fun N hN=>?_) ?_
 ·exact⟨q0S _,fun l hl=>hN _ _ ⟨l,rfl,g.free hl,z0c,g.trans (z0f hl _)⟩⟩
 clear g
 rintro σ H2 ⟨l,rfl,hl,e0,g0⟩
 refine z0o (fun σ H'=>∃(as:List Addr) (ts:List (List Int)) (s6 s7:Option V),σ=[some (.ref a),some (.int (most:Nat)),some (.int (m:Nat)),some (.int (n:Nat)),some (.int wy),some (.ref l),s6,s7]∧H' l=some (.lst (as.map V.ref))∧TsA H' as ts∧ts.length≤n∧ts.Nodup∧(∀t∈ts,wlD m t)∧Same H H') (fun N hN=>?_) ?_
 ·refine⟨_,rfl,_,rfl,by lia,by lia,?_⟩
  rw[q0G]
  refine z0H (z1D 0 n) (fun i σ H'=>∃(as:List Addr) (ts:List (List Int)) (s6 s7:Option V),σ=[some (.ref a),some (.int (most:Nat)),some (.int (m:Nat)),some (.int (n:Nat)),some (.int wy),some (.ref l),s6,s7]∧H' l=some (.lst (as.map V.ref))∧TsA H' as ts∧ts.length≤i∧ts.Nodup∧(∀t∈ts,wlD m t)∧Same H H') ⟨[],[],_,_,rfl,e0,TsA.nil,q0e _,List.nodup_nil,by simp,g0⟩ (fun _ _ _ _ _=>trivial) ?_ ?_
  ·clear e0
   rintro i x σ H3 H4 hi ⟨as,ts,s6,s7,rfl,hl1,hts,hlen,hnd,hp,g⟩ ⟨rfl,rfl⟩
   have m1:1≤m:=Nat.pos_of_ne_zero fun z=>by have:=n0 z;lia
   refine⟨_,rfl,_,rfl,_,rfl,_,rfl,a,ds,m,i,wy,?_,g _ _ ha,dl,db,m1,m4,by lia,fun t rs H5 g5 ht rl rj rb=>?_⟩
   ·show [V.ref a,V.int (m:Nat),V.int (0+(i:Int)),V.int wy]=_
    rw[Int.zero_add]
   have hl5:=g5 _ _ hl1
   have hts5:=hts.same g5
   refine⟨_,rfl,_,rfl,l,_,_,_,rfl,.inl (SqL.of hl5),hts5.isDs,isD_t ht,ok_ts,_,rfl,?_⟩
   rw[any_t]
   refine z5g (fun c2=>?_) (fun c2=>?_)
   ·have c2':z0l rs∉ts:=by simpa using c2
    refine⟨_,rfl,.inl ⟨rfl,_,SqL.of hl5⟩,_,rfl,l,_,_,rfl,rfl,hl5,z3I (by rw[q0b,hts.1];lia),?_⟩
    have gl:∀b o,b≠l→H5 b=some o→upd H5 l (.lst (as.map V.ref++[.ref t])) b=some o:=fun b o hb e=>by rw[z0m hb];exact e
    refine⟨as++[t],ts++[z0l rs],_,_,rfl,by rw[z0c];simp,?_,by simp;lia,?_,?_,fun b o e=>gl b o (z0i e hl) (g5 _ _ (g _ _ e))⟩
    ·have z:=hts5.snoc ht
     refine⟨z.1,fun i a t' e1 e2=>?_⟩
     have:=z.2 i a t' e1 e2
     exact gl _ _ (fun z=>by rw[z,hl5] at this;cases this) this
    ·exact q1A.mpr ⟨hnd,by simp,fun x hx y hy e=>by rw[q0g.mp hy] at e;exact c2' (e▸hx)⟩
    ·intro u hu
     rcases q0s.mp hu with hu|hu
     ·exact hp u hu
     ·rw[q0g.mp hu];exact⟨rs,rfl,rl,rj,rb⟩
   ·exact⟨as,ts,_,_,rfl,hl5,hts5,by lia,hnd,hp,g.trans g5⟩
  ·rintro σ H3 ⟨as,ts,s6,s7,rfl,hl1,hts,hlen,hnd,hp,g⟩
   exact hN _ _ ⟨as,ts,_,_,rfl,hl1,hts,hlen,hnd,hp,g⟩
 rintro σ H3 ⟨as,ts,s6,s7,rfl,hl1,hts,hlen,hnd,hp,g⟩
 refine⟨_,rfl,_,rfl,by show 2≤sizeLine;decide,fun tp htp=>?_⟩
 have g2:=z0f htp (.tup [V.int (m:Nat),V.ref l])
 exact q tp l as ts m _ hl (g.trans g2) z0c (g2 _ _ hl1) (hts.same g2) m4 (by lia) (fun z=>by have:=n5 z;lia) (fun z=>q1j.mp (by have:=n0 z;lia)) hnd hp
end
end L2
namespace L2
open PySem PySem.Spec PyProof.Rows
section
open Fr Wl Rk
open Builtin.Int (intBits)
variable {P:Program}{w:World}{K:PySem.W.Frag}{mg:Str→Option Value}{base:Heap}{f:Addr}{fd:FuncData}
theorem LsA.append {H:Hp}{as bs:List Addr}{ts us:List (List Int)} (h:LsA H as ts) (h2:LsA H bs us):LsA H (as++bs) (ts++us):=by
 refine⟨by rw[q0m,q0m,h.1,h2.1],fun i a t e1 e2=>?_⟩
 by_cases hi:i<as.length
 ·rw[q0N hi] at e1
  rw[q0N (by rw[←h.1];exact hi)] at e2
  exact h.2 i a t e1 e2
 ·rw[q0D (by lia)] at e1
  rw[q0D (by rw[←h.1];lia),←h.1] at e2
  exact h2.2 _ a t e1 e2
theorem LsA.one {H:Hp}{a:Addr}{t:List Int} (h:H a=some (.lst (t.map V.int))):LsA H [a] [t]:=⟨rfl,fun i b u e1 e2=>by
 cases i with
 |zero=>cases e1;cases e2;exact h
 |succ i=>simp at e1⟩
theorem y2F {H:Hp}{as:List Addr}{L:List (List Int)} (h:LsA H as L) {x:V} (hx:x∈as.map V.ref):∃(i:Nat) (a:Addr) (t:List Int),x= .ref a∧as[i]? =some a∧L[i]? =some t∧t∈L∧H a=some (.lst (t.map V.int)):=by
 obtain⟨a,ha,rfl⟩:=q0f.mp hx
 obtain⟨i,hi,rfl⟩:=q0v.mp ha
 have hi2:i<L.length:=by rw[←h.1];exact hi
 exact⟨i,_,_,rfl,q0c hi,q0c hi2,q0y hi2,h.2 i _ _ (q0c hi) (q0c hi2)⟩
def z1n:Nat→List (List Int)
 |0=>[[]]
 |n+1=>z1n n++(z1n n).map fun t=>t++[((n:Nat):Int)]
theorem z4B:∀n,(z1n n).length =2^n
 |0=>rfl
 |n+1=>by
  show (z1n n++(z1n n).map fun t=>t++[((n:Nat):Int)]).length =_
  rw[q0m,q0b,z4B n,Nat.pow_succ];lia
theorem z3j:∀(n:Nat),∀t∈z1n n,t.length≤n
 |0,t,h=>by rw[List.mem_singleton.mp h];simp
 |n+1,t,h=>by
  rcases q0s.mp h with h|h
  ·exact Nat.le_succ_of_le (z3j n t h)
  ·obtain⟨u,hu,rfl⟩:=q0f.mp h
   have:=z3j n u hu
   rw[q0m,q1m];lia
abbrev z2J:Stmt:=top 37
theorem sc_l_lots:z0z ["_law_many","_law_found","_law_place"] ["_law_many"] (z0g z2J):=⟨rfl,rfl,rfl,by decide+kernel,rfl,by decide+kernel,by decide+kernel⟩
def y3o (K:PySem.W.Frag):Sp:=fun vs H Q _=>∃n:Nat,vs=[.int (n:Nat)]∧n≤8∧∀(r:Addr) (bs:List Addr) (H':Hp),H r=none→Same H H'→H' r=some (.lst (bs.map V.ref))→LsA H' bs (z1n n)→Q (.ref r) H'
theorem y0B (T:Txt mg) (F:Fun K "_law_lots" "_law_lots" z2J f fd):FnOk P w K mg base CX0 1 f fd ["_law_many"] (y3o K):=by
 refine F.ok sc_l_lots (fun vs H Q E h=>?_) (fun cdv A outer s H vs Q E hr h=>?_)
 ·obtain⟨_,rfl,_⟩:=h;rfl
 obtain⟨n,rfl,n8,q⟩:=h
 refine⟨_,(z0b (z0n (i:=1) sc_l_lots.nd rfl (Or.inl rfl) (z0P (z0a (z0P z0d) z0d)))
  (z0b (z1b PassesOwn.never rfl (z2d rfl T.range (z0a (pv 0) z0d)) (z0j (i:=2) sc_l_lots.nd rfl (Or.inr rfl)) (z0h (z0n (i:=1) sc_l_lots.nd rfl (Or.inl rfl) (z0q z4y (pv 1) (z0N (Nc:=["_law_lot","_law_place"]) (fr:=[none,some 2]) rfl (z0D (K:=K) rfl (pv 1)) rfl (by decide) rfl (by decide) rfl ⟨rfl,trivial⟩ ⟨⟨rfl,rfl,rfl,rfl⟩,trivial⟩ (fun _ _ _ _=>(z0j (i:=0) (show List.Nodup (["_law_lot","_law_place"]:List Str) from by decide) rfl (Or.inl rfl))) (fun _ _ _ _=>z0Q) (fun _ _ _ _=>(z0q z4y (pv 0) (z0P (z0a (pv 1) z0d)))))))))
  (z0h (z0A (pv 1))))),?_⟩
 refine z0o (fun σ H'=>∃(r:Addr) (bs:List Addr),σ=[some (.int (n:Nat)),some (.ref r),none]∧H r=none∧H' r=some (.lst (bs.map V.ref))∧LsA H' bs (z1n 0)∧Same H H') (fun N hN=>?_) ?_
 ·refine⟨q0S _,fun e0 he0=>⟨z0k (by show 1≤_;decide),fun r hr0=>?_⟩⟩
  have g1:=z0f he0 (.lst [])
  have g2:=z0f hr0 (.lst [V.ref e0])
  exact hN _ _ ⟨r,[e0],rfl,g1.free hr0,z0c,LsA.one (t:=[]) (g2 _ _ z0c),g1.trans g2⟩
 rintro σ H0 ⟨r0,bs0,rfl,hr0,e0,l0,g0⟩
 refine z0o (fun σ H'=>∃(r:Addr) (bs:List Addr) (s2:Option V),σ=[some (.int (n:Nat)),some (.ref r),s2]∧H r=none∧H' r=some (.lst (bs.map V.ref))∧LsA H' bs (z1n n)∧Same H H') (fun N hN=>?_) ?_
 ·refine⟨_,rfl,_,rfl,by lia,by lia,?_⟩
  rw[q0G]
  refine z0H (z1D 0 n) (fun i σ H'=>∃(r:Addr) (bs:List Addr) (s2:Option V),σ=[some (.int (n:Nat)),some (.ref r),s2]∧H r=none∧H' r=some (.lst (bs.map V.ref))∧LsA H' bs (z1n i)∧Same H H') ⟨r0,bs0,_,rfl,hr0,e0,l0,g0⟩ (fun _ _ _ _ _=>trivial) ?_ ?_
  ·rintro i x σ H1 H1' hi ⟨r,bs,s2,rfl,hr1,er,hb1,g⟩ ⟨rfl,rfl⟩
   have ll:=z4B i
   have l3:2^i≤2^8:=q1x (by decide) (by lia)
   refine⟨_,rfl,_,rfl,r,rfl,⟨_,SqL.of er⟩,fun D hD=>?_⟩
   refine z2e rfl (z0v K r (bs.map V.ref)) hD (fun _=>true) (fun H' x u=>∃(a:Addr) (t:List Int) (p:Addr),x=V.ref a∧u=V.ref p∧H1' a=some (.lst (t.map V.int))∧H' p=some (.lst (((fun t=>t++[(i:Int)]) t).map V.int))∧p≠D) ?_ (fun H' g'=>SqL.of (g' _ _ er)) (z0k (by rw[q0b,hb1.1,ll];lia)) ?_ ?_ ?_
   ·rintro Ha Hb x u kk ⟨acc,hd⟩ ⟨a,t,p,e1,e2,e3,e4,e5⟩
    exact⟨a,t,p,e1,e2,e3,kk _ _ e5 e4,e5⟩
   ·intro x hx Hc gc S h
    exact h _ (Same.refl _)
   ·rintro x hx _ Hc gc ⟨acc,hacc⟩ S h
    obtain⟨j,a,t,rfl,ha,ht,htm,hc⟩:=y2F hb1 hx
    have tl:=z3j i t htm
    refine⟨_,rfl,_,rfl,z0k (by show 1≤_;decide),fun e1 he1=>?_⟩
    rw[Int.zero_add]
    have g2:=z0f he1 (.lst [V.int (i:Int)])
    refine⟨a,e1,_,_,rfl,rfl,g2 _ _ (gc _ _ hc),z0c,z0k (by rw[q0b];show t.length+1≤_;lia),fun p hp=>?_⟩
    have g3:=z0f hp (.lst (t.map V.int++[V.int (i:Int)]))
    refine h _ _ (g2.trans g3) ⟨a,t,p,rfl,rfl,hc,by rw[z0c,q0H];rfl,fun y=>?_⟩
    rw[y,g2 _ _ hacc] at hp
    cases hp
   ·intro us H2 g2 hD2 he
    rw[z0E] at he
    obtain⟨as2,rfl,hM1,hM2⟩:=z3o (G:= .lst) (F:= .lst) (g:=fun t=>t++[(i:Int)]) (fun xs ys h=>by injection h) hb1.1 hb1.2 (he.imp fun x u ⟨a,t,p,e1,e2,e3,e4,_⟩=>⟨a,t,p,e1,e2,e3,e4⟩)
    have hM:LsA H2 as2 ((z1n i).map fun t=>t++[(i:Int)]):=⟨hM1,hM2⟩
    refine⟨r,D,_,_,rfl,rfl,g2 _ _ er,hD2,z0k (by rw[q0b,q0b,hb1.1,hM.1,q0b,ll];lia),fun r2 hr2=>?_⟩
    have g3:=z0f hr2 (.lst (bs.map V.ref++as2.map V.ref))
    refine⟨r2,bs++as2,_,rfl,(g.trans g2).free hr2,by rw[z0c,q0H],?_,g.trans (g2.trans g3)⟩
    exact ((hb1.same g2).append hM).same g3
  ·rintro σ H1 ⟨r,bs,s2,rfl,hr1,er,hb1,g⟩
   exact hN _ _ ⟨r,bs,_,rfl,hr1,er,hb1,g⟩
 rintro σ H1 ⟨r,bs,s2,rfl,hr1,er,hb1,g⟩
 exact⟨_,rfl,q r bs _ hr1 g er hb1⟩
end
end L2
namespace L2
open PySem PySem.Spec PyProof.Rows
section
open Fr Wl Rk
open Builtin.Int (intBits)
variable {P:Program}{w:World}{K:PySem.W.Frag}{mg:Str→Option Value}{base:Heap}{f:Addr}{fd:FuncData}
abbrev z0Z:Stmt:=top 8
theorem z4J:z0z ["row"] ["row"] (z0g z0Z):=⟨rfl,rfl,rfl,by decide+kernel,rfl,by decide+kernel,by decide+kernel⟩
def z2V (K:PySem.W.Frag):Sp:=fun vs H Q _=>∃(p:Addr) (r:List Int),vs=[.ref p]∧SqA K H p (r.map V.int)∧r.length≤1000∧(∃n∈r,n≠0)∧∀H',Same H H'→Q (.int (fp r:Nat)) H'
theorem z4L (T:Txt mg) (F:Fun K "first_place" "first_place" z0Z f fd):FnOk P w K mg base CX0 1 f fd ["row"] (z2V K):=by
 refine F.ok z4J (fun vs H Q E h=>?_) (fun cdv A outer s H vs Q E hr h=>?_)
 ·obtain⟨_,_,rfl,_⟩:=h;rfl
 obtain⟨p,r,rfl,hS,hlen,hnz,q⟩:=h
 obtain⟨b,hB⟩:=hS.toB
 refine⟨_,(z0h (z0A (z0K (z0r (K:=K) rfl) (z0N (Nc:=["place","number"]) (fr:=[none,none]) rfl (z8b (K:=K) rfl rfl T.enumerate (z0a (pv 0) z0d)) rfl (by decide) rfl (by decide) rfl trivial trivial (fun _ _ _ _=>(z1m (K:=K) rfl 2 rfl (z0B (z0j (i:=0) (show List.Nodup (["place","number"]:List Str) from by decide) rfl (Or.inl rfl)) (z0B (z0j (i:=1) (show List.Nodup (["place","number"]:List Str) from by decide) rfl (Or.inl rfl)) z1l)))) (fun _ _ _ _=>(z2W (z0x z3E (pv 1) z0e (z0F _)))) (fun _ _ _ _=>(pv 0))) z0e (fun _ _=>rfl)))),?_⟩
 refine⟨_,rfl,p,b,_,rfl,hB,fun D hD=>?_⟩
 refine z2A rfl (z4Y K b p (r.map V.int)) hD (fun c=>match c.2 with| .int n=> !decide (V.int n=V.int 0)|_=>false) Prod.fst ?_ (fun H' g'=>hB.same g') (z0k (by unfold z4N;rw[List.length_mapIdx,List.length_map];lia)) ?_ ?_ ?_
 ·intro p u v σ H hp S h
  exact⟨p,_,rfl,SqT.of hp,rfl,_,_,rfl,_,_,rfl,rfl,h⟩
 ·intro c hc Hc gc S h
  obtain⟨i,n,rfl⟩:∃(i n:Int),c=(.int i,.int n):=by
   unfold z4N at hc
   obtain⟨i,hi,rfl⟩:=List.mem_mapIdx.mp hc
   exact⟨(i:Int),r[i]'(by simpa using hi),by rw[q1h]⟩
  exact⟨_,rfl,rfl,_,rfl,h⟩
 ·intro c hc _ Hc gc S h
  exact⟨_,rfl,h⟩
 ·intro H' g' hD'
  have e:=z5k r 0 hnz
  refine⟨D,_,_,_,rfl,rfl,SqL.of hD',z2m (j:=0) e,?_⟩
  exact q _ g'
theorem z2C {α β γ:Type} (f:α→β→γ):∀(xs:List α) (ys:List β),List.zipWith f xs ys=(xs.zip ys).map fun c=>f c.1 c.2
 |[],_=>by simp
 |_::_,[]=>by simp
 |x::xs,y::ys=>by rw[List.zipWith_cons_cons,z2C f xs ys];rfl
theorem z8v {H:Hp}{a:Addr}{xs:List V}{j:Int}{u:V}{Q:VK} (h:SqA K H a xs) (e:atI xs j=some u) (q:Q u H):rIxA K (.ref a) (.int j) H Q:=by
 rcases h with h|h
 ·exact .inl ⟨a,xs,_,u,rfl,rfl,h,e,q⟩
 ·exact .inr ⟨a,xs,_,u,rfl,rfl,h,e,q⟩
theorem z9C {xs:List Int}{j:Nat} (h:j<xs.length):atI (xs.map V.int) (j:Int)=some (.int (v xs j)):=by
 refine z2m ?_
 rw[q0k,q0c h]
 show _=some (V.int (xs.getD j 0))
 rw[q0a,q0c h];rfl
theorem z1d {xs:List Int}{k:Nat} (h:∀n∈xs,intBits n≤k) (j:Nat):intBits (v xs j)≤k:=by
 show intBits (xs.getD j 0)≤k
 rw[q0a]
 cases e:xs[j]? with
 |none=>exact Nat.le_trans (show intBits 0≤0 by decide) (Nat.zero_le _)
 |some n=>exact h n (List.mem_of_getElem? e)
abbrev z2a:Stmt:=top 9
theorem sc_cleared:z0z ["numbers","row","place","shared","own","less"] ["numbers","row"] (z0g z2a):=⟨rfl,rfl,rfl,by decide+kernel,rfl,by decide+kernel,by decide+kernel⟩
def z6l (K:PySem.W.Frag):Sp:=fun vs H Q _=>∃(p o:Addr) (xs rs:List Int) (bx br:Nat),vs=[.ref p,.ref o]∧SqA K H p (xs.map V.int)∧SqA K H o (rs.map V.int)∧xs.length=rs.length∧rs.length≤1000∧(∀n∈xs,intBits n≤bx)∧(∀n∈rs,intBits n≤br)∧bx≤20000∧br≤9000∧(∃n∈rs,n≠0)∧
 ∀(l:Addr) (H':Hp),(∀n∈z0p xs rs,intBits n≤bx+br+1)→Same H H'→H' l=some (.lst ((z0p xs rs).map V.int))→Q (.ref l) H'
theorem z9o (T:Txt mg) (F:Fun K "cleared" "cleared" z2a f fd) (c_first_place:Cal P w K mg base 1 "first_place" ["row"] (z2V K)) (c_divisor:Cal P w K mg base 1 "divisor" ["one","other"] z1I):FnOk P w K mg base CX0 2 f fd ["numbers","row"] (z6l K):=by
 refine F.ok sc_cleared (fun vs H Q E h=>?_) (fun cdv A outer s H vs Q E hr h=>?_)
 ·obtain⟨_,_,_,_,_,_,rfl,_⟩:=h;rfl
 obtain⟨p,o,xs,rs,bx,br,rfl,hX,hR,hl,hlen,zx,zr,hbx,hbr,hnz,q⟩:=h
 refine⟨_,(z0b (z0n (i:=2) sc_cleared.nd rfl (Or.inl rfl) (z0s c_first_place hr rfl (z0a (pv 1) z0d)))
  (z0b (z0n (i:=3) sc_cleared.nd rfl (Or.inl rfl) (z0s c_divisor hr rfl (z0a (z0K (z5M (K:=K) rfl) (pv 1) (pv 2) (fun _ _=>rfl)) (z0a (z0K (z5M (K:=K) rfl) (pv 0) (pv 2) (fun _ _=>rfl)) z0d))))
  (z0b (z0n (i:=4) sc_cleared.nd rfl (Or.inr rfl) (z0q z4w (z0K (z5M (K:=K) rfl) (pv 1) (pv 2) (fun _ _=>rfl)) (pv 3)))
  (z0b (z0n (i:=5) sc_cleared.nd rfl (Or.inr rfl) (z0q z4w (z0K (z5M (K:=K) rfl) (pv 0) (pv 2) (fun _ _=>rfl)) (pv 3)))
  (z0h (z0A (z0N (Nc:=["one","other","own","less"]) (fr:=[none,none,some 4,some 5]) rfl (z3C (K:=K) rfl rfl T.zip (z0a (pv 0) (z0a (pv 1) z0d))) rfl (by decide) rfl (by decide) rfl ⟨rfl,⟨rfl,trivial⟩⟩ ⟨⟨rfl,rfl,rfl,rfl⟩,⟨⟨rfl,rfl,rfl,rfl⟩,trivial⟩⟩ (fun _ _ _ _=>(z1m (K:=K) rfl 2 rfl (z0B (z0j (i:=0) (show List.Nodup (["one","other","own","less"]:List Str) from by decide) rfl (Or.inl rfl)) (z0B (z0j (i:=1) (show List.Nodup (["one","other","own","less"]:List Str) from by decide) rfl (Or.inl rfl)) z1l)))) (fun _ _ _ _=>z0Q) (fun _ _ _ _=>(z0q z1P (z0q z0L (pv 2) (pv 0)) (z0q z0L (pv 3) (pv 1))))))))))),?_⟩
 refine⟨_,rfl,o,rs,rfl,hR,hlen,hnz,fun H1 g1=>?_⟩
 have hX1:=hX.same g1
 have hR1:=hR.same g1
 have lt:fp rs<rs.length:=y2T hnz
 have ltx:fp rs<xs.length:=by lia
 have n0:=z2q hnz
 have g0:=z8A (b:=v xs (fp rs)) n0
 have ob:intBits (z3O xs rs)≤br:=intBits_le_of_natAbs (z4F (q1w ..) g0) (z1d zr _)
 have lb:intBits (z2j xs rs)≤bx:=intBits_le_of_natAbs (z4F (Int.gcd_dvd_right ..) g0) (z1d zx _)
 have gb:intBits ((Int.gcd (v rs (fp rs)) (v xs (fp rs)):Nat):Int)≤9000:=by
  refine intBits_le_of_natAbs (y:=v rs (fp rs)) ?_ (q0o (z1d zr _) (by lia))
  rw[Int.natAbs_natCast]
  exact Nat.le_of_dvd (Int.natAbs_pos.mpr n0) (Int.natAbs_dvd_natAbs.mpr (q1w (a:=v rs (fp rs)) (b:=v xs (fp rs))))
 refine⟨_,rfl,_,rfl,z8v hR1 (z9C lt) ⟨_,rfl,_,rfl,z8v hX1 (z9C ltx) ⟨_,_,rfl,?_⟩⟩⟩
 refine⟨_,rfl,_,rfl,z8v hR1 (z9C lt) ⟨_,rfl,_,_,rfl,rfl,⟨g0,gb⟩,?_⟩⟩
 refine⟨_,rfl,_,rfl,z8v hX1 (z9C ltx) ⟨_,rfl,_,_,rfl,rfl,⟨g0,gb⟩,?_⟩⟩
 obtain⟨b1,hB1⟩:=hX1.toB
 obtain⟨b2,hB2⟩:=hR1.toB
 refine⟨_,rfl,_,rfl,p,o,b1,b2,_,_,rfl,hB1,hB2,fun D hD=>?_⟩
 refine z2A rfl (z2b K b1 b2 p o (xs.map V.int) (rs.map V.int)) hD (fun _=>true) (fun c=>match c with|(.int m,.int n)=> .int (z3O xs rs*m - z2j xs rs*n)|_=> .non) ?_ (fun H' g'=>⟨hB1.same g',hB2.same g'⟩) (z0k (by rw[q1e,q0b,q0b];lia)) ?_ ?_ ?_
 ·intro p u v σ H hp S h
  exact⟨p,_,rfl,SqT.of hp,rfl,_,_,rfl,_,_,rfl,rfl,h⟩
 ·intro c hc Hc gc S h
  exact h
 ·intro c hc _ Hc gc S h
  obtain⟨m,n,rfl,hm,hn⟩:∃(m n:Int),c=(.int m,.int n)∧m∈xs∧n∈rs:=by
   obtain⟨c1,c2⟩:=c
   obtain⟨h1,h2⟩:=q1C hc
   obtain⟨m,hm,rfl⟩:=q0f.mp h1
   obtain⟨n,hn,rfl⟩:=q0f.mp h2
   exact⟨m,n,rfl,hm,hn⟩
  exact⟨_,rfl,_,rfl,_,_,rfl,rfl,z1z (q0o ob (by omega)) (q0o (zx m hm) (by omega)),_,rfl,_,rfl,_,_,rfl,rfl,z1z (q0o lb (by omega)) (q0o (zr n hn) (by omega)),_,_,rfl,rfl,h⟩
 ·intro H' g' hD'
  rw[z0E] at hD'
  have em:((xs.map V.int).zip (rs.map V.int)).map (fun c=>match c with|(.int m,.int n)=>V.int (z3O xs rs*m - z2j xs rs*n)|_=> .non)=(z0p xs rs).map V.int:=by
   unfold z0p
   rw[z2C,q0M,List.zip_map,q0M]
   rfl
  rw[em] at hD'
  refine q D _ (fun n hn=>?_) (g1.trans g') hD'
  unfold z0p at hn
  rw[z2C] at hn
  obtain⟨c,hc,rfl⟩:=q0f.mp hn
  obtain⟨h1,h2⟩:=q1C (show (c.1,c.2)∈xs.zip rs from hc)
  exact q0o (intBits_sub_le (intBits_mul_le ob (zx _ h1)) (intBits_mul_le lb (zr _ h2))) (by lia)
end
end L2
namespace L2
open PySem PySem.Spec PyProof.Rows
section
open Fr Wl Rk
open Builtin.Int (intBits)
variable {P:Program}{w:World}{K:PySem.W.Frag}{mg:Str→Option Value}{base:Heap}{f:Addr}{fd:FuncData}
abbrev z1B:Stmt:=top 35
theorem sc_l_struck:z0z ["_law_rows","_law_k","_law_head","_law_found","_law_row_here"] ["_law_rows","_law_k","_law_head"] (z0g z1B):=⟨rfl,rfl,rfl,by decide+kernel,rfl,by decide+kernel,by decide+kernel⟩
def z7Q (K:PySem.W.Frag):Sp:=fun vs H Q _=>∃(l h:Addr) (as:List Addr) (ts:List (List Int)) (hd:List Int) (k B:Nat),vs=[.ref l,.int (k:Nat),.ref h]∧H l=some (.lst (as.map V.ref))∧LsA H as ts∧H h=some (.lst (hd.map V.int))∧(∀t∈ts,t.length=hd.length∧∀n∈t,intBits n≤B)∧(∀n∈hd,intBits n≤B)∧B≤100000∧k<hd.length∧hd.length≤10∧ts.length≤20∧
 ∀(r:Addr) (bs:List Addr) (H':Hp),H r=none→Same H H'→H' r=some (.lst (bs.map V.ref))→LsA H' bs (ts.map (z2U k hd))→Q (.ref r) H'
theorem LsA.put_lst {H:Hp}{as:List Addr}{ts:List (List Int)}{ll:Addr}{o:HO} (h:LsA H as ts) (hn:ll∉as):LsA (upd H ll o) as ts:=
 ⟨h.1,fun i a t e1 e2=>by
  have hne:a≠ll:=fun z=>hn (by rw[←z];exact q0u e1)
  rw[z0m hne]
  exact h.2 i a t e1 e2⟩
theorem z7s (T:Txt mg) (F:Fun K "_law_struck" "_law_struck" z1B f fd):FnOk P w K mg base CX0 1 f fd ["_law_rows","_law_k","_law_head"] (z7Q K):=by
 refine F.ok sc_l_struck (fun vs H Q E h=>?_) (fun cdv A outer s H vs Q E hr h=>?_)
 ·obtain⟨_,_,_,_,_,_,_,rfl,_⟩:=h;rfl
 obtain⟨l,h,as,ts,hd,k,B,rfl,hl,hts,hh,zt,zh,bB,kl,hl10,t20,q⟩:=h
 refine⟨_,(z0b (z0n (i:=3) sc_l_struck.nd rfl (Or.inl rfl) (z0P z0d))
  (z0b (z1b PassesOwn.never rfl (z0D (K:=K) rfl (pv 0)) (z0j (i:=4) sc_l_struck.nd rfl (Or.inr rfl)) (z0h (z2X (z9f PySem.F.plainAttrs_list PySem.F.slot_list_append PySem.F.type_list_append z1K (pv 3) (z0a (z0N (Nc:=["_law_number","_law_more","_law_head","_law_k","_law_row_here"]) (fr:=[none,none,some 2,some 1,some 4]) rfl (z3C (K:=K) rfl rfl T.zip (z0a (pv 4) (z0a (pv 2) z0d))) rfl (by decide) rfl (by decide) rfl ⟨rfl,⟨rfl,⟨rfl,trivial⟩⟩⟩ ⟨⟨rfl,rfl,rfl,rfl⟩,⟨⟨rfl,rfl,rfl,rfl⟩,⟨⟨rfl,rfl,rfl,rfl⟩,trivial⟩⟩⟩ (fun _ _ _ _=>(z1m (K:=K) rfl 2 rfl (z0B (z0j (i:=0) (show List.Nodup (["_law_number","_law_more","_law_head","_law_k","_law_row_here"]:List Str) from by decide) rfl (Or.inl rfl)) (z0B (z0j (i:=1) (show List.Nodup (["_law_number","_law_more","_law_head","_law_k","_law_row_here"]:List Str) from by decide) rfl (Or.inl rfl)) z1l)))) (fun _ _ _ _=>z0Q) (fun _ _ _ _=>(z0q z1P (z0q z0L (pv 0) (z0K (z0r (K:=K) rfl) (pv 2) (pv 3) (fun _ _=>rfl))) (z0q z0L (pv 1) (z0K (z0r (K:=K) rfl) (pv 4) (pv 3) (fun _ _=>rfl)))))) z0d)))))
  (z0h (z0A (pv 3))))),?_⟩
 refine z0o (fun σ H'=>∃r:Addr,σ=[some (.ref l),some (.int (k:Nat)),some (.ref h),some (.ref r),none]∧H r=none∧H' r=some (.lst (([]:List Addr).map V.ref))∧Same H H') (fun N hN=>?_) ?_
 ·exact⟨q0S _,fun r hr0=>hN _ _ ⟨r,rfl,hr0,z0c,z0f hr0 _⟩⟩
 rintro σ H0 ⟨r,rfl,hr0,e0,g0⟩
 refine z0o (fun σ H'=>∃(bs:List Addr) (s4:Option V),σ=[some (.ref l),some (.int (k:Nat)),some (.ref h),some (.ref r),s4]∧H' r=some (.lst (bs.map V.ref))∧r∉bs∧LsA H' bs (ts.map (z2U k hd))∧Same H H') (fun N hN=>?_) ?_
 ·refine⟨_,rfl,l,rfl,⟨_,SqL.of (g0 _ _ hl)⟩,?_⟩
  refine z0H (z0v K l (as.map V.ref)) (fun i σ H'=>∃(bs:List Addr) (s4:Option V),σ=[some (.ref l),some (.int (k:Nat)),some (.ref h),some (.ref r),s4]∧H' r=some (.lst (bs.map V.ref))∧r∉bs∧LsA H' bs ((ts.take i).map (z2U k hd))∧Same H H') ⟨[],_,rfl,e0,by simp,LsA.nil,g0⟩ (fun i σ H' _ h=>by obtain⟨_,_,_,_,_,_,g⟩:=h;exact SqL.of (g _ _ hl)) ?_ ?_
  ·clear e0
   rintro i x σ H1 H1' hi ⟨bs,s4,rfl,er,hrb,hb,g⟩ ⟨rfl,hx⟩
   rw[q0b,hts.1] at hi
   rw[q0k] at hx
   obtain⟨a,ha,rfl⟩:=q0A.mp hx
   have et:ts[i]? =some ts[i]:=q0c hi
   have htm:ts[i]∈ts:=q0y hi
   have tk:(ts.take (i+1)).map (z2U k hd)=(ts.take i).map (z2U k hd)++[z2U k hd ts[i]]:=by rw[q0Q,et,q0H];rfl
   generalize ts[i]=t at et htm tk
   obtain⟨tl,tb⟩:=zt t htm
   have hta:=g _ _ (hts.2 i a t ha et)
   have hha:=g _ _ hh
   refine⟨_,rfl,.inl ⟨rfl,_,SqL.of er⟩,_,rfl,_,rfl,a,h,true,true,_,_,rfl,SqL.of hta,SqL.of hha,fun D hD=>?_⟩
   refine z2A rfl (z2b K true true a h (t.map V.int) (hd.map V.int)) hD (fun _=>true) (fun c=>match c with|(.int m,.int n)=> .int (m*v hd k - n*v t k)|_=> .non) ?_ (fun H' g'=>⟨SqL.of (g' _ _ hta),SqL.of (g' _ _ hha)⟩) (z0k (by rw[q1e,q0b,q0b];lia)) ?_ ?_ ?_
   ·intro p u v σ H hp S h
    exact⟨p,_,rfl,SqT.of hp,rfl,_,_,rfl,_,_,rfl,rfl,h⟩
   ·intro c hc Hc gc S h
    exact h
   ·intro c hc _ Hc gc S hS
    obtain⟨m,n,rfl,hm,hn⟩:∃(m n:Int),c=(.int m,.int n)∧m∈t∧n∈hd:=by
     obtain⟨c1,c2⟩:=c
     obtain⟨h1,h2⟩:=q1C hc
     obtain⟨m,hm,rfl⟩:=q0f.mp h1
     obtain⟨n,hn,rfl⟩:=q0f.mp h2
     exact⟨m,n,rfl,hm,hn⟩
    exact⟨_,rfl,_,rfl,_,rfl,h,_,_,_,rfl,rfl,SqL.of (gc _ _ hha),z9C kl,_,_,rfl,rfl,z1z (q0o (tb m hm) bB) (q0o (z1d zh k) bB),_,rfl,_,rfl,_,rfl,a,_,_,_,rfl,rfl,SqL.of (gc _ _ hta),z9C (by lia),_,_,rfl,rfl,z1z (q0o (zh n hn) bB) (q0o (z1d tb k) bB),_,_,rfl,rfl,hS⟩
   ·intro H' g' hD'
    rw[z0E] at hD'
    have em:((t.map V.int).zip (hd.map V.int)).map (fun c=>match c with|(.int m,.int n)=>V.int (m*v hd k - n*v t k)|_=> .non)=(z2U k hd t).map V.int:=by
     unfold z2U
     rw[z2C,q0M,List.zip_map,q0M]
     rfl
    rw[em] at hD'
    have er':=g' _ _ er
    refine⟨r,_,_,rfl,rfl,er',z3I (by rw[q0b,hb.1,q0b,q0n];lia),?_⟩
    have rD:r≠D:=z0i er hD
    have hrb':r∉bs++[D]:=fun z=>by
     rcases q0s.mp z with z|z
     ·exact hrb z
     ·exact rD (q0g.mp z)
    refine⟨bs++[D],_,rfl,by rw[z0c,q0H];rfl,hrb',?_,fun b o e=>by rw[z0m (z0i e hr0)];exact (g.trans g') _ _ e⟩
    rw[tk]
    exact ((hb.same g').append (LsA.one hD')).put_lst hrb'
  ·rintro σ H1 ⟨bs,s4,rfl,er,hrb,hb,g⟩
   rw[q0b,hts.1,q0R] at hb
   exact hN _ _ ⟨bs,_,rfl,er,hrb,hb,g⟩
 rintro σ H1 ⟨bs,s4,rfl,er,hrb,hb,g⟩
 exact⟨_,rfl,q r bs _ hr0 g er hb⟩
end
end L2
namespace L2
open PySem PySem.Spec PyProof.Rows
section
open Fr Wl Rk
open Builtin.Int (intBits)
variable {P:Program}{w:World}{K:PySem.W.Frag}{mg:Str→Option Value}{base:Heap}{f:Addr}{fd:FuncData}
def atOf (H:Hp) (k:Nat) (x:V):Int:=match x with
 | .ref a=>(match H a with|some (.lst xs)=>(match xs[k]? with|some (.int n)=>n|_=>0)|_=>0)
 |_=>0
theorem y3e {H:Hp}{a:Addr}{t:List Int}{k:Nat} (h:H a=some (.lst (t.map V.int))):atOf H k (.ref a)=v t k:=by
 show (match H a with|some (.lst xs)=>(match xs[k]? with|some (.int n)=>n|_=>0)|_=>0)=t.getD k 0
 rw[h,q0a]
 show (match (t.map V.int)[k]? with|some (.int n)=>n|_=>0)=_
 rw[q0k]
 cases t[k]? <;>rfl
theorem z3H {H:Hp} (k:Nat):∀{as:List Addr}{L:List (List Int)},LsA H as L→∃fs:List Addr,(as.map V.ref).filter (fun x=> !decide (V.int (atOf H k x)=V.int 0))=fs.map V.ref∧LsA H fs (L.filter fun t=>v t k != 0)
 |[],[],_=>⟨[],rfl,LsA.nil⟩
 |a::as,t::L,h=>by
  have h':LsA H as L:=⟨by simpa using h.1,fun i b u e1 e2=>h.2 (i+1) b u (by simpa using e1) (by simpa using e2)⟩
  obtain⟨fs,e1,e2⟩:=z3H k h'
  have ha:=h.2 0 a t rfl rfl
  rw[q0t]
  by_cases h0:v t k=0
  ·rw[q0U (by rw[y3e ha,h0];decide),q0U (by rw[h0];decide)]
   exact⟨fs,e1,e2⟩
  ·rw[q0O (by rw[y3e ha];simpa using h0),q0O (by simpa using h0)]
   exact⟨a::fs,by rw[e1];rfl,(LsA.one ha).append e2⟩
 |[],_::_,h=>by have:=h.1;simp at this
 |_::_,[],h=>by have:=h.1;simp at this
theorem z9M {k b:Nat}{h t:List Int} (zh:∀n∈h,intBits n≤b) (zt:∀n∈t,intBits n≤b):∀n∈z2U k h t,intBits n≤2*b+1:=fun n hn=>by
 unfold z2U at hn
 rw[z2C] at hn
 obtain⟨c,hc,rfl⟩:=q0f.mp hn
 obtain⟨h1,h2⟩:=q1C (show (c.1,c.2)∈t.zip h from hc)
 exact q0o (intBits_sub_le (intBits_mul_le (zt _ h1) (z1d zh k)) (intBits_mul_le (zh _ h2) (z1d zt k))) (by lia)
theorem z4m {k:Nat}{s:List (List Int)×List (List Int)} (h:(s.2.filter fun t=>v t k != 0)=[]):z2p k s=s:=by unfold z2p;rw[h]
theorem z3u {k:Nat}{s:List (List Int)×List (List Int)}{h:List Int}{l:List (List Int)} (e:(s.2.filter fun t=>v t k != 0)=h::l):z2p k s=(s.1.map (z2U k h)++[h],s.2.map (z2U k h)):=by unfold z2p;rw[e]
theorem z4s {m B:Nat}{rows:List (List Int)} (hr:∀t∈rows,∀n∈t,intBits n≤B):∀k,((z1E rows k).1.length ≤k∧(z1E rows k).2.length =rows.length)∧(∀t∈(z1E rows k).1,∀n∈t,intBits n+1≤2^k*(B+1))∧∀t∈(z1E rows k).2,∀n∈t,intBits n+1≤2^k*(B+1)
 |0=>⟨⟨Nat.le_refl _,rfl⟩,(fun t h=>by cases h),fun t ht n hn=>by have:=hr t ht n hn;simp;lia⟩
 |k+1=>by
  obtain⟨⟨i0,i1⟩,i2,i3⟩:=z4s (m:=m) hr k
  have pw:2^(k+1)*(B+1)=2^k*(B+1)+2^k*(B+1):=by rw[Nat.pow_succ];grind
  show ((z2p k (z1E rows k)).1.length ≤k+1∧_)∧_
  cases e:(z1E rows k).2.filter fun t=>v t k != 0 with
  |nil=>
   show (((z2p k (z1E rows k)).1.length ≤k+1∧(z2p k (z1E rows k)).2.length =rows.length)∧(∀t∈(z2p k (z1E rows k)).1,∀n∈t,intBits n+1≤2^(k+1)*(B+1))∧∀t∈(z2p k (z1E rows k)).2,∀n∈t,intBits n+1≤2^(k+1)*(B+1))
   rw[z4m e,pw]
   exact⟨⟨by lia,i1⟩,fun t ht n hn=>by have:=i2 t ht n hn;lia,fun t ht n hn=>by have:=i3 t ht n hn;lia⟩
  |cons h l=>
   have hm:h∈(z1E rows k).2 :=(q1a.mp (show h∈(z1E rows k).2.filter fun t=>v t k != 0 by rw[e];exact q0j)).1
   have st:∀t,(∀n∈t,intBits n+1≤2^k*(B+1))→∀n∈z2U k h t,intBits n+1≤2^(k+1)*(B+1):=fun t ht n hn=>by
    have:=z9M (b:=2^k*(B+1) - 1) (fun n hn=>by have:=i3 h hm n hn;lia) (fun n hn=>by have:=ht n hn;lia) n hn
    have p1:1≤2^k*(B+1):=Nat.mul_pos (Nat.two_pow_pos k) (by lia)
    rw[pw];lia
   show (((z2p k (z1E rows k)).1.length ≤k+1∧(z2p k (z1E rows k)).2.length =rows.length)∧(∀t∈(z2p k (z1E rows k)).1,∀n∈t,intBits n+1≤2^(k+1)*(B+1))∧∀t∈(z2p k (z1E rows k)).2,∀n∈t,intBits n+1≤2^(k+1)*(B+1))
   rw[z3u e]
   refine⟨⟨by simp;lia,by rw[q0b];exact i1⟩,fun t ht=>?_,fun t ht=>?_⟩
   ·rcases q0s.mp ht with ht|ht
    ·obtain⟨u,hu,rfl⟩:=q0f.mp ht
     exact st u (i2 u hu)
    ·rw[q0g.mp ht]
     intro n hn
     have:=i3 h hm n hn
     rw[pw];lia
   ·obtain⟨u,hu,rfl⟩:=q0f.mp ht
    exact st u (i3 u hu)
end
end L2
namespace L2
open PySem PySem.Spec PyProof.Rows
section
open Fr Wl Rk
open Builtin.Int (intBits)
variable {P:Program}{w:World}{K:PySem.W.Frag}{mg:Str→Option Value}{base:Heap}{f:Addr}{fd:FuncData}
abbrev z1p:Stmt:=top 36
theorem sc_l_reduced:z0z ["_law_ways","_law_rows","_law_left","_law_found","_law_k","_law_heads"] ["_law_ways","_law_rows"] (z0g z1p):=⟨rfl,rfl,rfl,by decide+kernel,rfl,by decide+kernel,by decide+kernel⟩
def z6k (K:PySem.W.Frag):Sp:=fun vs H Q _=>∃(l:Addr) (as:List Addr) (ts:List (List Int)) (m B:Nat),vs=[.int (m:Nat),.ref l]∧H l=some (.lst (as.map V.ref))∧TsA H as ts∧ts.length≤10∧m≤4∧(∀t∈ts,t.length=m+1∧∀n∈t,intBits n≤B)∧16*(B+1)≤9000∧
 (∀H',Same H H'→(∃t∈(z1E ts m).2,v t m≠0)→Q .non H')∧
 ∀(r:Addr) (bs:List Addr) (H':Hp),H r=none→Same H H'→H' r=some (.lst (bs.map V.ref))→TsA H' bs ((z1E ts m).1.map z0l)→(∀t∈(z1E ts m).2,v t m=0)→Q (.ref r) H'
theorem y5s {k m B:Nat} (h:k≤m) (m4:m≤4):2^k*(B+1)≤16*(B+1):=Nat.mul_le_mul_right _ (q0o (q1x (by decide) (show k≤4 by lia)) (by decide))
theorem z6z (T:Txt mg) (F:Fun K "_law_reduced" "_law_reduced" z1p f fd) (c_l_struck:Cal P w K mg base 2 "_law_struck" ["_law_rows","_law_k","_law_head"] (z7Q K)) (c_l_plain:Cal P w K mg base 2 "_law_plain" ["_law_row_here"] (z7e K)):FnOk P w K mg base CX0 3 f fd ["_law_ways","_law_rows"] (z6k K):=by
 refine F.ok sc_l_reduced (fun vs H Q E h=>?_) (fun cdv A outer s H vs Q E hr h=>?_)
 ·obtain⟨_,_,_,_,_,rfl,_⟩:=h;rfl
 obtain⟨l,as,ts,m,B,rfl,hl,hts,t10,m4,zt,bB,q1,q2⟩:=h
 have hrl:∀t∈ts,t.length=m+1:=fun t ht=>(zt t ht).1
 have hrb:∀t∈ts,∀n∈t,intBits n≤B:=fun t ht=>(zt t ht).2
 refine⟨_,(z0b (z3B (jj:=2) rfl sc_l_reduced.nd rfl (Or.inl rfl) (Or.inl rfl) (Nc:=["_law_row_here"]) (fr:=[none]) rfl (z0D (K:=K) rfl (pv 1)) rfl (by decide) rfl (by decide) rfl trivial trivial (fun _ _ _ _=>(z0j (i:=0) (show List.Nodup (["_law_row_here"]:List Str) from by decide) rfl (Or.inl rfl))) (fun _ _ _ _=>z0Q) (fun _ _ _ _=>(z1v (z2f (K:=K) rfl) rfl T.list boot_list (z0a (pv 0) z0d))))
  (z0b (z0n (i:=3) sc_l_reduced.nd rfl (Or.inl rfl) (z0P z0d))
  (z0b (z1b PassesOwn.never rfl (z2d rfl T.range (z0a (pv 0) z0d)) (z0j (i:=4) sc_l_reduced.nd rfl (Or.inr rfl)) (z0b (z3B (jj:=5) rfl sc_l_reduced.nd rfl (Or.inl rfl) (Or.inl rfl) (Nc:=["_law_row_here","_law_k"]) (fr:=[none,some 4]) rfl (z0D (K:=K) rfl (pv 2)) rfl (by decide) rfl (by decide) rfl ⟨rfl,trivial⟩ ⟨⟨rfl,rfl,rfl,rfl⟩,trivial⟩ (fun _ _ _ _=>(z0j (i:=0) (show List.Nodup (["_law_row_here","_law_k"]:List Str) from by decide) rfl (Or.inl rfl))) (fun _ _ _ _=>(z2W (z0x z3E (z0K (z0r (K:=K) rfl) (pv 0) (pv 1) (fun _ _=>rfl)) z0e (z0F _)))) (fun _ _ _ _=>(pv 0)))
  (z0h (z1c (z0x (z4v (K:=K) rfl hr.units) (pv 5) (z0P z0d) (z0F _)) (z0b (z0n (i:=3) sc_l_reduced.nd rfl (Or.inl rfl) (z0q z4y (z0s c_l_struck hr rfl (z0a (pv 3) (z0a (pv 4) (z0a (z0K (z0r (K:=K) rfl) (pv 5) z0e (fun _ _=>rfl)) z0d)))) (z0P (z0a (z0K (z0r (K:=K) rfl) (pv 5) z0e (fun _ _=>rfl)) z0d))))
  (z0h (z0n (i:=2) sc_l_reduced.nd rfl (Or.inl rfl) (z0s c_l_struck hr rfl (z0a (pv 2) (z0a (pv 4) (z0a (z0K (z0r (K:=K) rfl) (pv 5) z0e (fun _ _=>rfl)) z0d))))))) z0C))))
  (z0b (z1c (z0x (z4v (K:=K) rfl hr.units) (z0N (Nc:=["_law_row_here","_law_ways"]) (fr:=[none,some 0]) rfl (z0D (K:=K) rfl (pv 2)) rfl (by decide) rfl (by decide) rfl ⟨rfl,trivial⟩ ⟨⟨rfl,rfl,rfl,rfl⟩,trivial⟩ (fun _ _ _ _=>(z0j (i:=0) (show List.Nodup (["_law_row_here","_law_ways"]:List Str) from by decide) rfl (Or.inl rfl))) (fun _ _ _ _=>(z2W (z0x z3E (z0K (z0r (K:=K) rfl) (pv 0) (pv 1) (fun _ _=>rfl)) z0e (z0F _)))) (fun _ _ _ _=>(pv 0))) (z0P z0d) (z0F _)) (z0h (z0A z8c)) z0C)
  (z0h (z0A (z0N (Nc:=["_law_row_here"]) (fr:=[none]) rfl (z0D (K:=K) rfl (pv 3)) rfl (by decide) rfl (by decide) rfl trivial trivial (fun _ _ _ _=>(z0j (i:=0) (show List.Nodup (["_law_row_here"]:List Str) from by decide) rfl (Or.inl rfl))) (fun _ _ _ _=>z0Q) (fun _ _ _ _=>(z0s c_l_plain hr rfl (z0a (pv 0) z0d)))))))))),?_⟩
 refine z0o (fun σ H'=>∃(D:Addr) (ls:List Addr),σ=[some (.int (m:Nat)),some (.ref l),some (.ref D),none,none,none]∧H' D=some (.lst (ls.map V.ref))∧LsA H' ls ts∧Same H H') (fun N hN=>?_) ?_
 ·refine⟨_,rfl,l,rfl,⟨_,SqL.of hl⟩,fun D hD=>?_⟩
  refine z2e rfl (z0v K l (as.map V.ref)) hD (fun _=>true) (fun H' x u=>∃(a:Addr) (t:List Int) (p:Addr),x=V.ref a∧u=V.ref p∧H a=some (.tup (t.map V.int))∧H' p=some (.lst (((fun t=>t) t).map V.int))∧p≠D) ?_ (fun H' g'=>SqL.of (g' _ _ hl)) (z0k (by rw[q0b,hts.1];lia)) ?_ ?_ ?_
  ·rintro H2 H3 x u k ⟨acc,hd⟩ ⟨a,t,p,e1,e2,e3,e4,e5⟩
   exact⟨a,t,p,e1,e2,e3,k _ _ e5 e4,e5⟩
  ·intro x hx Hc gc S h
   exact h _ (Same.refl _)
  ·rintro x hx _ Hc gc ⟨acc,hacc⟩ S h
   obtain⟨a,ha,rfl⟩:=q0f.mp hx
   obtain⟨i,hi,rfl⟩:=q0v.mp ha
   have hi2:i<ts.length:=by rw[←hts.1];exact hi
   have hc:=hts.2 i _ _ (q0c hi) (q0c hi2)
   generalize ts[i]=t at hc
   refine⟨_,rfl,_,_,rfl,.inr (SqT.of (gc _ _ hc)),fun p hp=>?_⟩
   exact h _ _ (z0f hp _) ⟨_,t,p,rfl,rfl,hc,z0c,fun z=>by rw[z,hacc] at hp;cases hp⟩
  ·intro us H1 g1 hD1 he
   rw[z0E] at he
   obtain⟨as1,rfl,hL1,hL2⟩:=z3o (G:= .tup) (F:= .lst) (g:=fun t=>t) (fun xs ys h=>by injection h) hts.1 hts.2 (he.imp fun x u ⟨a,t,p,e1,e2,e3,e4,_⟩=>⟨a,t,p,e1,e2,e3,e4⟩)
   rw[List.map_id'] at hL1 hL2
   exact hN _ _ ⟨D,as1,rfl,hD1,⟨hL1,hL2⟩,g1⟩
 rintro σ H0 ⟨Lf,ls0,rfl,el0,ll0,g0⟩
 refine z0o (fun σ H'=>∃(Fd:Addr),σ=[some (.int (m:Nat)),some (.ref l),some (.ref Lf),some (.ref Fd),none,none]∧H' Lf=some (.lst (ls0.map V.ref))∧LsA H' ls0 ts∧H' Fd=some (.lst (([]:List Addr).map V.ref))∧Same H H') (fun N hN=>?_) ?_
 ·refine⟨q0S _,fun Fd hFd=>?_⟩
  have g1:=z0f hFd (.lst [])
  exact hN _ _ ⟨Fd,rfl,g1 _ _ el0,ll0.same g1,z0c,g0.trans g1⟩
 clear el0 ll0 g0
 rintro σ H0 ⟨Fd,rfl,el0,ll0,ef0,g0⟩
 refine z0o (fun σ H'=>∃(Lf Fd:Addr) (ls fs:List Addr) (s4 s5:Option V),σ=[some (.int (m:Nat)),some (.ref l),some (.ref Lf),some (.ref Fd),s4,s5]∧H' Lf=some (.lst (ls.map V.ref))∧LsA H' ls (z1E ts m).2 ∧H' Fd=some (.lst (fs.map V.ref))∧LsA H' fs (z1E ts m).1 ∧Same H H') (fun N hN=>?_) ?_
 ·refine⟨_,rfl,_,rfl,by lia,by lia,?_⟩
  rw[q0G]
  refine z0H (z1D 0 m) (fun i σ H'=>∃(Lf Fd:Addr) (ls fs:List Addr) (s4 s5:Option V),σ=[some (.int (m:Nat)),some (.ref l),some (.ref Lf),some (.ref Fd),s4,s5]∧H' Lf=some (.lst (ls.map V.ref))∧LsA H' ls (z1E ts i).2 ∧H' Fd=some (.lst (fs.map V.ref))∧LsA H' fs (z1E ts i).1 ∧Same H H') ⟨Lf,Fd,ls0,[],_,_,rfl,el0,ll0,ef0,LsA.nil,g0⟩ (fun _ _ _ _ _=>trivial) ?_ ?_
  ·clear el0 ll0 ef0 g0
   rintro k x σ H1 H1' hk ⟨Lf,Fd,ls,fs,s4,s5,rfl,el,ll,ef,lf,g⟩ ⟨rfl,rfl⟩
   have I:=z4c hrl k (by lia)
   obtain⟨⟨c1,c2⟩,b1,b2⟩:=z4s (m:=m) hrb k
   have pw:=y5s (B:=B) (show k≤m by lia) m4
   have eR:z1E ts (k+1)=z2p k (z1E ts k):=rfl
   rw[Int.zero_add]
   refine z0o (fun σ H'=>∃(D:Addr) (hs:List Addr),σ=[some (.int (m:Nat)),some (.ref l),some (.ref Lf),some (.ref Fd),some (.int (k:Nat)),some (.ref D)]∧H' D=some (.lst (hs.map V.ref))∧LsA H' hs ((z1E ts k).2.filter fun t=>v t k != 0)∧Same H1' H') (fun N' hN'=>?_) ?_
   ·refine⟨_,rfl,Lf,rfl,⟨_,SqL.of el⟩,fun D hD=>?_⟩
    obtain⟨hs,f1,f2⟩:=z3H k ll
    refine z1e rfl (z0v K Lf (ls.map V.ref)) hD (fun x=> !decide (V.int (atOf H1' k x)=V.int 0)) (fun x=>x) (fun H' g'=>SqL.of (g' _ _ el)) (z0k (by rw[q0b,ll.1,c2];lia)) ?_ ?_ ?_
    ·intro x hx Hc gc S h
     obtain⟨i,a,t,rfl,ha,ht,htm,hc⟩:=y2F ll hx
     rw[y3e hc] at h
     exact⟨_,rfl,_,rfl,a,_,_,_,rfl,rfl,SqL.of (gc _ _ hc),z9C (by rw[(I.ll t htm).1];lia),rfl,_,rfl,h⟩
    ·intro x hx _ Hc gc S h
     exact⟨_,rfl,h⟩
    rw[List.map_id',f1]
    exact hN' _ _ ⟨D,hs,rfl,z0c,f2.same (z0f hD _),z0f hD _⟩
   rintro σ H2 ⟨D,hs,rfl,eD,lh,g2⟩
   refine⟨_,rfl,q0S _,fun z hz=>?_⟩
   have g3:=z0f hz (.lst [])
   have e3:upd H2 z (.lst []) z=some (.lst (([]:List Int).map V.int)):=z0c
   generalize upd H2 z (.lst [])=H3 at*
   have g23:=g2.trans g3
   have lh3:=lh.same g3
   have eD3:=g3 _ _ eD
   refine⟨D,z,_,_,rfl,rfl,y3H eD3 lh3,y0X e3,by cases ((z1E ts k).2.filter fun t=>v t k != 0)<;>rfl,_,rfl,?_⟩
   cases e:(z1E ts k).2.filter fun t=>v t k != 0 with
   |nil=>
    rw[show Dt.eqb (.l (([]:List (List Int)).map dtL)) (dtL [])=true from (Dt.eqb_iff _ _).mpr rfl]
    refine z3r ?_
    refine⟨Lf,Fd,ls,fs,_,_,rfl,g23 _ _ el,?_,g23 _ _ ef,?_,g.trans g23⟩
    ·rw[eR,z4m e];exact ll.same g23
    ·rw[eR,z4m e];exact lf.same g23
   |cons h lr=>
    rw[show Dt.eqb (.l ((h::lr).map dtL)) (dtL [])=false from rfl]
    refine z7x ?_
    rw[e] at lh3
    obtain⟨ah,hs',rfl⟩:∃a b,hs=a::b:=by cases hs with|nil=>have:=lh3.1;simp at this|cons a b=>exact⟨a,b,rfl⟩
    have hm:h∈(z1E ts k).2 :=(q1a.mp (show h∈(z1E ts k).2.filter fun t=>v t k != 0 by rw[e];exact q0j)).1
    have hha:=lh3.2 0 ah h rfl rfl
    have hhl:=(I.ll h hm).1
    have bnd:∀n:Int,intBits n+1≤2^k*(B+1)→intBits n≤9000:=fun n hn=>by lia
    refine z0o (fun σ H'=>∃(Fd':Addr) (fs':List Addr),σ=[some (.int (m:Nat)),some (.ref l),some (.ref Lf),some (.ref Fd'),some (.int (k:Nat)),some (.ref D)]∧H' Fd'=some (.lst (fs'.map V.ref))∧LsA H' fs' ((z1E ts k).1.map (z2U k h)++[h])∧Same H3 H') (fun N' hN'=>?_) ?_
    ·refine⟨_,rfl,_,rfl,_,rfl,D,_,_,_,rfl,rfl,SqL.of eD3,z2m (j:=0) rfl,Fd,ah,fs,(z1E ts k).1,h,k,9000,rfl,g23 _ _ ef,lf.same g23,hha,fun t ht=>⟨by rw[(I.fl t ht).1,hhl],fun n hn=>bnd n (b1 t ht n hn)⟩,fun n hn=>bnd n (b2 h hm n hn),by decide,by lia,by lia,by lia,fun r1 bs1 H4 hr1 g4 er1 lb1=>?_⟩
     refine⟨_,rfl,D,_,_,_,rfl,rfl,SqL.of (g4 _ _ eD3),z2m (j:=0) rfl,z0k (by show 1≤_;decide),fun z2 hz2=>?_⟩
     have g5:=z0f hz2 (.lst [V.ref ah])
     have e5:upd H4 z2 (.lst [V.ref ah]) z2=some (.lst [V.ref ah]):=z0c
     generalize upd H4 z2 (.lst [V.ref ah])=H5 at*
     refine⟨r1,z2,_,_,rfl,rfl,g5 _ _ er1,e5,z0k (by rw[q0b,lb1.1,q0b];show _+1≤_;lia),fun r2 hr2=>?_⟩
     have g6:=z0f hr2 (.lst (bs1.map V.ref++[V.ref ah]))
     exact hN' _ _ ⟨r2,bs1++[ah],rfl,by rw[z0c,q0H];rfl,((lb1.same g5).append (LsA.one ((g4.trans g5) _ _ hha))).same g6,g4.trans (g5.trans g6)⟩
    rintro σ H4 ⟨Fd',fs',rfl,ef',lf',g4⟩
    have g24:=g23.trans g4
    refine⟨_,rfl,_,rfl,_,rfl,D,_,_,_,rfl,rfl,SqL.of (g4 _ _ eD3),z2m (j:=0) rfl,Lf,ah,ls,(z1E ts k).2,h,k,9000,rfl,g24 _ _ el,ll.same g24,g4 _ _ hha,fun t ht=>⟨by rw[(I.ll t ht).1,hhl],fun n hn=>bnd n (b2 t ht n hn)⟩,fun n hn=>bnd n (b2 h hm n hn),by decide,by lia,by lia,by lia,fun r1 bs1 H5 hr1 g5 er1 lb1=>?_⟩
    refine⟨r1,Fd',bs1,fs',_,_,rfl,er1,?_,g5 _ _ ef',?_,g.trans (g24.trans g5)⟩
    ·rw[eR,z3u e];exact lb1
    ·rw[eR,z3u e];exact lf'.same g5
  ·rintro σ H1 ⟨Lf,Fd,ls,fs,s4,s5,rfl,el,ll,ef,lf,g⟩
   exact hN _ _ ⟨Lf,Fd,ls,fs,_,_,rfl,el,ll,ef,lf,g⟩
 clear el0 ll0 ef0 g0
 rintro σ H1 ⟨Lf,Fd,ls,fs,s4,s5,rfl,el,ll,ef,lf,g⟩
 have I:=z4c hrl m (q0e _)
 obtain⟨⟨c1,c2⟩,b1,b2⟩:=z4s (m:=m) hrb m
 have pw:=y5s (B:=B) (q0e m) m4
 refine z0o (fun σ H'=>∃(s4 s5:Option V),σ=[some (.int (m:Nat)),some (.ref l),some (.ref Lf),some (.ref Fd),s4,s5]∧(∀t∈(z1E ts m).2,v t m=0)∧Same H1 H') (fun N hN=>?_) ?_
 ·refine⟨_,rfl,Lf,rfl,⟨_,SqL.of el⟩,fun D hD=>?_⟩
  obtain⟨hs,f1,f2⟩:=z3H m ll
  refine z1e rfl (z0v K Lf (ls.map V.ref)) hD (fun x=> !decide (V.int (atOf H1 m x)=V.int 0)) (fun x=>x) (fun H' g'=>SqL.of (g' _ _ el)) (z0k (by rw[q0b,ll.1,c2];lia)) ?_ ?_ ?_
  ·intro x hx Hc gc S h
   obtain⟨i,a,t,rfl,ha,ht,htm,hc⟩:=y2F ll hx
   rw[y3e hc] at h
   exact⟨_,rfl,_,rfl,a,_,_,_,rfl,rfl,SqL.of (gc _ _ hc),z9C (by rw[(I.ll t htm).1];lia),rfl,_,rfl,h⟩
  ·intro x hx _ Hc gc S h
   exact⟨_,rfl,h⟩
  rw[List.map_id',f1]
  have g2:=z0f hD (.lst (hs.map V.ref))
  have e2:upd H1 D (.lst (hs.map V.ref)) D=some (.lst (hs.map V.ref)):=z0c
  generalize upd H1 D (.lst (hs.map V.ref))=H2 at*
  refine⟨q0S _,fun z hz=>?_⟩
  have g3:=z0f hz (.lst [])
  have e3:upd H2 z (.lst []) z=some (.lst (([]:List Int).map V.int)):=z0c
  generalize upd H2 z (.lst [])=H3 at*
  have g23:=g2.trans g3
  refine⟨D,z,_,_,rfl,rfl,y3H (g3 _ _ e2) (f2.same g23),y0X e3,by cases ((z1E ts m).2.filter fun t=>v t m != 0)<;>rfl,_,rfl,?_⟩
  cases e:(z1E ts m).2.filter fun t=>v t m != 0 with
  |nil=>
   rw[show Dt.eqb (.l (([]:List (List Int)).map dtL)) (dtL [])=true from (Dt.eqb_iff _ _).mpr rfl]
   refine z3r ?_
   refine hN _ _ ⟨_,_,rfl,fun t ht=>q0w fun z=>?_,g23⟩
   have:t∈(z1E ts m).2.filter fun t=>v t m != 0:=q1a.mpr ⟨ht,by simpa using z⟩
   rw[e] at this
   cases this
  |cons h lr=>
   rw[show Dt.eqb (.l ((h::lr).map dtL)) (dtL [])=false from rfl]
   refine z7x ?_
   obtain⟨hm,hn⟩:=q1a.mp (show h∈(z1E ts m).2.filter fun t=>v t m != 0 by rw[e];exact q0j)
   exact q1 _ (g.trans g23) ⟨h,hm,by simpa using hn⟩
 rintro σ H2 ⟨s4',s5',rfl,h0,g2⟩
 have ef2:=g2 _ _ ef
 have lf2:=lf.same g2
 refine⟨_,rfl,Fd,rfl,⟨_,SqL.of ef2⟩,fun D hD=>?_⟩
 refine z2e rfl (z0v K Fd (fs.map V.ref)) hD (fun _=>true) (fun H' x u=>∃(a:Addr) (t:List Int) (p:Addr),x=V.ref a∧u=V.ref p∧H2 a=some (.lst (t.map V.int))∧H' p=some (.tup ((z0l t).map V.int))∧p≠D) ?_ (fun H' g'=>SqL.of (g' _ _ ef2)) (z0k (by rw[q0b,lf2.1];lia)) ?_ ?_ ?_
 ·rintro Ha Hb x u kk ⟨acc,hd⟩ ⟨a,t,p,e1,e2,e3,e4,e5⟩
  exact⟨a,t,p,e1,e2,e3,kk _ _ e5 e4,e5⟩
 ·intro x hx Hc gc S h
  exact h _ (Same.refl _)
 ·rintro x hx _ Hc gc ⟨acc,hacc⟩ S h
  obtain⟨i,a,t,rfl,ha,ht,htm,hc⟩:=y2F lf2 hx
  obtain⟨tl,tk⟩:=I.fl t htm
  refine⟨_,rfl,a,t,rfl,.inl (SqL.of (gc _ _ hc)),by lia,fun n hn=>by have:=b1 t htm n hn;lia,z6E (by lia),fun p H3 g3 ep=>?_⟩
  refine h _ _ g3 ⟨a,t,p,rfl,rfl,hc,ep,fun y=>?_⟩
  rw[y,g3 _ _ hacc] at ep
  cases ep
 ·intro us H3 g3 hD3 he
  rw[z0E] at he
  obtain⟨as2,rfl,hM1,hM2⟩:=z3o (G:= .lst) (F:= .tup) (g:=z0l) (fun xs ys h=>by injection h) lf2.1 lf2.2 (he.imp fun x u ⟨a,t,p,e1,e2,e3,e4,_⟩=>⟨a,t,p,e1,e2,e3,e4⟩)
  have g03:=g.trans g2
  exact q2 D as2 _ (g03.free hD) (g03.trans g3) hD3 ⟨hM1,hM2⟩ h0
end
end L2
namespace L2
open PySem PySem.Spec PyProof.Rows
section
open Fr Wl Rk
open Builtin.Int (intBits)
variable {P:Program}{w:World}{K:PySem.W.Frag}{mg:Str→Option Value}{base:Heap}{f:Addr}{fd:FuncData}
abbrev z1U:Stmt:=top 10
theorem sc_rest_by:z0z ["rows","numbers","rest","row"] ["rows","numbers"] (z0g z1U):=⟨rfl,rfl,rfl,by decide+kernel,rfl,by decide+kernel,by decide+kernel⟩
def y3n (K:PySem.W.Frag):Sp:=fun vs H Q _=>∃(l p:Addr) (as:List Addr) (ts:List (List Int)) (xs:List Int) (bx br:Nat),vs=[.ref l,.ref p]∧H l=some (.lst (as.map V.ref))∧LsA H as ts∧SqA K H p (xs.map V.int)∧xs.length≤1000∧ts.length≤8∧(∀t∈ts,t.length=xs.length∧(∃n∈t,n≠0)∧∀n∈t,intBits n≤br)∧(∀n∈xs,intBits n≤bx)∧br≤9000∧(∀i,i<ts.length→bx+i*(br+1)≤20000)∧
 ∀(r:Addr) (H':Hp),(∀n∈ts.foldl z0p xs,intBits n≤bx+ts.length*(br+1))→(ts.foldl z0p xs).length =xs.length→Same H H'→H' r=some (.lst ((ts.foldl z0p xs).map V.int))→Q (.ref r) H'
theorem z9i (T:Txt mg) (F:Fun K "rest_by" "rest_by" z1U f fd) (c_cleared:Cal P w K mg base 2 "cleared" ["numbers","row"] (z6l K)):FnOk P w K mg base CX0 3 f fd ["rows","numbers"] (y3n K):=by
 refine F.ok sc_rest_by (fun vs H Q E h=>?_) (fun cdv A outer s H vs Q E hr h=>?_)
 ·obtain⟨_,_,_,_,_,_,_,rfl,_⟩:=h;rfl
 obtain⟨l,p,as,ts,xs,bx,br,rfl,hl,hts,hX,hlen,h8,zt,zx,hbr,hb,q⟩:=h
 refine⟨_,(z0b (z0n (i:=2) sc_rest_by.nd rfl (Or.inl rfl) (z1v (z2f (K:=K) rfl) rfl T.list boot_list (z0a (pv 1) z0d)))
  (z0b (z1b PassesOwn.never rfl (z0D (K:=K) rfl (pv 0)) (z0j (i:=3) sc_rest_by.nd rfl (Or.inl rfl)) (z0h (z0n (i:=2) sc_rest_by.nd rfl (Or.inl rfl) (z0s c_cleared hr rfl (z0a (pv 2) (z0a (pv 3) z0d))))))
  (z0h (z0A (pv 2))))),?_⟩
 refine⟨_,rfl,p,_,rfl,hX,fun r0 hr0=>?_⟩
 have g0:=z0f hr0 (.lst (xs.map V.int))
 have e0:upd H r0 (.lst (xs.map V.int)) r0=some (.lst (xs.map V.int)):=z0c
 generalize upd H r0 (.lst (xs.map V.int))=H0 at*
 have hl0:=g0 _ _ hl
 refine⟨_,rfl,l,rfl,⟨_,SqL.of hl0⟩,?_⟩
 refine z0H (z0v K l (as.map V.ref)) (fun i σ H'=>∃(r:Addr) (s3:Option V),σ=[some (.ref l),some (.ref p),some (.ref r),s3]∧H' r=some (.lst (((ts.take i).foldl z0p xs).map V.int))∧(∀n∈(ts.take i).foldl z0p xs,intBits n≤bx+i*(br+1))∧((ts.take i).foldl z0p xs).length =xs.length∧Same H H')
  ⟨r0,_,rfl,e0,fun n hn=>q0o (zx n hn) (by lia),rfl,g0⟩ (fun i σ H' _ h=>by obtain⟨_,_,_,_,_,_,g⟩:=h;exact SqL.of (g _ _ hl)) ?_ ?_
 ·rintro i x σ H1 H2 hi ⟨r,s3,rfl,er,zb,el,g⟩ ⟨rfl,hx⟩
  rw[q0b,hts.1] at hi
  rw[q0k] at hx
  obtain⟨a,ha,rfl⟩:=q0A.mp hx
  have et:ts[i]? =some ts[i]:=q0c hi
  have htm:ts[i]∈ts:=q0y hi
  generalize ts[i]=t at et htm
  obtain⟨t1,t2,t3⟩:=zt t htm
  have tk:(ts.take (i+1)).foldl z0p xs=z0p ((ts.take i).foldl z0p xs) t:=by
   rw[q0Q,et,q1L];rfl
  have hm:=hb i hi
  have hm2:(i+1)*(br+1)=i*(br+1)+(br+1):=Nat.succ_mul _ _
  refine⟨_,rfl,_,rfl,r,a,(ts.take i).foldl z0p xs,t,bx+i*(br+1),br,rfl,.inl (SqL.of er),.inl (SqL.of (g _ _ (hts.2 i a t ha et))),by rw[el,t1],by lia,zb,t3,hm,hbr,t2,fun r2 H3 zb3 g3 e3=>?_⟩
  refine⟨r2,_,rfl,?_,?_,?_,g.trans g3⟩
  ·rw[tk];exact e3
  ·intro n hn
   rw[tk] at hn
   exact q0o (zb3 n hn) (by lia)
  ·rw[tk,z1N (by rw[el,t1]),el]
 ·rintro σ H1 ⟨r,s3,rfl,er,zb,el,g⟩
  rw[q0b,hts.1,q0R] at er zb el
  exact⟨_,rfl,q r _ zb el g er⟩
end
section
open Fr Wl Rk Pt
open Builtin.Int (intBits)
variable {P:Program}{w:World}{K:PySem.W.Frag}{mg:Str→Option Value}{base:Heap}{f:Addr}{fd:FuncData}
theorem z8C (pl:Nat):∀(xs:List V) (k:Nat),(((xs.mapIdx fun i x=>(V.int ((i+k:Nat):Int),x)).filter fun c=> !inV c.1 [V.int (pl:Nat)]).map Prod.snd)=if pl<k then xs else xs.eraseIdx (pl - k)
 |[],k=>by split<;>simp
 |x::xs,k=>by
  have e:(x::xs).mapIdx (fun i x=>(V.int ((i+k:Nat):Int),x))=(V.int ((k:Nat):Int),x)::xs.mapIdx fun i x=>(V.int ((i+(k+1):Nat):Int),x):=by
   rw[List.mapIdx_cons]
   congr 1
   ·rw[Nat.zero_add]
   ·congr 1
    funext i y
    rw[show i+1+k=i+(k+1) by lia]
  have hin:inV (V.int ((k:Nat):Int)) [V.int (pl:Nat)]=decide (pl=k):=by
   show ((((pl:Nat):Int)==((k:Nat):Int)) || false)=_
   rw[Bool.or_false,q1O,beq_iff_eq,decide_eq_true_iff]
   lia
  have ih:=z8C pl xs (k+1)
  rw[e,List.filter_cons]
  show List.map Prod.snd (if (!inV (V.int ((k:Nat):Int)) [V.int (pl:Nat)])=true then _ else _)=_
  rw[hin]
  by_cases h:pl=k
  ·subst h
   rw[decide_eq_true rfl]
   rw[if_neg (by decide),ih,if_pos (by lia),if_neg (by lia),q1G,List.eraseIdx_zero,List.tail_cons]
  ·rw[decide_eq_false h,if_pos (by decide),q0t,ih]
   by_cases h2:pl<k
   ·rw[if_pos (by lia),if_pos h2]
   ·rw[if_neg (by lia),if_neg h2,show pl - k=(pl - (k+1))+1 by lia,List.eraseIdx_cons_succ]
abbrev z3A:Stmt:=top 11
theorem sc_drawn:z0z ["rows","numbers","left_out"] ["rows","numbers"] (z0g z3A):=⟨rfl,rfl,rfl,by decide+kernel,rfl,by decide+kernel,by decide+kernel⟩
def z7f (K:PySem.W.Frag):Sp:=fun vs H Q _=>∃(l p a:Addr) (t u:List Int) (B:Nat),vs=[.ref l,.ref p]∧H l=some (.lst [V.ref a])∧H a=some (.lst (t.map V.int))∧SqA K H p (u.map V.int)∧u.length=t.length∧t.length≤100∧(∃n∈t,n≠0)∧(∀n∈t,intBits n≤B)∧(∀n∈u,intBits n≤B)∧B≤4000∧
 ∀(r:Addr) (H':Hp),H r=none→(∀n∈drR t u,intBits n≤2*B+1)→Same H H'→H' r=some (.lst ((drR t u).map V.int))→Q (.ref r) H'
theorem y2B (T:Txt mg) (F:Fun K "drawn" "drawn" z3A f fd) (c_first_place:Cal P w K mg base 3 "first_place" ["row"] (z2V K)) (c_rest_by:Cal P w K mg base 3 "rest_by" ["rows","numbers"] (y3n K)):FnOk P w K mg base CX0 4 f fd ["rows","numbers"] (z7f K):=by
 refine F.ok sc_drawn (fun vs H Q E h=>?_) (fun cdv A outer s H vs Q E hr h=>?_)
 ·obtain⟨_,_,_,_,_,_,rfl,_⟩:=h;rfl
 obtain⟨l,p,a,t,u,B,rfl,hl,ha,hX,hul,t100,tnz,zt,zu,b4,q⟩:=h
 refine⟨_,(z0b (z0n (i:=2) sc_drawn.nd rfl (Or.inr rfl) (z0N (Nc:=["row"]) (fr:=[none]) rfl (z0D (K:=K) rfl (pv 0)) rfl (by decide) rfl (by decide) rfl trivial trivial (fun _ _ _ _=>(z0j (i:=0) (show List.Nodup (["row"]:List Str) from by decide) rfl (Or.inl rfl))) (fun _ _ _ _=>z0Q) (fun _ _ _ _=>(z0s c_first_place hr rfl (z0a (pv 0) z0d)))))
  (z0h (z0A (z0N (Nc:=["place","number","left_out"]) (fr:=[none,none,some 2]) rfl (z8b (K:=K) rfl rfl T.enumerate (z0a (z0s c_rest_by hr rfl (z0a (pv 0) (z0a (pv 1) z0d))) z0d)) rfl (by decide) rfl (by decide) rfl ⟨rfl,trivial⟩ ⟨⟨rfl,rfl,rfl,rfl⟩,trivial⟩ (fun _ _ _ _=>(z1m (K:=K) rfl 2 rfl (z0B (z0j (i:=0) (show List.Nodup (["place","number","left_out"]:List Str) from by decide) rfl (Or.inl rfl)) (z0B (z0j (i:=1) (show List.Nodup (["place","number","left_out"]:List Str) from by decide) rfl (Or.inl rfl)) z1l)))) (fun _ _ _ _=>(z2W (z0x (y0u (K:=K) rfl) (pv 0) (pv 2) (by with_unfolding_all rfl)))) (fun _ _ _ _=>(pv 1)))))),?_⟩
 refine⟨_,rfl,l,rfl,⟨_,SqL.of hl⟩,fun D hD=>?_⟩
 refine z6L rfl (z0v K l [V.ref a]) hD (fun _=>true) (fun _ x u=>u=V.int (fp t:Nat)) (fun _ _ _ _ _ _ h=>h) (fun H' g'=>SqL.of (g' _ _ hl)) (z0k (by show 1≤_;decide)) ?_ ?_ ?_
 ·intro x hx Hc gc S h
  exact h _ (Same.refl _)
 ·intro x hx _ Hc gc S h
  rw[q0g.mp hx]
  exact⟨_,rfl,a,t,rfl,.inl (SqL.of (gc _ _ ha)),by lia,tnz,fun H' g'=>h _ _ g' rfl⟩
 intro xs H1 g1 hD1 he
 have exs:xs=[V.int (fp t:Nat)]:=by
  cases he with
  |cons h1 h2=>cases h2;rw[h1]
 subst exs
 refine⟨_,rfl,_,rfl,l,p,[a],[t],u,B,B,rfl,g1 _ _ hl,⟨rfl,fun i b t' e1 e2=>?_⟩,hX.same g1,by lia,by show 1≤8;decide,fun t' ht'=>?_,zu,by lia,fun i hi=>?_,fun r H2 zb el g2 er=>?_⟩
 ·cases i with
  |zero=>cases e1;cases e2;exact g1 _ _ ha
  |succ i=>simp at e1
 ·rw[q0g.mp ht']
  exact⟨hul.symm,tnz,zt⟩
 ·have:i=0:=by simp at hi;lia
  subst this
  lia
 have er':H2 r=some (.lst ((z0p u t).map V.int)):=er
 have zb':∀n∈z0p u t,intBits n≤2*B+1:=fun n hn=>q0o (zb n hn) (by show B+1*(B+1)≤_;lia)
 have cl:(z0p u t).length =t.length:=by rw[z1N hul,hul]
 have hD2:=g2 _ _ hD1
 refine⟨r,true,_,rfl,SqL.of er',fun D2 hD2'=>?_⟩
 refine z2A rfl (z4Y K true r ((z0p u t).map V.int)) hD2' (fun c=> !inV c.1 [V.int (fp t:Nat)]) Prod.snd ?_ (fun H' g'=>SqL.of (g' _ _ er')) (z0k (by unfold z4N;rw[List.length_mapIdx,List.length_map,cl];lia)) ?_ ?_ ?_
 ·intro p u v σ H hp S h
  exact⟨p,_,rfl,SqT.of hp,rfl,_,_,rfl,_,_,rfl,rfl,h⟩
 ·intro c hc Hc gc S h
  have fl:z5P c.1=true:=by
   unfold z4N at hc
   obtain⟨i,hi,rfl⟩:=List.mem_mapIdx.mp hc
   rfl
  exact⟨_,rfl,_,rfl,D,_,rfl,.inl (SqL.of (gc _ _ hD2)),fl,rfl,_,rfl,h⟩
 ·intro c hc _ Hc gc S h
  exact⟨_,rfl,h⟩
 ·intro H' g' hD'
  have em:((z4N ((z0p u t).map V.int)).filter fun c=> !inV c.1 [V.int (fp t:Nat)]).map Prod.snd=(drR t u).map V.int:=by
   have:=z8C (fp t) ((z0p u t).map V.int) 0
   rw[if_neg (by lia),Nat.sub_zero] at this
   unfold z4N drR
   have e2:((z0p u t).map V.int).eraseIdx (fp t)=((z0p u t).eraseIdx (fp t)).map V.int:=by
        rw[List.eraseIdx_eq_take_drop_succ,List.eraseIdx_eq_take_drop_succ,q0H,List.map_take,List.map_drop]
   rw[←e2]
   exact this
  rw[em] at hD'
  exact q D2 _ ((g1.trans g2).free hD2') (fun n hn=>zb' n (List.mem_of_mem_eraseIdx hn)) (g1.trans (g2.trans g')) hD'
end
end L2
namespace L2
open PySem PySem.Spec PyProof.Rows
section
open Fr Wl Rk Pt Ld
open Builtin.Int (intBits)
variable {P:Program}{w:World}{K:PySem.W.Frag}{mg:Str→Option Value}{base:Heap}{f:Addr}{fd:FuncData}
abbrev z2G:Stmt:=top 13
theorem sc_lowest:z0z ["numbers","shared"] ["numbers"] (z0g z2G):=⟨rfl,rfl,rfl,by decide+kernel,rfl,by decide+kernel,by decide+kernel⟩
def z5t (K:PySem.W.Frag):Sp:=fun vs H Q _=>∃(p:Addr) (rs:List Int),vs=[.ref p]∧H p=some (.lst (rs.map V.int))∧rs.length≤100∧(∃n∈rs,n≠0)∧(∀n∈rs,intBits n≤13000)∧
 ∀(r:Addr) (H':Hp),H r=none→Same H H'→H' r=some (.lst ((z4M rs).map V.int))→Q (.ref r) H'
theorem y0y (T:Txt mg) (F:Fun K "lowest" "lowest" z2G f fd) (c_divisor_of_all:Cal P w K mg base 2 "divisor_of_all" ["numbers"] (z7T K)):FnOk P w K mg base CX0 3 f fd ["numbers"] (z5t K):=by
 refine F.ok sc_lowest (fun vs H Q E h=>?_) (fun cdv A outer s H vs Q E hr h=>?_)
 ·obtain⟨_,_,rfl,_⟩:=h;rfl
 obtain⟨p,rs,rfl,hp,hl,hnz,hb,q⟩:=h
 refine⟨_,(z0b (z0n (i:=1) sc_lowest.nd rfl (Or.inr rfl) (z0s c_divisor_of_all hr rfl (z0a (pv 0) z0d)))
  (z0h (z0A (z0N (Nc:=["number","shared"]) (fr:=[none,some 1]) rfl (z0D (K:=K) rfl (pv 0)) rfl (by decide) rfl (by decide) rfl ⟨rfl,trivial⟩ ⟨⟨rfl,rfl,rfl,rfl⟩,trivial⟩ (fun _ _ _ _=>(z0j (i:=0) (show List.Nodup (["number","shared"]:List Str) from by decide) rfl (Or.inl rfl))) (fun _ _ _ _=>z0Q) (fun _ _ _ _=>(z0q z4d (pv 0) (pv 1))))))),?_⟩
 refine⟨_,rfl,p,rs,rfl,.inl (SqL.of hp),by lia,?_⟩
 refine⟨_,rfl,p,rfl,⟨_,SqL.of hp⟩,fun D hD=>?_⟩
 have g0:((z1S rs:Nat):Int)≠0:=by have:=z2k hnz;lia
 refine z1e rfl (z0v K p (rs.map V.int)) hD (fun _=>true) (fun v=>match v with| .int n=> .int (n.fdiv (z1S rs:Int))|u=>u) (fun H' g'=>SqL.of (g' _ _ hp)) (z0k (by rw[q0b];lia)) ?_ ?_ ?_
 ·intro x hx Hc gc S h
  exact h
 ·intro x hx _ Hc gc S h
  obtain⟨n,hn,rfl⟩:=q0f.mp hx
  exact⟨_,rfl,_,rfl,_,_,rfl,rfl,⟨g0,hb n hn⟩,h⟩
 rw[z0E,q0M]
 refine q D _ hD (z0f hD _) ?_
 rw[z0c]
 unfold z4M
 rw[q0M]
 rfl
abbrev z2E:Stmt:=top 14
theorem y0a:z0z ["numbers","sign"] ["numbers","sign"] (z0g z2E):=⟨rfl,rfl,rfl,by decide+kernel,rfl,by decide+kernel,by decide+kernel⟩
def z3d (K:PySem.W.Frag):Sp:=fun vs H Q _=>∃(p:Addr) (rs:List Int) (sg:Int),vs=[.ref p,.int sg]∧SqA K H p (rs.map V.int)∧rs.length≤100∧(sg=1∨sg= -1)∧(∀n∈rs,intBits n≤13000)∧
 ∀(r:Addr) (H':Hp),H r=none→Same H H'→H' r=some (.lst ((z0I sg rs).map V.int))→Q (.ref r) H'
theorem y0w (T:Txt mg) (F:Fun K "turned" "turned" z2E f fd):FnOk P w K mg base CX0 1 f fd ["numbers","sign"] (z3d K):=by
 refine F.ok y0a (fun vs H Q E h=>?_) (fun cdv A outer s H vs Q E hr h=>?_)
 ·obtain⟨_,_,_,rfl,_⟩:=h;rfl
 obtain⟨p,rs,sg,rfl,hp,hl,hsg,hb,q⟩:=h
 obtain⟨b,hB⟩:=hp.toB
 refine⟨_,(z0h (z0A (z0N (Nc:=["number","sign"]) (fr:=[none,some 1]) rfl (z6w (K:=K) rfl (pv 0)) rfl (by decide) rfl (by decide) rfl ⟨rfl,trivial⟩ ⟨⟨rfl,rfl,rfl,rfl⟩,trivial⟩ (fun _ _ _ _=>(z0j (i:=0) (show List.Nodup (["number","sign"]:List Str) from by decide) rfl (Or.inl rfl))) (fun _ _ _ _=>z0Q) (fun _ _ _ _=>(z0q z0L (pv 1) (pv 0)))))),?_⟩
 refine⟨_,rfl,p,b,_,rfl,hB,fun D hD=>?_⟩
 have s1:intBits sg≤1:=by rcases hsg with rfl|rfl<;>decide
 refine z1e rfl (z4q K b p (rs.map V.int)) hD (fun _=>true) (fun v=>match v with| .int n=> .int (sg*n)|u=>u) (fun H' g'=>hB.same g') (z0k (by rw[q0b];lia)) ?_ ?_ ?_
 ·intro x hx Hc gc S h
  exact h
 ·intro x hx _ Hc gc S h
  obtain⟨n,hn,rfl⟩:=q0f.mp hx
  exact⟨_,rfl,_,rfl,_,_,rfl,rfl,z1z s1 (hb n hn),h⟩
 rw[z0E,q0M]
 refine q D _ hD (z0f hD _) ?_
 rw[z0c]
 unfold z0I
 rw[q0M]
 rfl
theorem z9D:∀(n:Nat) (a s:List Int),a.length=n→n≤s.length→(List.zipWith (fun x y=>x*y) a s).sum =Ld.sumTo n (fun j=>v a j*v s j)
 |0,a,s,h,_=>by
  rw[q1j.mp h];rfl
 |n+1,a,s,h,hs=>by
  obtain⟨a',x,rfl⟩:∃a' x,a=a'++[x]:=⟨a.dropLast,a.getLast (fun z=>by rw[z] at h;simp at h),(q0W _).symm⟩
  have hl:a'.length=n:=by rw[q0m] at h;simpa using h
  have es:s=s.take n++s.drop n:=(List.take_append_drop _ _).symm
  have ed:s.drop n=s[n]'(by lia)::s.drop (n+1):=q1t (by lia)
  have evs:v s n=s[n]'(by lia):=by
   show s.getD n 0=_
   rw[q0a,q0c (by lia)];rfl
  have eva:v (a'++[x]) n=x:=by
   show (a'++[x]).getD n 0=_
   rw[q0a,q0D (by lia),hl,q1G];rfl
  rw[Ld.sumTo,eva,evs]
  have e1:List.zipWith (fun x y=>x*y) (a'++[x]) s=List.zipWith (fun x y=>x*y) a' (s.take n)++[x*s[n]'(by lia)]:=by
   have e2:List.zipWith (fun x y=>x*y) (a'++[x]) (s.take n++s.drop n)=List.zipWith (fun x y=>x*y) a' (s.take n)++List.zipWith (fun x y=>x*y) [x] (s.drop n):=List.zipWith_append (by rw[q0n];lia)
   rw[List.take_append_drop,ed] at e2
   rw[e2]
   rfl
  rw[e1,List.sum_append,z9D n a' (s.take n) hl (by rw[q0n];lia)]
  congr 1
  ·refine Ld.sumTo_congr n fun j hj=>?_
   have h1:v (a'++[x]) j=v a' j:=by
    show (a'++[x]).getD j 0=a'.getD j 0
    rw[q0a,q0a,q0N (by lia)]
   have h2:v (s.take n) j=v s j:=by
    show (s.take n).getD j 0=s.getD j 0
    rw[q0a,q0a,q1K hj]
   rw[h1,h2]
  ·simp
abbrev z2L:Stmt:=top 15
theorem y0b:z0z ["bound","spot"] ["bound","spot"] (z0g z2L):=⟨rfl,rfl,rfl,by decide+kernel,rfl,by decide+kernel,by decide+kernel⟩
def z2D (K:PySem.W.Frag):Sp:=fun vs H Q _=>∃(p q:Addr) (a s:List Int) (m:Nat),vs=[.ref p,.ref q]∧H p=some (.lst (a.map V.int))∧H q=some (.lst (s.map V.int))∧a.length=m+1∧s.length=m+1∧m≤50∧(∀n∈a,intBits n≤20000)∧(∀n∈s,intBits n≤20000)∧
 ∀H',Same H H'→Q (.int (hg m (v a) (v s))) H'
theorem y0D (T:Txt mg) (F:Fun K "height" "height" z2L f fd):FnOk P w K mg base CX0 1 f fd ["bound","spot"] (z2D K):=by
 refine F.ok y0b (fun vs H Q E h=>?_) (fun cdv A outer s H vs Q E hr h=>?_)
 ·obtain⟨_,_,_,_,_,rfl,_⟩:=h;rfl
 obtain⟨p,q',a,sp,m,rfl,hp,hq,al,sl,m50,ba,bs,q⟩:=h
 refine⟨_,(z0h (z0A (z0q z1P (z0y (y1A (K:=K) rfl rfl) rfl T.sum boot_sum (z0a (z0N (Nc:=["number","top"]) (fr:=[none,none]) rfl (z3C (K:=K) rfl rfl T.zip (z0a (z1O (z2h (K:=K) rfl) (pv 0) z2w (z2v (z2Q z1x z0e))) (z0a (pv 1) z0d))) rfl (by decide) rfl (by decide) rfl trivial trivial (fun _ _ _ _=>(z1m (K:=K) rfl 2 rfl (z0B (z0j (i:=0) (show List.Nodup (["number","top"]:List Str) from by decide) rfl (Or.inl rfl)) (z0B (z0j (i:=1) (show List.Nodup (["number","top"]:List Str) from by decide) rfl (Or.inl rfl)) z1l)))) (fun _ _ _ _=>z0Q) (fun _ _ _ _=>(z0q z0L (pv 0) (pv 1)))) z0d)) (z0q z0L (z0K (z0r (K:=K) rfl) (pv 0) (z2Q z1x z0e) (fun _ _=>rfl)) (z0K (z0r (K:=K) rfl) (pv 1) (z2Q z1x z0e) (fun _ _=>rfl)))))),?_⟩
 obtain⟨a',x,ea⟩:∃a' x,a=a'++[x]:=⟨a.dropLast,a.getLast (fun z=>by rw[z] at al;simp at al),(q0W _).symm⟩
 obtain⟨s',y,es⟩:∃a' x,sp=a'++[x]:=⟨sp.dropLast,sp.getLast (fun z=>by rw[z] at sl;simp at sl),(q0W _).symm⟩
 have a'l:a'.length=m:=by rw[ea,q0m] at al;simpa using al
 have s'l:s'.length=m:=by rw[es,q0m] at sl;simpa using sl
 have hp':H p=some (.lst (a'.map V.int++[V.int x])):=by rw[hp,ea,q0H];rfl
 have hq':H q'=some (.lst (s'.map V.int++[V.int y])):=by rw[hq,es,q0H];rfl
 have bx:intBits x≤20000:=ba x (by rw[ea];simp)
 have by':intBits y≤20000:=bs y (by rw[es];simp)
 refine⟨_,rfl,_,rfl,_,rfl,p,_,rfl,SqL.of hp',fun z hz=>?_⟩
 rw[z4i]
 have g1:=z0f hz (.lst (a'.map V.int))
 have e1:upd H z (.lst (a'.map V.int)) z=some (.lst (a'.map V.int)):=z0c
 generalize upd H z (.lst (a'.map V.int))=H1 at*
 refine⟨_,rfl,z,q',true,true,_,_,rfl,SqL.of e1,SqL.of (g1 _ _ hq),fun D hD=>?_⟩
 refine z2A rfl (z2b K true true z q' (a'.map V.int) (sp.map V.int)) hD (fun _=>true) (fun c=>match c with|(.int m,.int n)=> .int (m*n)|_=> .non) ?_ (fun H' g'=>⟨SqL.of (g' _ _ e1),SqL.of (g' _ _ (g1 _ _ hq))⟩) (z0k (by rw[q1e,q0b,q0b];lia)) ?_ ?_ ?_
 ·intro p u v σ H hp S h
  exact⟨p,_,rfl,SqT.of hp,rfl,_,_,rfl,_,_,rfl,rfl,h⟩
 ·intro c hc Hc gc S h
  exact h
 ·intro c hc _ Hc gc S h
  obtain⟨c1,c2⟩:=c
  obtain⟨h1,h2⟩:=q1C hc
  obtain⟨m',hm,rfl⟩:=q0f.mp h1
  obtain⟨n',hn,rfl⟩:=q0f.mp h2
  exact⟨_,rfl,_,rfl,_,_,rfl,rfl,z1z (ba m' (by rw[ea];exact q0C _ hm)) (bs n' hn),h⟩
 ·intro H2 g2 hD2
  rw[z0E] at hD2
  have em:((a'.map V.int).zip (sp.map V.int)).map (fun c=>match c with|(.int m,.int n)=>V.int (m*n)|_=> .non)=(List.zipWith (fun a b=>a*b) a' sp).map V.int:=by
   rw[z2C,q0M,List.zip_map,q0M]
   rfl
  rw[em] at hD2
  have g02:=g1.trans g2
  refine⟨D,_,rfl,SqL.of hD2,?_⟩
  refine⟨_,rfl,_,rfl,p,_,_,_,rfl,rfl,SqL.of (g02 _ _ hp'),z3q _ _,_,rfl,_,rfl,q',_,_,_,rfl,rfl,SqL.of (g02 _ _ hq'),z3q _ _,_,_,rfl,rfl,z1z bx by',_,_,rfl,rfl,?_⟩
  have ev:(List.zipWith (fun a b=>a*b) a' sp).sum - x*y=hg m (v a) (v sp):=by
   unfold hg
   rw[z9D m a' sp a'l (by lia)]
   have ex:v a m=x:=by
        show a.getD m 0=x
        rw[ea,q0a,q0D (by lia),a'l,q1G];rfl
   have ey:v sp m=y:=by
        show sp.getD m 0=y
        rw[es,q0a,q0D (by lia),s'l,q1G];rfl
   rw[ex,ey]
   congr 1
   refine Ld.sumTo_congr m fun j hj=>?_
   congr 1
   show a'.getD j 0=a.getD j 0
   rw[ea,q0a,q0a,q0N (by lia)]
  show Q (V.int ((List.zipWith (fun a b=>a*b) a' sp).sum - x*y)) H2
  rw[ev]
  exact q H2 g02
abbrev z4X:Stmt:=top 16
theorem y4l:z0z ["bound"] ["bound"] (z0g z4X):=⟨rfl,rfl,rfl,by decide+kernel,rfl,by decide+kernel,by decide+kernel⟩
def z9U (K:PySem.W.Frag):Sp:=fun vs H Q _=>∃(p:Addr) (b:List Int),vs=[.ref p]∧H p=some (.lst (b.map V.int))∧b.length≤100∧(∃n∈b,n≠0)∧∀H',Same H H'→Q (.int (ldL b)) H'
theorem y4B (T:Txt mg) (F:Fun K "lead" "lead" z4X f fd) (c_first_place:Cal P w K mg base 1 "first_place" ["row"] (z2V K)):FnOk P w K mg base CX0 2 f fd ["bound"] (z9U K):=by
 refine F.ok y4l (fun vs H Q E h=>?_) (fun cdv A outer s H vs Q E hr h=>?_)
 ·obtain⟨_,_,rfl,_⟩:=h;rfl
 obtain⟨p,b,rfl,hp,bl,hnz,q⟩:=h
 refine⟨_,(z0h (z0A (z8d (z0x z6y (z0K (z0r (K:=K) rfl) (pv 0) (z0s c_first_place hr rfl (z0a (pv 0) z0d)) (fun _ _=>rfl)) z0e (z0F _)) z0e (z2Q z1x z0e)))),?_⟩
 have hlt:=y2T hnz
 refine⟨_,rfl,_,rfl,p,b,rfl,.inl (SqL.of hp),by lia,hnz,fun H' g'=>?_⟩
 refine⟨p,_,_,_,rfl,rfl,SqL.of (g' _ _ hp),z9C hlt,_,_,rfl,rfl,_,rfl,?_⟩
 refine z5g (fun c=>?_) (fun c=>?_)
 ·have c':0<v b (fp b):=of_decide_eq_true c
  have:ldL b=1:=by unfold ldL;rw[if_pos c']
  have:=q H' g'
  rw[‹ldL b=1›] at this
  exact this
 ·have c':¬0<v b (fp b):=fun z=>c (decide_eq_true z)
  have e:ldL b= -1:=by unfold ldL;rw[if_neg c']
  have:=q H' g'
  rw[e] at this
  exact⟨_,rfl,this⟩
end
end L2
namespace L2
open PySem PySem.Spec PyProof.Rows
section
open Fr Wl Rk Pt Ld
open Builtin.Int (intBits)
variable {P:Program}{w:World}{K:PySem.W.Frag}{mg:Str→Option Value}{base:Heap}{f:Addr}{fd:FuncData}
theorem z0u {n:Int}{a b:Nat} (h:intBits n≤a) (hab:a≤b):intBits n≤b:=q0o h hab
theorem z7N {B:Nat}{f:Nat→Int}:∀n,(∀j,j<n→intBits (f j)≤B)→intBits (Ld.sumTo n f)≤B+n
 |0,_=>Nat.le_trans (show intBits 0≤0 by decide) (Nat.zero_le _)
 |n+1,h=>by
  have h1:=z7N n fun j hj=>h j (by lia)
  have h2:=z0u (h n (by lia)) (show B≤B+n by lia)
  rw[Ld.sumTo]
  exact z0u (intBits_add_le h1 h2) (by lia)
theorem y4P {m b c S:Nat}{a s:Nat→Int} (ha:∀j,j<m→intBits (a j)≤b) (hc:intBits (a m)≤c) (hs:∀j,j≤m→intBits (s j)≤S):intBits (hg m a s)≤max b c+S+m+1:=by
 unfold hg
 have h1:intBits (Ld.sumTo m fun j=>a j*s j)≤max b c+S+m:=z7N m fun j hj=>z0u (intBits_mul_le (ha j hj) (hs j (by lia))) (by lia)
 have h2:intBits (a m*s m)≤max b c+S+m:=z0u (intBits_mul_le hc (hs m (q0e _))) (by lia)
 exact z0u (intBits_sub_le h1 h2) (by lia)
structure Bd (m b c:Nat) (r:List Int):Prop where
 len:r.length=m+1
 way:∀j,j<m→intBits (v r j)≤b
 lst:intBits (v r m)≤c
theorem y0J {r:List Int}{n:Int} (h:n∈r):∃j,j<r.length∧v r j=n:=by
 obtain⟨j,hj,e⟩:=q0v.mp h
 refine⟨j,hj,?_⟩
 show r.getD j 0=n
 rw[q0a,q0c hj,e];rfl
theorem Bd.all {m b c:Nat}{r:List Int} (h:Bd m b c r):∀n∈r,intBits n≤max b c:=fun n hn=>by
 obtain⟨j,hj,rfl⟩:=y0J hn
 rw[h.len] at hj
 by_cases c':j<m
 ·exact z0u (h.way j c') (by lia)
 ·rw[show j=m by lia];exact z0u h.lst (by lia)
theorem z7j {sg n:Int} (h:sg=1∨sg= -1) {k:Nat} (hn:intBits n≤k):intBits (sg*n)≤k:=by
 refine intBits_le_of_natAbs (y:=n) ?_ hn
 rcases h with rfl|rfl<;>lia
theorem Bd.turn {m b c:Nat}{r:List Int} (h:Bd m b c r) {sg:Int} (hs:sg=1∨sg= -1):Bd m b c (z0I sg r):=
 ⟨by rw[z3Y,h.len],fun j hj=>by rw[z2r];exact z7j hs (h.way j hj),by rw[z2r];exact z7j hs h.lst⟩
theorem Bd.draw {m b c:Nat}{t u:List Int} (ht:Bd (m+1) b c t) (hu:Bd (m+1) b c u) (hp:fp t≤m) (hn:∃n∈t,n≠0):Bd m (2*b+1) (b+c+1) (drR t u):=by
 have hl:u.length=t.length:=by rw[ht.len,hu.len]
 have g0:=z8A (b:=v u (fp t)) (z2q hn)
 have ob:intBits (z3O u t)≤b:=intBits_le_of_natAbs (z4F (q1w ..) g0) (ht.way _ (by lia))
 have lb:intBits (z2j u t)≤b:=intBits_le_of_natAbs (z4F (Int.gcd_dvd_right ..) g0) (hu.way _ (by lia))
 have e:∀j,v (drR t u) j=z3O u t*v u (skp (fp t) j) - z2j u t*v t (skp (fp t) j):=fun j=>by
  unfold drR
  rw[z3s,z2l hl]
 refine⟨by have:=z2z hl hn;rw[ht.len] at this;lia,fun j hj=>?_,?_⟩
 ·have hs:skp (fp t) j<m+1:=by unfold skp;split<;>lia
  rw[e]
  exact z0u (intBits_sub_le (intBits_mul_le ob (hu.way _ hs)) (intBits_mul_le lb (ht.way _ hs))) (by lia)
 ·have hs:skp (fp t) m=m+1:=by unfold skp;rw[if_neg (by lia)]
  rw[e,hs]
  exact z0u (intBits_sub_le (intBits_mul_le ob hu.lst) (intBits_mul_le lb ht.lst)) (by lia)
theorem z8o {s:List Int}{k:Nat} (hn:∃n∈s,n≠0) (h:∀n∈s,intBits n≤k):∀n∈z4M s,intBits n≤k:=fun n hn'=>by
 unfold z4M at hn'
 obtain⟨x,hx,rfl⟩:=q0f.mp hn'
 exact intBits_le_of_natAbs (z4F ((z4h s 0).2 x hx) (by have:=z2k hn;lia)) (h x hx)
theorem z8x {pl k:Nat}{s:List Int} (h:∀n∈s,intBits n≤k):∀n∈z2N pl 0 s,intBits n≤k:=fun n hn=>by
 unfold z2N at hn
 rcases q0s.mp hn with hn|hn
 ·exact h n (List.mem_of_mem_take hn)
 ·rcases q0l.mp hn with rfl|hn
  ·exact q0o (show intBits 0≤0 by decide) (q0S _)
  ·exact h n (List.mem_of_mem_drop hn)
theorem z9I {m b c S:Nat}{t f:List Int} (ht:Bd (m+1) b c t) (hp:fp t≤m) (hf:f.length=m+1) (hb:∀n∈f,intBits n≤S):∀n∈upL (m+1) t f,intBits n≤max b c+S+m+3:=fun n hn=>by
 unfold upL at hn
 have hi:=z8x (pl:=fp t) hb
 rcases List.mem_or_eq_of_mem_set hn with hn|rfl
 ·obtain⟨x,hx,rfl⟩:=q0f.mp hn
  exact z0u (intBits_mul_le (ht.way _ (by lia)) (hi x hx)) (by lia)
 ·have:=y4P (s:=v (z2N (fp t) 0 f)) ht.way ht.lst (S:=S) fun j _=>z1d hi j
  exact z0u (intBits_sub_le (x:=0) (show intBits 0≤0 by decide) this) (by lia)
abbrev z2H:Stmt:=top 17
theorem sc_lifted:z0z ["rows","spot","known","row","place","missing"] ["rows","spot"] (z0g z2H):=⟨rfl,rfl,rfl,by decide+kernel,rfl,by decide+kernel,by decide+kernel⟩
def z5u (K:PySem.W.Frag):Sp:=fun vs H Q _=>∃(l q a:Addr) (t fs:List Int) (m b c S:Nat),vs=[.ref l,.ref q]∧H l=some (.lst [V.ref a])∧H a=some (.lst (t.map V.int))∧H q=some (.lst (fs.map V.int))∧Bd (m+1) b c t∧fp t≤m∧0<v t (fp t)∧fs.length=m+1∧(∃j,v fs j≠0)∧(∀n∈fs,intBits n≤S)∧b≤2000∧c≤2000∧S≤6000∧m≤5∧
 ∀(r:Addr) (H':Hp),H r=none→Same H H'→H' r=some (.lst ((z4M (upL (m+1) t fs)).map V.int))→Q (.ref r) H'
theorem y0z (T:Txt mg) (F:Fun K "lifted" "lifted" z2H f fd) (c_first_place:Cal P w K mg base 3 "first_place" ["row"] (z2V K)) (c_height:Cal P w K mg base 3 "height" ["bound","spot"] (z2D K)) (c_lowest:Cal P w K mg base 3 "lowest" ["numbers"] (z5t K)):FnOk P w K mg base CX0 4 f fd ["rows","spot"] (z5u K):=by
 refine F.ok sc_lifted (fun vs H Q E h=>?_) (fun cdv A outer s H vs Q E hr h=>?_)
 ·obtain⟨_,_,_,_,_,_,_,_,_,rfl,_⟩:=h;rfl
 obtain⟨l,q',a,t,fs,m,b,c,S,rfl,hl,ha,hq,hB,hp,hpos,fl,fpos,fb,b2,c2,s6,m5,q⟩:=h
 refine⟨_,(z0b (z0n (i:=2) sc_lifted.nd rfl (Or.inl rfl) (z1v (z2f (K:=K) rfl) rfl T.list boot_list (z0a (pv 1) z0d)))
  (z0b (z1b PassesOwn.never rfl (z0D (K:=K) rfl (pv 0)) (z0j (i:=3) sc_lifted.nd rfl (Or.inr rfl)) (z0h (z2X (z9f PySem.F.plainAttrs_list PySem.F.slot_list_insert PySem.F.type_list_insert y0G (pv 2) (z0a (z0s c_first_place hr rfl (z0a (pv 3) z0d)) (z0a z0e z0d))))))
  (z0b (z1b PassesOwn.never rfl (z0D (K:=K) rfl (pv 0)) (z0j (i:=3) sc_lifted.nd rfl (Or.inr rfl)) (z0b (z0n (i:=4) sc_lifted.nd rfl (Or.inr rfl) (z0s c_first_place hr rfl (z0a (pv 3) z0d)))
  (z0b (z0n (i:=5) sc_lifted.nd rfl (Or.inl rfl) (z0q z1P z0e (z0s c_height hr rfl (z0a (pv 3) (z0a (pv 2) z0d)))))
  (z0b (z3B (jj:=2) rfl sc_lifted.nd rfl (Or.inl rfl) (Or.inl rfl) (Nc:=["number","row","place"]) (fr:=[none,some 3,some 4]) rfl (z0D (K:=K) rfl (pv 2)) rfl (by decide) rfl (by decide) rfl ⟨rfl,⟨rfl,trivial⟩⟩ ⟨⟨rfl,rfl,rfl,rfl⟩,⟨⟨rfl,rfl,rfl,rfl⟩,trivial⟩⟩ (fun _ _ _ _=>(z0j (i:=0) (show List.Nodup (["number","row","place"]:List Str) from by decide) rfl (Or.inl rfl))) (fun _ _ _ _=>z0Q) (fun _ _ _ _=>(z0q z0L (z0K (z0r (K:=K) rfl) (pv 1) (pv 2) (fun _ _=>rfl)) (pv 0))))
  (z0h (z2u (pv 5) (z3f (pv 2) (pv 4) z1y)))))))
  (z0h (z0A (z0s c_lowest hr rfl (z0a (pv 2) z0d))))))),?_⟩
 have tl:=hB.len
 have tnz:∃n∈t,n≠0:=z3G (j:=fp t) (by lia)
 have tb:=hB.all
 have il:(z2N (fp t) 0 fs).length =m+2:=by have:=z8r (pl:=fp t) (y:=fs) (by lia);show (lf (fp t) fs).length =_;lia
 have ib:=z8x (pl:=fp t) fb
 refine z0o (fun σ H'=>∃r,H r=none∧σ=[some (.ref l),some (.ref q'),some (.ref r),none,none,none]∧Same H H'∧H' r=some (.lst (fs.map V.int))) (fun N hN=>?_) ?_
 ·exact⟨_,rfl,q',_,rfl,.inl (SqL.of hq),fun r hr=>hN _ _ ⟨r,hr,rfl,z0f hr _,z0c⟩⟩
 rintro σ H0 ⟨r,hr0,rfl,g0,e0⟩
 refine z0o (fun σ H'=>∃s3,σ=[some (.ref l),some (.ref q'),some (.ref r),s3,none,none]∧Same H H'∧H' r=some (.lst ((z2N (fp t) 0 fs).map V.int))) (fun N hN=>?_) ?_
 ·refine⟨_,rfl,l,rfl,⟨_,SqL.of (g0 _ _ hl)⟩,?_⟩
  refine z0H (z0v K l [V.ref a]) (fun i σ H'=>∃s3,σ=[some (.ref l),some (.ref q'),some (.ref r),s3,none,none]∧Same H H'∧H' r=some (.lst ((if i=0 then fs else z2N (fp t) 0 fs).map V.int))) ⟨_,rfl,g0,e0⟩ (fun i σ H' _ h=>by obtain⟨_,_,g,_⟩:=h;exact SqL.of (g _ _ hl)) ?_ ?_
  ·rintro i x σ H1 H2 hi ⟨s3,rfl,g,er⟩ ⟨rfl,hx⟩
   have i0:i=0:=by simp at hi;lia
   subst i0
   rw[if_pos rfl] at er
   have ex:x= .ref a:=(Option.some.inj hx).symm
   subst ex
   refine⟨_,rfl,.inl ⟨rfl,_,SqL.of er⟩,_,rfl,a,t,rfl,.inl (SqL.of (g _ _ ha)),by lia,tnz,fun H3 g3=>?_⟩
   refine⟨r,_,_,_,rfl,rfl,g3 _ _ er,by lia,by rw[q0b];lia,z3I (by rw[q0b];lia),?_⟩
   refine⟨_,rfl,fun b' o e=>by rw[z0m (z0i e hr0)];exact (g.trans g3) _ _ e,?_⟩
   rw[z0c,if_neg (by lia),q0G]
   unfold z2N
   rw[q0H,q0t,List.map_take,List.map_drop]
  ·rintro σ H1 ⟨s3,rfl,g,er⟩
   exact hN _ _ ⟨_,rfl,g,er⟩
 clear g0 e0
 rintro σ H0 ⟨s3,rfl,g0,e0⟩
 refine z0o (fun σ H'=>∃r s3 s4 s5,H r=none∧σ=[some (.ref l),some (.ref q'),some (.ref r),s3,s4,s5]∧Same H H'∧H' r=some (.lst ((upL (m+1) t fs).map V.int))) (fun N hN=>?_) ?_
 ·refine⟨_,rfl,l,rfl,⟨_,SqL.of (g0 _ _ hl)⟩,?_⟩
  refine z0H (z0v K l [V.ref a]) (fun i σ H'=>∃r s3 s4 s5,H r=none∧σ=[some (.ref l),some (.ref q'),some (.ref r),s3,s4,s5]∧Same H H'∧H' r=some (.lst ((if i=0 then z2N (fp t) 0 fs else upL (m+1) t fs).map V.int))) ⟨_,_,_,_,hr0,rfl,g0,e0⟩ (fun i σ H' _ h=>by obtain⟨_,_,_,_,_,_,g,_⟩:=h;exact SqL.of (g _ _ hl)) ?_ ?_
  ·clear g0 e0 hr0
   rintro i x σ H1 H2 hi ⟨r,s3,s4,s5,hr0,rfl,g,er⟩ ⟨rfl,hx⟩
   have i0:i=0:=by simp at hi;lia
   subst i0
   rw[if_pos rfl] at er
   have ex:x= .ref a:=(Option.some.inj hx).symm
   subst ex
   refine⟨_,rfl,a,t,rfl,.inl (SqL.of (g _ _ ha)),by lia,tnz,fun H3 g3=>?_⟩
   refine⟨_,rfl,_,rfl,a,r,t,z2N (fp t) 0 fs,m+1,rfl,(g.trans g3) _ _ ha,g3 _ _ er,tl,il,by lia,fun n hn=>z0u (tb n hn) (by lia),fun n hn=>z0u (ib n hn) (by lia),fun H4 g4=>?_⟩
   refine⟨_,_,rfl,rfl,?_⟩
   have g34:=g3.trans g4
   have er4:=g34 _ _ er
   have ha4:=(g.trans g34) _ _ ha
   refine⟨_,rfl,r,rfl,⟨_,SqL.of er4⟩,fun D hD=>?_⟩
   refine z1e rfl (z0v K r ((z2N (fp t) 0 fs).map V.int)) hD (fun _=>true) (fun x=>match x with| .int n=> .int (v t (fp t)*n)|u=>u) (fun H' g'=>SqL.of (g' _ _ er4)) (z0k (by rw[q0b];lia)) ?_ ?_ ?_
   ·intro x hx Hc gc S h
    exact h
   ·intro x hx _ Hc gc S h
    obtain⟨n,hn,rfl⟩:=q0f.mp hx
    exact⟨_,rfl,_,rfl,a,_,_,_,rfl,rfl,SqL.of (gc _ _ ha4),z9C (by lia),_,rfl,_,_,rfl,rfl,z1z (z0u (z1d tb (fp t)) (show _≤2000 by lia)) (ib n hn),h⟩
   rw[z0E,q0M]
   have em:(z2N (fp t) 0 fs).map ((fun x=>match x with| .int n=>V.int (v t (fp t)*n)|u=>u)∘V.int)=((z2N (fp t) 0 fs).map fun n=>v t (fp t)*n).map V.int:=by rw[q0M];rfl
   rw[em]
   have g5:=z0f hD (.lst (((z2N (fp t) 0 fs).map fun n=>v t (fp t)*n).map V.int))
   have e5:upd H4 D (.lst (((z2N (fp t) 0 fs).map fun n=>v t (fp t)*n).map V.int)) D=some (.lst (((z2N (fp t) 0 fs).map fun n=>v t (fp t)*n).map V.int)):=z0c
   generalize upd H4 D (.lst (((z2N (fp t) 0 fs).map fun n=>v t (fp t)*n).map V.int))=H5 at*
   refine⟨_,rfl,_,rfl,_,rfl,D,_,_,fp t,rfl,rfl,e5,z2y (by rw[q0b,q0b,il];lia),?_⟩
   have hD0:=(g.trans g34).free hD
   refine⟨D,_,_,_,hD0,rfl,fun b' o e=>by rw[z0m (z0i e hD0)];exact ((g.trans g34).trans g5) _ _ e,?_⟩
   rw[z0c,if_neg (by lia)]
   unfold upL
   rw[List.map_set]
  ·rintro σ H1 ⟨r,s3,s4,s5,hr0,rfl,g,er⟩
   exact hN _ _ ⟨r,_,_,_,hr0,rfl,g,er⟩
 clear g0 e0
 rintro σ H1 ⟨r,s3,s4,s5,hr1,rfl,g1,e1⟩
 have ul:=y3h (t:=t) fl hp
 have unz:∃n∈upL (m+1) t fs,n≠0:=by
  obtain⟨j,hj⟩:=fpos
  refine z3G (j:=skp (fp t) j) ?_
  rw[z6e fl hp]
  exact q1g (by lia) hj
 exact⟨_,rfl,r,_,rfl,e1,by lia,unz,fun n hn=>z0u (z9I hB hp fl fb n hn) (by lia),fun r2 H2 hr2 g2 e2=>q r2 H2 (g1.free hr2) (g1.trans g2) e2⟩
end
end L2
namespace L2
open PySem PySem.Spec PyProof.Rows
section
open Fr Wl Rk Pt Ld
open Builtin.Int (intBits)
variable {P:Program}{w:World}{K:PySem.W.Frag}{mg:Str→Option Value}{base:Heap}{f:Addr}{fd:FuncData}
theorem z5X {m p b L:Nat}{s:List Int} (hs:0<v s m) (sb:intBits (v s m)≤L):∀(bs:List (List Int)) (z:Int),(∀r∈bs,intBits (v r p)≤b∧0<hg m (v r) (v s))→1≤z→intBits z≤b+L+1→intBits (bs.foldl (fun z r=>max z (((v r p).natAbs :Int)*v s m/hg m (v r) (v s)+1)) z)≤b+L+1
 |[],z,_,_,hz=>hz
 |r::bs,z,h,z1,hz=>by
  rw[List.foldl_cons]
  obtain⟨h1,h2⟩:=h r q0j
  have hm:intBits (((v r p).natAbs :Int)*v s m)≤b+L:=intBits_mul_le (intBits_le_of_natAbs (y:=v r p) (by lia) h1) sb
  have n0:0≤((v r p).natAbs :Int)*v s m:=q1y (Int.natCast_nonneg _) (q1v hs)
  have hd:0≤((v r p).natAbs :Int)*v s m/hg m (v r) (v s):=Int.ediv_nonneg n0 (q1v h2)
  have hle:((v r p).natAbs :Int)*v s m/hg m (v r) (v s)≤((v r p).natAbs :Int)*v s m:=Int.ediv_le_self _ n0
  have hq:intBits (((v r p).natAbs :Int)*v s m/hg m (v r) (v s))≤b+L:=intBits_le_of_natAbs (by lia) hm
  have hq1:intBits (((v r p).natAbs :Int)*v s m/hg m (v r) (v s)+1)≤b+L+1:=by
   refine intBits_le_iff.mpr ?_
   have:=intBits_le_iff.mp hq
   rw[Nat.pow_succ]
   generalize ((v r p).natAbs :Int)*v s m/hg m (v r) (v s)=y at*
   lia
  refine z5X hs sb bs _ (fun r' hr'=>h r' (q0i _ hr')) (by lia) ?_
  generalize ((v r p).natAbs :Int)*v s m/hg m (v r) (v s)+1=y at*
  rcases (by lia:max z y=z∨max z y=y) with e|e
  ·rw[e];exact hz
  ·rw[e];exact hq1
theorem z7P {m p b L:Nat}{sg:Int}{s:List Int}{bs:List (List Int)} (hsg:sg=1∨sg= -1) (hl:s.length=m+1) (hp:p<m) (hs:0<v s m) (sb:∀n∈s,intBits n≤L) (hb:∀r∈bs,intBits (v r p)≤b∧0<hg m (v r) (v s)):∀n∈z6X m p sg s bs,intBits n≤b+2*L+2:=fun n hn=>by
 have hbt:intBits (z4j m p s bs)≤b+L+1:=z5X hs (z1d sb m) bs 1 hb (by decide) (by
  refine q0o (show intBits 1≤1 by decide) (by lia))
 obtain⟨j,_,rfl⟩:=y0J hn
 rw[z9N (by lia)]
 by_cases c:j=p
 ·rw[if_pos c]
  exact z0u (intBits_add_le (intBits_mul_le hbt (z1d sb j)) (z7j hsg (z1d sb m))) (by lia)
 ·rw[if_neg c,q1q]
  exact z0u (intBits_mul_le hbt (z1d sb j)) (by lia)
theorem y1N (i:Int):(if i<0 then -i else i)=(i.natAbs:Int):=by split<;>lia
theorem y5J (i j:Int):(if j>i then j else i)=max i j:=by split<;>lia
abbrev z1T:Stmt:=top 18
theorem sc_stepped:z0z ["bounds","spot","place","sign","bottom","bound","moved"] ["bounds","spot","place","sign"] (z0g z1T):=⟨rfl,rfl,rfl,by decide+kernel,rfl,by decide+kernel,by decide+kernel⟩
def z4n (K:PySem.W.Frag):Sp:=fun vs H Q _=>∃(lb q:Addr) (as:List Addr) (bs:List (List Int)) (s:List Int) (p:Nat) (sg:Int) (m b c L:Nat),vs=[.ref lb,.ref q,.int (p:Nat),.int sg]∧H lb=some (.lst (as.map V.ref))∧LsA H as bs∧H q=some (.lst (s.map V.int))∧(∀r∈bs,Bd m b c r)∧Win m bs s∧p<m∧(sg=1∨sg= -1)∧(∀n∈s,intBits n≤L)∧b≤2000∧c≤2000∧b+2*L+4≤13000∧m≤6∧bs.length≤100∧
 ∀(r:Addr) (H':Hp),H r=none→Same H H'→H' r=some (.lst ((z4M (z6X m p sg s bs)).map V.int))→Q (.ref r) H'
theorem z9h (T:Txt mg) (F:Fun K "stepped" "stepped" z1T f fd) (c_height:Cal P w K mg base 3 "height" ["bound","spot"] (z2D K)) (c_lowest:Cal P w K mg base 3 "lowest" ["numbers"] (z5t K)):FnOk P w K mg base CX0 4 f fd ["bounds","spot","place","sign"] (z4n K):=by
 refine F.ok sc_stepped (fun vs H Q E h=>?_) (fun cdv A outer s H vs Q E hr h=>?_)
 ·obtain⟨_,_,_,_,_,_,_,_,_,_,_,rfl,_⟩:=h;rfl
 obtain⟨lb,q',as,bs,sp,p,sg,m,b,c,L,rfl,hlb,hls,hq,hB,hW,pm,hsg,sb,b2,c2,hL,m6,n100,q⟩:=h
 refine⟨_,(z0b (z0n (i:=4) sc_stepped.nd rfl (Or.inr rfl) z0e)
  (z0b (z1b PassesOwn.never rfl (z0D (K:=K) rfl (pv 0)) (z0j (i:=5) sc_stepped.nd rfl (Or.inl rfl)) (z0h (z0n (i:=4) sc_stepped.nd rfl (Or.inr rfl) (z0y (y1D rfl) rfl T.max boot_max (z0a (pv 4) (z0a (z0q z1o (z0q z4d (z0q z0L (z0y z2O rfl T.abs boot_abs (z0a (z0K (z0r (K:=K) rfl) (pv 5) (pv 2) (fun _ _=>rfl)) z0d)) (z0K (z0r (K:=K) rfl) (pv 1) (z2Q z1x z0e) (fun _ _=>rfl))) (z0s c_height hr rfl (z0a (pv 5) (z0a (pv 1) z0d)))) z0e) z0d))))))
  (z0b (z3B (jj:=6) rfl sc_stepped.nd rfl (Or.inl rfl) (Or.inl rfl) (Nc:=["number","bottom"]) (fr:=[none,some 4]) rfl (z0D (K:=K) rfl (pv 1)) rfl (by decide) rfl (by decide) rfl ⟨rfl,trivial⟩ ⟨⟨rfl,rfl,rfl,rfl⟩,trivial⟩ (fun _ _ _ _=>(z0j (i:=0) (show List.Nodup (["number","bottom"]:List Str) from by decide) rfl (Or.inl rfl))) (fun _ _ _ _=>z0Q) (fun _ _ _ _=>(z0q z0L (pv 1) (pv 0))))
  (z0b (z2u (z0q z1o (z0K (z0r (K:=K) rfl) (pv 6) (pv 2) (fun _ _=>rfl)) (z0q z0L (pv 3) (z0K (z0r (K:=K) rfl) (pv 1) (z2Q z1x z0e) (fun _ _=>rfl)))) (z3f (pv 6) (pv 2) z1y))
  (z0h (z0A (z0s c_lowest hr rfl (z0a (pv 6) z0d)))))))),?_⟩
 have sl:=hW.1.1
 have spos:=hW.1.2
 obtain⟨s',y,es⟩:∃a' x,sp=a'++[x]:=⟨sp.dropLast,sp.getLast (fun z=>by rw[z] at sl;simp at sl),(q0W _).symm⟩
 have s'l:s'.length=m:=by rw[es,q0m] at sl;simpa using sl
 have ey:y=v sp m:=by
  show y=sp.getD m 0
  rw[es,q0a,q0D (by lia),s'l,q1G];rfl
 have hq':H q'=some (.lst (s'.map V.int++[V.int (v sp m)])):=by rw[hq,←ey,es,q0H];rfl
 refine z0o (fun σ H'=>σ=[some (.ref lb),some (.ref q'),some (.int (p:Nat)),some (.int sg),some (.int 1),none,none]∧H=H') (fun N hN=>?_) ?_
 ·exact hN _ _ ⟨rfl,rfl⟩
 rintro σ H0 ⟨rfl,rfl⟩
 refine z0o (fun σ H'=>∃s5,σ=[some (.ref lb),some (.ref q'),some (.int (p:Nat)),some (.int sg),some (.int (z4j m p sp bs)),s5,none]∧Same H H') (fun N hN=>?_) ?_
 ·refine⟨_,rfl,lb,rfl,⟨_,SqL.of hlb⟩,?_⟩
  refine z0H (z0v K lb (as.map V.ref)) (fun i σ H'=>∃s5,σ=[some (.ref lb),some (.ref q'),some (.int (p:Nat)),some (.int sg),some (.int (z4j m p sp (bs.take i))),s5,none]∧Same H H') ⟨_,rfl,Same.refl _⟩ (fun i σ H' _ h=>by obtain⟨_,_,g⟩:=h;exact SqL.of (g _ _ hlb)) ?_ ?_
  ·rintro i x σ H1 H2 hi ⟨s5,rfl,g⟩ ⟨rfl,hx⟩
   rw[q0b,hls.1] at hi
   rw[q0k] at hx
   obtain⟨a,ha,rfl⟩:=q0A.mp hx
   have et:bs[i]? =some bs[i]:=q0c hi
   have hum:bs[i]∈bs:=q0y hi
   have tk:bs.take (i+1)=bs.take i++[bs[i]]:=by rw[q0Q,et];rfl
   generalize bs[i]=u at et hum tk
   have hu:=hB u hum
   have hau:=g _ _ (hls.2 i a u ha et)
   have hh:=hW.2 u hum
   have ub:=hu.all
   have hub:intBits (if v u p<0 then -v u p else v u p)≤b:=by rw[y1N];exact intBits_le_of_natAbs (y:=v u p) (by lia) (hu.way p pm)
   refine⟨_,rfl,_,rfl,_,rfl,a,_,_,_,rfl,rfl,SqL.of hau,z9C (by rw[hu.len];lia),_,rfl,_,rfl,_,rfl,q',_,_,_,rfl,rfl,SqL.of (g _ _ hq'),z3q _ _,_,_,rfl,rfl,z1z hub (z1d sb m),?_⟩
   refine⟨_,rfl,_,rfl,a,q',u,sp,m,rfl,hau,g _ _ hq,hu.len,sl,by lia,fun n hn=>z0u (ub n hn) (by lia),fun n hn=>z0u (sb n hn) (by lia),fun H3 g3=>?_⟩
   refine⟨_,_,rfl,rfl,⟨by lia,z0u (intBits_mul_le hub (z1d sb m)) (by lia)⟩,_,_,rfl,rfl,_,_,rfl,?_⟩
   have eb:(if ((if v u p<0 then -v u p else v u p)*v sp m).fdiv (hg m (v u) (v sp))+1>z4j m p sp (bs.take i) then ((if v u p<0 then -v u p else v u p)*v sp m).fdiv (hg m (v u) (v sp))+1 else z4j m p sp (bs.take i))=z4j m p sp (bs.take (i+1)):=by
        rw[tk,y1N,Int.fdiv_eq_ediv_of_nonneg _ (q1v hh),y5J]
        unfold z4j
        rw[q1L]
        rfl
   refine⟨some (.ref a),?_,g.trans g3⟩
   rw[eb]
   rfl
  ·rintro σ H1 ⟨s5,rfl,g⟩
   rw[q0b,hls.1,q0R]
   exact hN _ _ ⟨_,rfl,g⟩
 rintro σ H1 ⟨s5,rfl,g1⟩
 have hbb:∀r∈bs,intBits (v r p)≤b∧0<hg m (v r) (v sp):=fun r hr=>⟨(hB r hr).way p pm,hW.2 r hr⟩
 have hbt:intBits (z4j m p sp bs)≤b+L+1:=z5X spos (z1d sb m) bs 1 hbb (by decide) (q0o (show intBits 1≤1 by decide) (by lia))
 have hq1:=g1 _ _ hq
 refine z0o (fun σ H'=>∃D s5,H1 D=none∧σ=[some (.ref lb),some (.ref q'),some (.int (p:Nat)),some (.int sg),some (.int (z4j m p sp bs)),s5,some (.ref D)]∧Same H1 H'∧H' D=some (.lst ((sp.map fun n=>z4j m p sp bs*n).map V.int))) (fun N hN=>?_) ?_
 ·refine⟨_,rfl,q',rfl,⟨_,SqL.of hq1⟩,fun D hD=>?_⟩
  refine z1e rfl (z0v K q' (sp.map V.int)) hD (fun _=>true) (fun x=>match x with| .int n=> .int (z4j m p sp bs*n)|u=>u) (fun H' g'=>SqL.of (g' _ _ hq1)) (z0k (by rw[q0b];lia)) ?_ ?_ ?_
  ·intro x hx Hc gc S h
   exact h
  ·intro x hx _ Hc gc S h
   obtain⟨n,hn,rfl⟩:=q0f.mp hx
   exact⟨_,rfl,_,rfl,_,_,rfl,rfl,z1z hbt (sb n hn),h⟩
  rw[z0E,q0M]
  refine hN _ _ ⟨D,_,hD,rfl,z0f hD _,?_⟩
  rw[z0c,q0M];rfl
 rintro σ H2 ⟨D,s5,hD1,rfl,g2,eD⟩
 have g12:=g1.trans g2
 have hDn:=g1.free hD1
 refine z0o (fun σ H'=>σ=[some (.ref lb),some (.ref q'),some (.int (p:Nat)),some (.int sg),some (.int (z4j m p sp bs)),s5,some (.ref D)]∧Same H H'∧H' D=some (.lst ((z6X m p sg sp bs).map V.int))) (fun N hN=>?_) ?_
 ·have hat:atI ((sp.map fun n=>z4j m p sp bs*n).map V.int) ((p:Nat):Int)=some (.int (z4j m p sp bs*v sp p)):=by
   rw[z9C (by rw[q0b];lia),z7L]
  refine⟨_,rfl,_,rfl,D,_,_,_,rfl,rfl,SqL.of eD,hat,_,rfl,_,rfl,_,rfl,q',_,_,_,rfl,rfl,SqL.of (g12 _ _ hq'),z3q _ _,_,_,rfl,rfl,z1z (m:=1) (by rcases hsg with rfl|rfl<;>decide) (z1d sb m),_,_,rfl,rfl,?_⟩
  refine⟨_,rfl,_,rfl,D,_,_,p,rfl,rfl,eD,z2y (by rw[q0b,q0b];lia),?_⟩
  refine hN _ _ ⟨rfl,fun b' o e=>by rw[z0m (z0i e hDn)];exact g12 _ _ e,?_⟩
  rw[z0c]
  unfold z6X
  rw[List.map_set]
 rintro σ H3 ⟨rfl,g3,eD3⟩
 have hlen:(z6X m p sg sp bs).length =m+1:=by rw[z9O,sl]
 have snz:∃n∈z6X m p sg sp bs,n≠0:=by
  refine z3G (j:=m) ?_
  rw[z9N (by lia),if_neg (by lia),q1q]
  have bt1:1≤z4j m p sp bs:=(z6O bs 1).1
  exact q1g (by lia) (by lia)
 exact⟨_,rfl,D,_,rfl,eD3,by lia,snz,fun n hn=>z0u (z7P hsg sl pm spos sb hbb n hn) (by lia),fun r2 H4 hr2 g4 e4=>q r2 H4 (g3.free hr2) (g3.trans g4) e4⟩
end
end L2
namespace L2
open PySem PySem.Spec PyProof.Rows
section
open Fr Wl Rk Pt Ld
open Builtin.Int (intBits)
variable {P:Program}{w:World}{K:PySem.W.Frag}{mg:Str→Option Value}{base:Heap}{f:Addr}{fd:FuncData}
def Sb:Nat→Nat→Nat→Nat
 |0,_,_=>1
 |m+1,b,c=>b+2*(max b c+Sb m (2*b+1) (b+c+1)+m+3)+4
def z7v:Nat→Nat→Nat→Bool
 |0,b,c=>decide (b≤2000)&&decide (c≤2000)
 |m+1,b,c=>decide (b≤2000)&&decide (c≤2000)&&decide (Sb (m+1) b c≤12000)&&z7v m (2*b+1) (b+c+1)
theorem y3U (m b c:Nat):1≤Sb m b c:=by
 cases m with
 |zero=>exact Nat.le_refl _
 |succ m=>rw[Sb];lia
theorem y0R {m b c:Nat} (h:z7v m b c=true):b≤2000∧c≤2000:=by
 cases m with
 |zero=>unfold z7v at h;simpa using h
 |succ m=>unfold z7v at h;simp only[Bool.and_eq_true,decide_eq_true_eq] at h;exact h.1.1
theorem z8q {m b c:Nat} (h:z7v (m+1) b c=true):Sb (m+1) b c≤12000∧z7v m (2*b+1) (b+c+1)=true:=by
 unfold z7v at h;simp only[Bool.and_eq_true,decide_eq_true_eq] at h;exact⟨h.1.2,h.2⟩
theorem y2J {m b c:Nat} (h:z7v m b c=true):Sb m b c≤12000:=by
 cases m with
 |zero=>show 1≤12000;decide
 |succ m=>exact (z8q h).1
abbrev z0U:Stmt:=top 19
theorem sc_spot_across:z0z ["ways","bounds","bound","row","found"] ["ways","bounds","bound"] (z0g z0U):=⟨rfl,rfl,rfl,by decide+kernel,rfl,by decide+kernel,by decide+kernel⟩
abbrev z0T:Stmt:=top 20
theorem sc_spot_within:z0z ["ways","bounds","spot","place","bound"] ["ways","bounds"] (z0g z0T):=⟨rfl,rfl,rfl,by decide+kernel,rfl,by decide+kernel,by decide+kernel⟩
abbrev y6l (m:Nat) (bs:List (List Int)) (k:Nat) (H:Hp) (Q:VK):Prop:=
 (∀(r:Addr) (s:List Int) (H':Hp),H r=none→Same H H'→H' r=some (.lst (s.map V.int))→Win m bs s→(∀n∈s,intBits n≤k)→Q (.ref r) H')∧(∀H',Same H H'→¬Pw m bs→Q .non H')
def z8U (K:PySem.W.Frag) (k:Nat):Sp:=fun vs H Q _=>∃(m:Nat) (l:Addr) (as:List Addr) (bs:List (List Int)) (b c:Nat),k=m+1∧vs=[.int (m:Nat),.ref l]∧H l=some (.lst (as.map V.ref))∧LsA H as bs∧(∀r∈bs,Bd m b c r)∧z7v m b c=true∧m≤5∧bs.length≤100∧y6l m bs (Sb m b c) H Q
def z7g (K:PySem.W.Frag) (k:Nat):Sp:=fun vs H Q _=>∃(m:Nat) (l ab:Addr) (as:List Addr) (bs:List (List Int)) (bd s0:List Int) (b c:Nat),k=m+1∧vs=[.int (m:Nat),.ref l,.ref ab]∧H l=some (.lst (as.map V.ref))∧LsA H as bs∧H ab=some (.lst (bd.map V.int))∧(∀r∈bs,Bd m b c r)∧Bd m b c bd∧z7v m b c=true∧m≤5∧bs.length≤100∧Win m bs s0∧hg m (v bd) (v s0)≤0∧y6l m (bs++[bd]) (Sb m b c) H Q
theorem y3z (T:Txt mg) (F:Fun K "spot_across" "spot_across" z0U f fd) (n:Nat) (c_turned:Cal P w K mg base (6+2*n) "turned" ["numbers","sign"] (z3d K)) (c_lead:Cal P w K mg base (6+2*n) "lead" ["bound"] (z9U K)) (c_drawn:Cal P w K mg base (6+2*n) "drawn" ["rows","numbers"] (z7f K)) (c_stepped:Cal P w K mg base (6+2*n) "stepped" ["bounds","spot","place","sign"] (z4n K)) (c_lifted:Cal P w K mg base (6+2*n) "lifted" ["rows","spot"] (z5u K)) (c_first_place:Cal P w K mg base (6+2*n) "first_place" ["row"] (z2V K)) (c_spot_within:Cal P w K mg base (6+2*n) "spot_within" ["ways","bounds"] (z8U K n)):FnOk P w K mg base CX0 (6+2*n+1) f fd ["ways","bounds","bound"] (z7g K (n+1)):=by
 refine F.ok sc_spot_across (fun vs H Q E h=>?_) (fun cdv A outer s H vs Q E hr h=>?_)
 ·obtain⟨_,_,_,_,_,_,_,_,_,_,rfl,_⟩:=h;rfl
 obtain⟨m,l,ab,as,bs,bd,s0,b,c,hk,rfl,hl,hls,hab,hB,hbd,hlim,m5,n100,hW0,hh0,q1,q2⟩:=h
 obtain rfl:n=m:=by lia
 refine⟨_,(z0b (z1c (z2t (z2n (z0y (y1E (K:=K) rfl rfl) rfl T.any boot_any (z0a (z1O (z2h (K:=K) rfl) (pv 2) z2w (z2v (z2Q z1x z0e))) z0d)))) (z0h (z0A z8c)) z0C)
  (z0b (z0n (i:=3) sc_spot_across.nd rfl (Or.inr rfl) (z0s c_turned hr rfl (z0a (pv 2) (z0a (z0s c_lead hr rfl (z0a (pv 2) z0d)) z0d))))
  (z0b (z0n (i:=4) sc_spot_across.nd rfl (Or.inl rfl) (z0s c_spot_within hr rfl (z0a (z0q z1P (pv 0) z0e) (z0a (z0N (Nc:=["other","row"]) (fr:=[none,some 3]) rfl (z0D (K:=K) rfl (pv 1)) rfl (by decide) rfl (by decide) rfl ⟨rfl,trivial⟩ ⟨⟨rfl,rfl,rfl,rfl⟩,trivial⟩ (fun _ _ _ _=>(z0j (i:=0) (show List.Nodup (["other","row"]:List Str) from by decide) rfl (Or.inl rfl))) (fun _ _ _ _=>z0Q) (fun _ _ _ _=>(z0s c_drawn hr rfl (z0a (z0P (z0a (pv 1) z0d)) (z0a (pv 0) z0d))))) z0d))))
  (z0b (z1c (z7W (y3x (pv 4))) (z0h (z0A z8c)) z0C)
  (z0h (z0A (z0s c_stepped hr rfl (z0a (pv 1) (z0a (z0s c_lifted hr rfl (z0a (z0P (z0a (pv 3) z0d)) (z0a (pv 4) z0d))) (z0a (z0s c_first_place hr rfl (z0a (pv 2) z0d)) (z0a (z0s c_lead hr rfl (z0a (pv 2) z0d)) z0d))))))))))),?_⟩
 have bl:=hbd.len
 obtain⟨b2,c2⟩:=y0R hlim
 have bb:∀n∈bd,intBits n≤2000:=fun n hn=>z0u (hbd.all n hn) (by lia)
 obtain⟨ns,x,eb⟩:∃a' x,bd=a'++[x]:=⟨bd.dropLast,bd.getLast (fun z=>by rw[z] at bl;simp at bl),(q0W _).symm⟩
 have nsl:ns.length=n:=by rw[eb,q0m] at bl;simpa using bl
 have hab':H ab=some (.lst (ns.map V.int++[V.int x])):=by rw[hab,eb,q0H];rfl
 have vns:∀j,j<n→v bd j=v ns j:=fun j hj=>by
  show bd.getD j 0=ns.getD j 0
  rw[eb,q0a,q0a,q0N (by lia)]
 refine z0o (fun σ H'=>σ=[some (.int (n:Nat)),some (.ref l),some (.ref ab),none,none]∧Same H H'∧fp bd<n) (fun N hN=>?_) ?_
 ·refine⟨_,rfl,_,rfl,_,rfl,ab,_,rfl,SqL.of hab',fun z hz=>?_⟩
  rw[z4i]
  have g1:=z0f hz (.lst (ns.map V.int))
  refine⟨z,_,rfl,.inl (SqL.of z0c),z9d ns,_,rfl,?_⟩
  by_cases hnz:∃n∈ns,n≠0
  ·rw[(z8N ns).mpr hnz]
   refine z3r ?_
   refine hN _ _ ⟨rfl,g1,?_⟩
   obtain⟨n',h1,h2⟩:=hnz
   obtain⟨j,hj,e⟩:=y0J h1
   refine q0w fun cc=>h2 ?_
   rw[←e,←vns j (by lia)]
   exact z1f (by lia)
  ·have h0:(ns.map V.int).any trV=false:=by
        cases z:(ns.map V.int).any trV with
        |false=>rfl
        |true=>exact absurd ((z8N ns).mp z) hnz
   rw[h0]
   refine z7x ?_
   refine q2 _ g1 (y1l (s0:=s0) (fun j hj=>?_) hW0.1 hh0)
   rw[vns j hj]
   exact q0w fun hc=>hnz (z3G hc)
 rintro σ H1 ⟨rfl,g1,hfp⟩
 obtain⟨m,rfl⟩:∃k,n=k+1:=⟨n - 1,by lia⟩
 obtain⟨hS,hlim'⟩:=z8q hlim
 have bnz:∃n∈bd,n≠0:=z6E (by lia)
 have ft:=z7D bnz (z1u bd)
 have hBt:=hbd.turn (z1u bd)
 have tnz:∃n∈z0I (ldL bd) bd,n≠0:=z3G (j:=fp bd) (by rw[z2r];have:=z5c bnz;lia)
 have tpos:0<v (z0I (ldL bd) bd) (fp (z0I (ldL bd) bd)):=by rw[z2r,ft];exact z5c bnz
 have hrl:∀u∈bs,u.length=m+2:=fun u hu=>(hB u hu).len
 refine z0o (fun σ H'=>∃ar,σ=[some (.int ((m+1:Nat):Int)),some (.ref l),some (.ref ab),some (.ref ar),none]∧Same H H'∧H' ar=some (.lst ((z0I (ldL bd) bd).map V.int))) (fun N hN=>?_) ?_
 ·refine⟨_,rfl,_,rfl,ab,bd,rfl,g1 _ _ hab,by lia,bnz,fun H2 g2=>?_⟩
  exact⟨ab,bd,ldL bd,rfl,.inl (SqL.of ((g1.trans g2) _ _ hab)),by lia,z1u bd,fun n hn=>z0u (bb n hn) (by decide),fun r H' hr g' e'=>hN _ _ ⟨r,rfl,g1.trans (g2.trans g'),e'⟩⟩
 clear g1
 rintro σ H1 ⟨ar,rfl,g1,ear⟩
 have hl1:=g1 _ _ hl
 have hls1:=hls.same g1
 refine z0o (fun σ H'=>Same H H'∧((∃rf fs,σ=[some (.int ((m+1:Nat):Int)),some (.ref l),some (.ref ab),some (.ref ar),some (.ref rf)]∧H' rf=some (.lst (fs.map V.int))∧H' ar=some (.lst ((z0I (ldL bd) bd).map V.int))∧Win m (bs.map (drR (z0I (ldL bd) bd))) fs∧∀n∈fs,intBits n≤Sb m (2*b+1) (b+c+1))∨(σ=[some (.int ((m+1:Nat):Int)),some (.ref l),some (.ref ab),some (.ref ar),some .non]∧¬Pw m (bs.map (drR (z0I (ldL bd) bd)))))) (fun N hN=>?_) ?_
 ·refine⟨_,rfl,_,_,rfl,rfl,_,rfl,l,rfl,⟨_,SqL.of hl1⟩,fun D hD=>?_⟩
  refine z2e rfl (z0v K l (as.map V.ref)) hD (fun _=>true) (fun H' x u=>∃(a:Addr) (t:List Int) (p:Addr),x=V.ref a∧u=V.ref p∧H1 a=some (.lst (t.map V.int))∧H' p=some (.lst ((drR (z0I (ldL bd) bd) t).map V.int))∧p≠D) ?_ (fun H' g'=>SqL.of (g' _ _ hl1)) (z0k (by rw[q0b,hls.1];lia)) ?_ ?_ ?_
  ·rintro H2 H3 x u k ⟨acc,hd⟩ ⟨a,t,p,e1,e2,e3,e4,e5⟩
   exact⟨a,t,p,e1,e2,e3,k _ _ e5 e4,e5⟩
  ·intro x hx Hc gc S h
   exact h _ (Same.refl _)
  ·rintro x hx _ Hc gc ⟨acc,hacc⟩ S h
   obtain⟨a,ha,rfl⟩:=q0f.mp hx
   obtain⟨i,hi,rfl⟩:=q0v.mp ha
   have hi2:i<bs.length:=by rw[←hls.1];exact hi
   have hc:=hls1.2 i _ _ (q0c hi) (q0c hi2)
   have htm:bs[i]∈bs:=q0y hi2
   generalize bs[i]=t at hc htm
   have hBr:=hB t htm
   refine⟨_,rfl,z0k (by show 1≤_;decide),fun z hz=>?_⟩
   have g2:=z0f hz (.lst [V.ref ar])
   refine⟨_,rfl,z,_,ar,z0I (ldL bd) bd,t,2000,rfl,z0c,g2 _ _ (gc _ _ ear),.inl (SqL.of (g2 _ _ (gc _ _ hc))),by rw[hBr.len,hBt.len],by rw[hBt.len];lia,tnz,fun n hn=>z0u (hBt.all n hn) (by lia),fun n hn=>z0u (hBr.all n hn) (by lia),by decide,fun r H3 hr3 _ g3 e3=>?_⟩
   exact h _ _ (g2.trans g3) ⟨_,t,r,rfl,rfl,hc,e3,fun z=>by rw[z] at hr3;have:=g2 _ _ hacc;rw[hr3] at this;cases this⟩
  ·intro us H2 g2 hD2 he
   rw[z0E] at he
   obtain⟨as1,rfl,hL1,hL2⟩:=z3o (G:= .lst) (F:= .lst) (g:=drR (z0I (ldL bd) bd)) (fun xs ys h=>by injection h) hls1.1 hls1.2 (he.imp fun x u ⟨a,t,p,e1,e2,e3,e4,_⟩=>⟨a,t,p,e1,e2,e3,e4⟩)
   refine⟨m,D,as1,bs.map (drR (z0I (ldL bd) bd)),2*b+1,b+c+1,rfl,?_,hD2,⟨hL1,hL2⟩,fun r hr=>?_,hlim',by lia,by rw[q0b];lia,fun rf fs H3 hrf g3 erf hWf hbf=>?_,fun H3 g3 hno=>?_⟩
   ·show [V.int _,V.ref D]=_
    congr 2
    lia
   ·obtain⟨u,hu,rfl⟩:=q0f.mp hr
    exact hBt.draw (hB u hu) (by lia) tnz
   ·exact hN _ _ ⟨g1.trans (g2.trans g3),.inl ⟨rf,fs,rfl,erf,(g2.trans g3) _ _ ear,hWf,hbf⟩⟩
   ·exact hN _ _ ⟨g1.trans (g2.trans g3),.inr ⟨rfl,hno⟩⟩
 clear g1 hl1 hls1 ear
 rintro σ H1 ⟨g1,⟨rf,fs,rfl,erf,ear,hWf,hbf⟩|⟨rfl,hno⟩⟩
 ·refine z0o (fun σ H'=>σ=[some (.int ((m+1:Nat):Int)),some (.ref l),some (.ref ab),some (.ref ar),some (.ref rf)]∧H1=H') (fun N hN=>?_) ?_
  ·refine⟨_,rfl,_,rfl,?_⟩
   refine z3r ?_
   exact hN _ _ ⟨rfl,rfl⟩
  rintro σ H1' ⟨rfl,rfl⟩
  obtain⟨w1,w2,w3⟩:=z7I (w:=m) bl hrl (by lia) hWf
  have e0:Sb (m+1) b c=b+2*(max b c+Sb m (2*b+1) (b+c+1)+m+3)+4:=rfl
  have hub:=z9I hBt (by rw[ft];lia) hWf.1.1 hbf
  have hw:=z9H (t:=z0I (ldL bd) bd) (by rw[ft];lia) hBt.len tpos hrl hWf
  have hlb:=z8o (z3G (j:=m+1) (by have:=hw.1.2;lia)) hub
  refine⟨_,rfl,_,rfl,z0k (by show 1≤_;decide),fun z hz=>?_⟩
  have g2:=z0f hz (.lst [V.ref ar])
  have e2:upd H1 z (.lst [V.ref ar]) z=some (.lst [V.ref ar]):=z0c
  generalize upd H1 z (.lst [V.ref ar])=H2 at*
  refine⟨_,rfl,z,rf,ar,z0I (ldL bd) bd,fs,m,b,c,Sb m (2*b+1) (b+c+1),rfl,e2,g2 _ _ ear,g2 _ _ erf,hBt,by rw[ft];lia,tpos,hWf.1.1,⟨m,by have:=hWf.1.2;lia⟩,hbf,b2,c2,by lia,by lia,fun r3 H3 hr3 g3 e3=>?_⟩
  have g13:=g1.trans (g2.trans g3)
  refine⟨_,rfl,ab,bd,rfl,.inl (SqL.of (g13 _ _ hab)),by lia,bnz,fun H4 g4=>?_⟩
  have g14:=g13.trans g4
  refine⟨_,rfl,ab,bd,rfl,g14 _ _ hab,by lia,bnz,fun H5 g5=>?_⟩
  have g15:=g14.trans g5
  refine⟨l,r3,as,bs,z4M (upL (m+1) (z0I (ldL bd) bd) fs),fp bd,ldL bd,m+1,b,c,max b c+Sb m (2*b+1) (b+c+1)+m+3,rfl,g15 _ _ hl,hls.same g15,(g4.trans g5) _ _ e3,hB,w1,hfp,z1u bd,hlb,b2,c2,by lia,by lia,n100,fun r6 H6 hr6 g6 e6=>?_⟩
  refine q1 r6 _ H6 (g15.free hr6) (g15.trans g6) e6 w3 ?_
  have snz:∃n∈z6X (m+1) (fp bd) (ldL bd) (z4M (upL (m+1) (z0I (ldL bd) bd) fs)) bs,n≠0:=by
   refine z3G (j:=m+1) ?_
   rw[z9N (by rw[w1.1.1];lia),if_neg (by lia),q1q]
   have bt1:1≤z4j (m+1) (fp bd) (z4M (upL (m+1) (z0I (ldL bd) bd) fs)) bs:=(z6O bs 1).1
   have:=w1.1.2
   exact q1g (by lia) (by lia)
  exact fun n hn=>z0u (z8o snz (z7P (z1u bd) w1.1.1 hfp w1.1.2 hlb fun r hr=>⟨(hB r hr).way _ hfp,w1.2 r hr⟩) n hn) (by lia)
 ·refine z0o (fun σ H'=>False) (fun N hN=>?_) (fun _ _ h=>h.elim)
  refine⟨_,rfl,_,rfl,?_⟩
  refine z7x ?_
  exact q2 _ g1 (z7J bl hrl (by lia) hW0 hh0 hno)
end
end L2
namespace L2
open PySem PySem.Spec PyProof.Rows
section
open Fr Wl Rk Pt Ld
open Builtin.Int (intBits)
variable {P:Program}{w:World}{K:PySem.W.Frag}{mg:Str→Option Value}{base:Heap}{f:Addr}{fd:FuncData}
def z2P (m:Nat):List Int:=List.replicate m 0++[1]
theorem z6b (m:Nat):Spt m (z2P m):=by
 refine⟨by unfold z2P;simp,?_⟩
 show 0<(z2P m).getD m 0
 unfold z2P
 rw[q0a,q0D (by simp),q1H,q1G]
 decide
theorem z4R (m:Nat):∀n∈z2P m,intBits n≤1:=fun n hn=>by
 unfold z2P at hn
 rcases q0s.mp hn with h|h
 ·rw[(List.mem_replicate.mp h).2];decide
 ·rw[q0g.mp h];decide
theorem z4Q (m:Nat):(List.replicate m [V.int 0]).flatten =(List.replicate m (0:Int)).map V.int:=by
 induction m with
 |zero=>rfl
 |succ m ih=>rw[List.replicate_succ,List.flatten_cons,ih,List.replicate_succ];rfl
theorem y5H (T:Txt mg) (F:Fun K "spot_within" "spot_within" z0T f fd) (n:Nat) (c_height:Cal P w K mg base (7+2*n) "height" ["bound","spot"] (z2D K)) (c_spot_across:Cal P w K mg base (7+2*n) "spot_across" ["ways","bounds","bound"] (z7g K (n+1))):FnOk P w K mg base CX0 (7+2*n+1) f fd ["ways","bounds"] (z8U K (n+1)):=by
 refine F.ok sc_spot_within (fun vs H Q E h=>?_) (fun cdv A outer s H vs Q E hr h=>?_)
 ·obtain⟨_,_,_,_,_,_,_,rfl,_⟩:=h;rfl
 obtain⟨m,l,as,bs,b,c,hk,rfl,hl,hls,hB,hlim,m5,n100,q1,q2⟩:=h
 obtain rfl:n=m:=by lia
 refine⟨_,(z0b (z0n (i:=2) sc_spot_within.nd rfl (Or.inl rfl) (z0q z4y (z0q z8g (z0P (z0a z0e z0d)) (pv 0)) (z0P (z0a z0e z0d))))
  (z0b (z1b PassesOwn.never rfl (z8a (K:=K) rfl rfl T.enumerate (z0a (pv 1) z0d)) (z1m (K:=K) rfl 2 rfl (z0B (z0j (i:=3) sc_spot_within.nd rfl (Or.inl rfl)) (z0B (z0j (i:=4) sc_spot_within.nd rfl (Or.inl rfl)) z1l))) (z0h (z1c (z0x op_le (z0s c_height hr rfl (z0a (pv 4) (z0a (pv 2) z0d))) z0e (z0F _)) (z0b (z0n (i:=2) sc_spot_within.nd rfl (Or.inl rfl) (z0s c_spot_across hr rfl (z0a (pv 0) (z0a (z1O (z2h (K:=K) rfl) (pv 1) z2w (z2v (pv 3))) (z0a (pv 4) z0d)))))
  (z0h (z1c (z7W (y3x (pv 2))) (z0h (z0A z8c)) z0C))) z0C)))
  (z0h (z0A (pv 2))))),?_⟩
 obtain⟨b2,c2⟩:=y0R hlim
 have hS:=y2J hlim
 refine z0o (fun σ H'=>∃r,H r=none∧σ=[some (.int (n:Nat)),some (.ref l),some (.ref r),none,none]∧Same H H'∧H' r=some (.lst ((z2P n).map V.int))) (fun N hN=>?_) ?_
 ·refine⟨z0k (by show 1≤_;decide),fun z hz=>?_⟩
  have g0:=z0f hz (.lst [V.int 0])
  have e0:upd H z (.lst [V.int 0]) z=some (.lst [V.int 0]):=z0c
  generalize upd H z (.lst [V.int 0])=H0 at*
  refine⟨_,rfl,z,_,_,rfl,rfl,e0,by lia,by lia,z0k (by rw[q0G];show 1*n≤_;lia),fun z1 hz1=>?_⟩
  rw[q0G,z4Q]
  have g1:=z0f hz1 (.lst ((List.replicate n (0:Int)).map V.int))
  have e1:upd H0 z1 (.lst ((List.replicate n (0:Int)).map V.int)) z1=some (.lst ((List.replicate n (0:Int)).map V.int)):=z0c
  generalize upd H0 z1 (.lst ((List.replicate n (0:Int)).map V.int))=H1 at*
  refine⟨z0k (by show 1≤_;decide),fun z2 hz2=>?_⟩
  have g2:=z0f hz2 (.lst [V.int 1])
  have e2:upd H1 z2 (.lst [V.int 1]) z2=some (.lst [V.int 1]):=z0c
  generalize upd H1 z2 (.lst [V.int 1])=H2 at*
  refine⟨z1,z2,_,_,rfl,rfl,g2 _ _ e1,e2,z0k (by rw[q0b,q1H];show n+1≤_;lia),fun z3 hz3=>?_⟩
  have g02:=g0.trans (g1.trans g2)
  refine hN _ _ ⟨z3,g02.free hz3,rfl,g02.trans (z0f hz3 _),?_⟩
  rw[z0c]
  unfold z2P
  rw[q0H]
  rfl
 rintro σ H0 ⟨r0,hr0,rfl,g0,e0⟩
 refine z0o (fun σ H'=>∃r sp s3 s4,H r=none∧σ=[some (.int (n:Nat)),some (.ref l),some (.ref r),s3,s4]∧Same H H'∧H' r=some (.lst (sp.map V.int))∧Win n bs sp∧∀n'∈sp,intBits n'≤Sb n b c) (fun N hN=>?_) ?_
 ·refine⟨_,rfl,l,_,rfl,g0 _ _ hl,?_⟩
  refine z0H (z6r K l (as.map V.ref)) (fun i σ H'=>∃r sp s3 s4,H r=none∧σ=[some (.int (n:Nat)),some (.ref l),some (.ref r),s3,s4]∧Same H H'∧H' r=some (.lst (sp.map V.int))∧Win n (bs.take i) sp∧∀n'∈sp,intBits n'≤Sb n b c)
   ⟨r0,z2P n,_,_,hr0,rfl,g0,e0,⟨z6b n,fun b' hb'=>by simp at hb'⟩,fun n' hn'=>z0u (z4R n n' hn') (y3U _ _ _)⟩ (fun i σ H' _ h=>by obtain⟨_,_,_,_,_,_,g,_⟩:=h;exact SqL.of (g _ _ hl)) ?_ ?_
  ·clear e0 g0 hr0
   rintro i x σ H1 H2 hi ⟨r,sp,s3,s4,hr1,rfl,g,er,hW,hb⟩ ⟨pr,vv,rfl,hpr,hvv,rfl⟩
   rw[q0b,hls.1] at hi
   rw[q0k] at hvv
   obtain⟨a,ha,rfl⟩:=q0A.mp hvv
   have et:bs[i]? =some bs[i]:=q0c hi
   have hum:bs[i]∈bs:=q0y hi
   have tk:bs.take (i+1)=bs.take i++[bs[i]]:=by rw[q0Q,et];rfl
   generalize bs[i]=bd at et hum tk
   have g2:=z0f hpr (.tup [.int i,.ref a])
   have ep:upd H1 pr (.tup [.int i,.ref a]) pr=some (.tup [.int i,.ref a]):=z0c
   generalize upd H1 pr (.tup [.int i,.ref a])=H2 at*
   have gg2:=g.trans g2
   have hbd:=hB bd hum
   have hab:=gg2 _ _ (hls.2 i a bd ha et)
   refine⟨pr,_,rfl,SqT.of ep,rfl,_,_,rfl,_,_,rfl,rfl,?_⟩
   refine⟨_,rfl,_,rfl,a,r,bd,sp,n,rfl,hab,g2 _ _ er,hbd.len,hW.1.1,by lia,fun n' hn'=>z0u (hbd.all n' hn') (by lia),fun n' hn'=>z0u (hb n' hn') (by lia),fun H3 g3=>?_⟩
   refine⟨_,_,rfl,rfl,_,rfl,?_⟩
   have gg3:=gg2.trans g3
   refine z5g (fun cc=>?_) (fun cc=>?_)
   ·have hle:hg n (v bd) (v sp)≤0:=of_decide_eq_true cc
    refine⟨_,rfl,_,rfl,_,rfl,_,rfl,l,_,rfl,SqL.of (gg3 _ _ hl),fun p1 hp1=>?_⟩
    rw[z8J (by lia) (by rw[q0b,hls.1];lia),q0G,←List.map_take]
    have g4:=z0f hp1 (.lst ((as.take i).map V.ref))
    have e4:upd H3 p1 (.lst ((as.take i).map V.ref)) p1=some (.lst ((as.take i).map V.ref)):=z0c
    generalize upd H3 p1 (.lst ((as.take i).map V.ref))=H4 at*
    have gg4:=gg3.trans g4
    have hls4:LsA H4 (as.take i) (bs.take i):=⟨by rw[q0n,q0n,hls.1],fun j a' t' e1 e2=>by
     have hj:j<i:=by
         have:=(q0E.mp e2).1
         rw[q0n] at this;lia
     rw[q1K hj] at e1 e2
     exact gg4 _ _ (hls.2 j a' t' e1 e2)⟩
    refine⟨_,rfl,n,p1,a,as.take i,bs.take i,bd,sp,b,c,rfl,rfl,e4,hls4,(g3.trans g4) _ _ hab,fun r' hr'=>hB r' (List.mem_of_mem_take hr'),hbd,hlim,m5,by rw[q0n];lia,hW,hle,fun r5 sp5 H5 hr5 g5 er5 hW5 hb5=>?_,fun H5 g5 hno=>?_⟩
    ·refine⟨_,rfl,_,rfl,?_⟩
     refine z3r ?_
     exact⟨r5,sp5,_,_,gg4.free hr5,rfl,gg4.trans g5,er5,by rw[tk];exact hW5,hb5⟩
    ·refine⟨_,rfl,_,rfl,?_⟩
     refine z7x ?_
     refine q2 _ (gg4.trans g5) fun hp=>hno ?_
     rw[←tk]
     exact Pw.less (cs:=bs.drop (i+1)) (by rw[List.take_append_drop];exact hp)
   ·have hgt:¬hg n (v bd) (v sp)≤0:=fun z=>cc (decide_eq_true z)
    refine⟨r,sp,_,_,hr1,rfl,gg3,(g2.trans g3) _ _ er,⟨hW.1,fun b' hb'=>?_⟩,hb⟩
    rw[tk] at hb'
    rcases q0s.mp hb' with h|h
    ·exact hW.2 b' h
    ·rw[q0g.mp h];lia
  ·rintro σ H1 ⟨r,sp,s3,s4,hr1,rfl,g,er,hW,hb⟩
   rw[q0b,hls.1,q0R] at hW
   exact hN _ _ ⟨r,sp,_,_,hr1,rfl,g,er,hW,hb⟩
 clear e0 g0 hr0
 rintro σ H1 ⟨r,sp,s3,s4,hr1,rfl,g,er,hW,hb⟩
 exact⟨_,rfl,q1 r sp H1 hr1 g er hW hb⟩
theorem z5E {fa:Addr}{fda:FuncData} (T:Txt mg) (Fa:Fun K "spot_across" "spot_across" z0U fa fda) (ba:Binds K fda ["ways","bounds","bound"] []) (ka:PySem.W.keepIn K (.ref fa)=true) (ma:mg "spot_across"=some (.ref fa))
 (F:Fun K "spot_within" "spot_within" z0T f fd) (bw:Binds K fd ["ways","bounds"] []) (kw:PySem.W.keepIn K (.ref f)=true) (mw:mg "spot_within"=some (.ref f))
 (c_turned:Cal P w K mg base 5 "turned" ["numbers","sign"] (z3d K)) (c_lead:Cal P w K mg base 5 "lead" ["bound"] (z9U K)) (c_drawn:Cal P w K mg base 5 "drawn" ["rows","numbers"] (z7f K)) (c_stepped:Cal P w K mg base 5 "stepped" ["bounds","spot","place","sign"] (z4n K)) (c_lifted:Cal P w K mg base 5 "lifted" ["rows","spot"] (z5u K)) (c_first_place:Cal P w K mg base 5 "first_place" ["row"] (z2V K)) (c_height:Cal P w K mg base 5 "height" ["bound","spot"] (z2D K)):
 ∀n,FnOk P w K mg base CX0 (6+2*n) f fd ["ways","bounds"] (z8U K n)∧FnOk P w K mg base CX0 (6+2*n+1) fa fda ["ways","bounds","bound"] (z7g K (n+1))
 |0=>by
  have cw:FnOk P w K mg base CX0 (6+2*0) f fd ["ways","bounds"] (z8U K 0):=⟨fun _ _ _ _ h=>by obtain⟨_,_,_,_,_,_,e,_⟩:=h;lia,fun _ _ _ _ _ _ _ _ _ _ _ _ _ h=>by obtain⟨_,_,_,_,_,_,e,_⟩:=h;lia⟩
  exact⟨cw,y3z T Fa 0 (c_turned.mono (by lia)) (c_lead.mono (by lia)) (c_drawn.mono (by lia)) (c_stepped.mono (by lia)) (c_lifted.mono (by lia)) (c_first_place.mono (by lia)) ⟨f,fd,cw,bw,kw,mw⟩⟩
 |n+1=>by
  obtain⟨_,ha⟩:=z5E T Fa ba ka ma F bw kw mw c_turned c_lead c_drawn c_stepped c_lifted c_first_place c_height n
  have e7:6+2*n+1=7+2*n:=by lia
  have ha':Cal P w K mg base (7+2*n) "spot_across" ["ways","bounds","bound"] (z7g K (n+1)):=⟨fa,fda,by rw[←e7];exact ha,ba,ka,ma⟩
  have hw:=y5H T F n (c_height.mono (by lia)) ha'
  have e8:7+2*n+1=6+2*(n+1):=by lia
  rw[e8] at hw
  exact⟨hw,y3z T Fa (n+1) (c_turned.mono (by lia)) (c_lead.mono (by lia)) (c_drawn.mono (by lia)) (c_stepped.mono (by lia)) (c_lifted.mono (by lia)) (c_first_place.mono (by lia)) ⟨f,fd,hw,bw,kw,mw⟩⟩
end
end L2
namespace L2
open PySem PySem.Spec PyProof.Rows
section
open Fr Wl Rk Pt Ld
open Builtin.Int (intBits)
variable {P:Program}{w:World}{K:PySem.W.Frag}{mg:Str→Option Value}{base:Heap}{f:Addr}{fd:FuncData}
abbrev z1r:Stmt:=top 21
theorem z6q:z0z ["walls","signs"] ["walls","signs"] (z0g z1r):=⟨rfl,rfl,rfl,by decide+kernel,rfl,by decide+kernel,by decide+kernel⟩
def z7U (K:PySem.W.Frag):Sp:=fun vs H Q _=>∃(l q:Addr) (as:List Addr) (ts:List (List Int)) (sg:List Int),vs=[.ref l,.ref q]∧H l=some (.lst (as.map V.ref))∧TsA H as ts∧H q=some (.tup (sg.map V.int))∧ts.length=sg.length∧Sgn sg∧ts.length≤100∧(∀t∈ts,t.length≤100∧∀n∈t,intBits n≤13000)∧
 ∀(r:Addr) (bs:List Addr) (H':Hp),H r=none→Same H H'→H' r=some (.lst (bs.map V.ref))→LsA H' bs (bdL ts sg)→Q (.ref r) H'
theorem z6B (T:Txt mg) (F:Fun K "bounds_at" "bounds_at" z1r f fd) (c_turned:Cal P w K mg base 1 "turned" ["numbers","sign"] (z3d K)):FnOk P w K mg base CX0 2 f fd ["walls","signs"] (z7U K):=by
 refine F.ok z6q (fun vs H Q E h=>?_) (fun cdv A outer s H vs Q E hr h=>?_)
 ·obtain⟨_,_,_,_,_,rfl,_⟩:=h;rfl
 obtain⟨l,q',as,ts,sg,rfl,hl,hts,hq,hlen,hsg,n100,zt,q⟩:=h
 refine⟨_,(z0h (z0A (z0N (Nc:=["numbers","sign"]) (fr:=[none,none]) rfl (z3C (K:=K) rfl rfl T.zip (z0a (pv 0) (z0a (pv 1) z0d))) rfl (by decide) rfl (by decide) rfl trivial trivial (fun _ _ _ _=>(z1m (K:=K) rfl 2 rfl (z0B (z0j (i:=0) (show List.Nodup (["numbers","sign"]:List Str) from by decide) rfl (Or.inl rfl)) (z0B (z0j (i:=1) (show List.Nodup (["numbers","sign"]:List Str) from by decide) rfl (Or.inl rfl)) z1l)))) (fun _ _ _ _=>z0Q) (fun _ _ _ _=>(z0s c_turned hr rfl (z0a (pv 0) (z0a (pv 1) z0d))))))),?_⟩
 refine⟨_,rfl,_,rfl,l,q',true,false,_,_,rfl,SqL.of hl,SqT.of hq,fun D hD=>?_⟩
 have dl:(as.zip (ts.zip sg)).length =ts.length:=by rw[q1e,q1e,hts.1];lia
 refine z9x (as.zip (ts.zip sg)) (by rw[q1e,q0b,q0b,hts.1,dl];lia) (z2b K true false l q' (as.map V.ref) (sg.map V.int)) hD (fun d=>(V.ref d.1,V.int d.2.2)) ?_ (fun _=>true) (fun H' d u=>∃p,u= .ref p∧p≠D∧H' p=some (.lst ((z0I d.2.2 d.2.1).map V.int))) ?_ ?_ (fun H' g'=>⟨SqL.of (g' _ _ hl),SqT.of (g' _ _ hq)⟩) (z0k (by rw[q1e,q0b,q0b,hts.1];lia)) ?_ ?_ ?_
 ·intro i c d hc hd
  rw[q0Y] at hc hd
  obtain⟨c1,c2⟩:=hc
  obtain⟨d1,d2⟩:=hd
  rw[q0Y] at d2
  rw[q0k] at c1 c2
  rw[d1] at c1
  rw[d2.2] at c2
  obtain⟨u,v⟩:=c
  have h1:V.ref d.1=u:=Option.some.inj c1
  have h2:V.int d.2.2=v:=Option.some.inj c2
  rw[h1,h2]
 ·rintro H2 H3 d u k _ ⟨p,e1,e2,e3⟩
  exact⟨p,e1,e2,k _ _ e2 e3⟩
 ·intro p u v σ H hp S h
  exact⟨p,_,rfl,SqT.of hp,rfl,_,_,rfl,_,_,rfl,rfl,h⟩
 ·intro d hd Hc gc S h
  exact h _ (Same.refl _)
 ·rintro d hd _ Hc gc ⟨acc,hacc⟩ S h
  obtain⟨i,hi⟩:=List.mem_iff_getElem?.mp hd
  rw[q0Y] at hi
  obtain⟨d1,d2⟩:=hi
  rw[q0Y] at d2
  have ha:=hts.2 i d.1 d.2.1 d1 d2.1
  have hm:=zt _ (q0u d2.1)
  have hs:=hsg _ (q0u d2.2)
  refine⟨_,rfl,_,rfl,d.1,d.2.1,d.2.2,rfl,.inr (SqT.of (gc _ _ ha)),hm.1,hs,hm.2,fun r H' hr g' e'=>?_⟩
  exact h _ _ g' ⟨r,rfl,fun z=>(by rw[z,hacc] at hr;cases hr),e'⟩
 ·intro us H1 g1 hD1 he
  rw[z0E] at he
  obtain⟨bs,hbs⟩:∃bs:List Addr,us=bs.map V.ref:=by
   clear hD1
   generalize as.zip (ts.zip sg)=ds at he
   induction he with
   |nil=>exact⟨[],rfl⟩
   |cons h1 _ ih=>
    obtain⟨p,rfl,_⟩:=h1
    obtain⟨bs,rfl⟩:=ih
    exact⟨p::bs,rfl⟩
  subst hbs
  refine q D bs H1 hD g1 hD1 ⟨?_,fun i a t ea et=>?_⟩
  ·have:=he.length
   rw[dl,q0b] at this
   unfold bdL
   rw[q1D];lia
  ·unfold bdL at et
   rw[List.getElem?_zipWith] at et
   have hi:i<ts.length:=by
        have:=(q0E.mp ea).1
        have h2:=he.length
        rw[dl,q0b] at h2
        lia
   have e1:ts[i]? =some ts[i]:=q0c hi
   have e2:sg[i]? =some (sg[i]'(by lia)):=q0c (by lia)
   have e3:as[i]? =some (as[i]'(by rw[hts.1];exact hi)):=q0c _
   rw[e1,e2] at et
   have hd:(as.zip (ts.zip sg))[i]? =some (as[i]'(by rw[hts.1];exact hi),(ts[i],sg[i]'(by lia))):=by
        rw[q0Y]
        refine⟨e3,?_⟩
        rw[q0Y]
        exact⟨e1,e2⟩
   obtain⟨p,hp,_,h3⟩:=he.get hd (by rw[q0k,ea];rfl)
   cases hp
   rw[←Option.some.inj et]
   exact h3
abbrev z3w:Stmt:=top 6
theorem sc_ratio:z0z ["top","bottom","shared"] ["top","bottom"] (z0g z3w):=⟨rfl,rfl,rfl,by decide+kernel,rfl,by decide+kernel,by decide+kernel⟩
def y2n (t b:Int):List Int:=[t.fdiv (Int.gcd t b:Nat),b.fdiv (Int.gcd t b:Nat)]
def z9R (K:PySem.W.Frag):Sp:=fun vs H Q _=>∃(t b:Int),vs=[.int t,.int b]∧0<b∧intBits t≤13000∧intBits b≤13000∧∀(r:Addr) (H':Hp),H r=none→Same H H'→H' r=some (.tup ((y2n t b).map V.int))→Q (.ref r) H'
theorem y2x (T:Txt mg) (F:Fun K "ratio" "ratio" z3w f fd) (c_divisor:Cal P w K mg base 1 "divisor" ["one","other"] z1I):FnOk P w K mg base CX0 2 f fd ["top","bottom"] (z9R K):=by
 refine F.ok sc_ratio (fun vs H Q E h=>?_) (fun cdv A outer s H vs Q E hr h=>?_)
 ·obtain⟨_,_,rfl,_⟩:=h;rfl
 obtain⟨t,b,rfl,b0,tb,bb,q⟩:=h
 refine⟨_,(z0b (z1c (z0x z4x (pv 1) z0e (z0F _)) (z0h y2p) z0C)
  (z0b (z0n (i:=2) sc_ratio.nd rfl (Or.inl rfl) (z0s c_divisor hr rfl (z0a (pv 0) (z0a (pv 1) z0d))))
  (z0b (z1c (z0x y4y (pv 1) z0e (z0F _)) (z0h (z0n (i:=2) sc_ratio.nd rfl (Or.inl rfl) (z2Q z1x (pv 2)))) z0C)
  (z0h (z0A (z3N (z0a (z0q z4d (pv 0) (pv 2)) (z0a (z0q z4d (pv 1) (pv 2)) z0d)))))))),?_⟩
 have g0:((Int.gcd t b:Nat):Int)≠0:=fun z=>by
  have:=(Int.gcd_eq_zero_iff.mp (Int.ofNat_eq_zero.mp z)).2
  lia
 refine⟨_,rfl,rfl,_,rfl,?_⟩
 refine z5g (fun c=>?_) (fun c=>?_)
 ·have:b=0:=by
   have:=of_decide_eq_true c
   injection this
  lia
 refine⟨_,rfl,_,rfl,t,b,rfl,?_⟩
 refine⟨_,rfl,_,_,rfl,rfl,_,rfl,?_⟩
 refine z5g (fun c2=>?_) (fun c2=>?_)
 ·have:b<0:=of_decide_eq_true c2
  lia
 refine⟨_,rfl,_,rfl,_,_,rfl,rfl,⟨g0,tb⟩,_,rfl,_,rfl,_,_,rfl,rfl,⟨g0,bb⟩,z0k (by show 2≤_;decide),fun r hr=>?_⟩
 exact q r _ hr (z0f hr _) z0c
abbrev z1A:Stmt:=top 24
theorem z7l:z0z ["spot"] ["spot"] (z0g z1A):=⟨rfl,rfl,rfl,by decide+kernel,rfl,by decide+kernel,by decide+kernel⟩
def z9T (K:PySem.W.Frag):Sp:=fun vs H Q _=>∃(p:Addr) (s:List Int) (m:Nat),vs=[.ref p]∧H p=some (.lst (s.map V.int))∧Spt m s∧m≤50∧(∀n∈s,intBits n≤13000)∧
 ∀(r:Addr) (bs:List Addr) (H':Hp),H r=none→Same H H'→H' r=some (.tup (bs.map V.ref))→TsA H' bs (s.dropLast.map fun t=>y2n t (v s m))→Q (.ref r) H'
theorem z7r (T:Txt mg) (F:Fun K "point_of" "point_of" z1A f fd) (c_ratio:Cal P w K mg base 2 "ratio" ["top","bottom"] (z9R K)):FnOk P w K mg base CX0 3 f fd ["spot"] (z9T K):=by
 refine F.ok z7l (fun vs H Q E h=>?_) (fun cdv A outer s H vs Q E hr h=>?_)
 ·obtain⟨_,_,_,rfl,_⟩:=h;rfl
 obtain⟨p,sp,m,rfl,hp,hs,m50,sb,q⟩:=h
 refine⟨_,(z0h (z0A (z1v (z4I (K:=K) rfl) rfl T.tuple boot_tuple (z0a (z0N (Nc:=["top","spot"]) (fr:=[none,some 0]) rfl (z0D (K:=K) rfl (z1O (z2h (K:=K) rfl) (pv 0) z2w (z2v (z2Q z1x z0e)))) rfl (by decide) rfl (by decide) rfl ⟨rfl,trivial⟩ ⟨⟨rfl,rfl,rfl,rfl⟩,trivial⟩ (fun _ _ _ _=>(z0j (i:=0) (show List.Nodup (["top","spot"]:List Str) from by decide) rfl (Or.inl rfl))) (fun _ _ _ _=>z0Q) (fun _ _ _ _=>(z0s c_ratio hr rfl (z0a (pv 0) (z0a (z0K (z0r (K:=K) rfl) (pv 1) (z2Q z1x z0e) (fun _ _=>rfl)) z0d))))) z0d)))),?_⟩
 obtain⟨sl,spos⟩:=hs
 obtain⟨s',y,es⟩:∃a' x,sp=a'++[x]:=⟨sp.dropLast,sp.getLast (fun z=>by rw[z] at sl;simp at sl),(q0W _).symm⟩
 have s'l:s'.length=m:=by rw[es,q0m] at sl;simpa using sl
 have ey:y=v sp m:=by
  show y=sp.getD m 0
  rw[es,q0a,q0D (by lia),s'l,q1G];rfl
 have hp':H p=some (.lst (s'.map V.int++[V.int (v sp m)])):=by rw[hp,←ey,es,q0H];rfl
 have ed:sp.dropLast=s':=by rw[es,List.dropLast_concat]
 refine⟨_,rfl,_,rfl,_,rfl,p,_,rfl,SqL.of hp',fun z hz=>?_⟩
 rw[z4i]
 have g1:=z0f hz (.lst (s'.map V.int))
 have e1:upd H z (.lst (s'.map V.int)) z=some (.lst (s'.map V.int)):=z0c
 generalize upd H z (.lst (s'.map V.int))=H1 at*
 refine⟨z,rfl,⟨_,SqL.of e1⟩,fun D hD=>?_⟩
 refine z1H s' (by rw[q0b]) (z0v K z (s'.map V.int)) hD (fun n σ=>σ.set 0 (some (.int n))) (fun d e σ=>List.set_set ..) (fun _=>true) (fun H' n u=>∃q,u= .ref q∧H' q=some (.tup ((y2n n (v sp m)).map V.int))) ?_ (fun H' g'=>SqL.of (g' _ _ e1)) (z0k (by rw[q0b];lia)) ?_ ?_ ?_ ?_
 ·rintro H2 H3 d u k ⟨acc,hd⟩ ⟨q,e1,e2⟩
  exact⟨q,e1,k _ _ (fun z=>by rw[z,hd] at e2;cases e2) e2⟩
 ·intro i x d hx hd σ H2 g2 S h
  rw[q0k,hd] at hx
  cases hx
  exact h
 ·intro d hd Hc gc S h
  exact h _ (Same.refl _)
 ·intro d hd _ Hc gc _ S h
  refine⟨_,rfl,_,rfl,_,rfl,p,_,_,_,rfl,rfl,SqL.of (gc _ _ (g1 _ _ hp')),z3q _ _,d,v sp m,rfl,spos,sb d (by rw[es];exact q0C _ hd),z1d sb m,fun r H' hr g' e'=>h _ _ g' ⟨r,rfl,e'⟩⟩
 ·intro us H2 g2 hD2 he
  rw[z0E] at he
  obtain⟨bs,hbs⟩:∃bs:List Addr,us=bs.map V.ref:=by
   clear hD2 es s'l hp' ed e1
   induction he with
   |nil=>exact⟨[],rfl⟩
   |cons h1 _ ih=>
    obtain⟨p,rfl,_⟩:=h1
    obtain⟨bs,rfl⟩:=ih
    exact⟨p::bs,rfl⟩
  subst hbs
  have g02:=g1.trans g2
  refine⟨D,_,rfl,.inl ⟨SqL.of hD2,fun r hr=>?_⟩⟩
  have g3:=z0f hr (.tup (bs.map V.ref))
  refine q r bs _ (g02.free hr) (g02.trans g3) z0c ⟨?_,fun i a t ea et=>?_⟩
  ·have:=he.length
   rw[q0b] at this
   rw[ed,q0b,this]
  ·rw[ed,q0k] at et
   obtain⟨n,hn,rfl⟩:=q0A.mp et
   obtain⟨q2,hq2,h3⟩:=he.get hn (by rw[q0k,ea];rfl)
   cases hq2
   exact g3 _ _ h3
end
end L2
namespace L2
open PySem PySem.Spec PyProof.Rows
section
open Fr Wl Rk Pt Ld
open Builtin.Int (intBits)
variable {P:Program}{w:World}{K:PySem.W.Frag}{mg:Str→Option Value}{base:Heap}{f:Addr}{fd:FuncData}
structure LandD where
 a:Addr
 sg:List Int
 q:Addr
 sp:List Int
def LandAt (H:Hp) (d:LandD) (x:V):Prop:=∃p,x= .ref p∧H p=some (.tup [.ref d.a,.ref d.q])∧H d.a=some (.tup (d.sg.map V.int))∧H d.q=some (.lst (d.sp.map V.int))
theorem LandAt.same {H H':Hp}{d:LandD}{x:V} (h:LandAt H d x) (g:Same H H'):LandAt H' d x:=by
 obtain⟨p,e,h1,h2,h3⟩:=h
 exact⟨p,e,g _ _ h1,g _ _ h2,g _ _ h3⟩
theorem LandAt.put {H:Hp}{d:LandD}{x:V}{l:Addr}{o:HO}{ys:List V} (h:LandAt H d x) (hl:H l=some (.lst ys)) (hq:d.q≠l):LandAt (upd H l o) d x:=by
 obtain⟨p,e,h1,h2,h3⟩:=h
 exact⟨p,e,by rw[z0m fun z=>by rw[z,hl] at h1;cases h1];exact h1,by rw[z0m fun z=>by rw[z,hl] at h2;cases h2];exact h2,by rw[z0m hq];exact h3⟩
theorem Each.andL {α β:Type}{R:α→β→Prop}{Pp:α→Prop}{as:List α}{bs:List β} (h:Each R as bs) (hp:∀a∈as,Pp a):Each (fun a b=>R a b∧Pp a) as bs:=by
 induction h with
 |nil=>exact .nil
 |cons h1 _ ih=>exact .cons ⟨h1,hp _ List.mem_cons_self⟩ (ih fun a ha=>hp a (List.mem_cons_of_mem _ ha))
structure z3J (m b c:Nat) (ts:List (List Int)) (d:LandD):Prop where
 len:ts.length=d.sg.length
 sgn:Sgn d.sg
 win:Win m (bdL ts d.sg) d.sp
 bits:∀n∈d.sp,intBits n≤Sb m b c
theorem bd_Bd {m b c:Nat}{ts:List (List Int)}{sg:List Int} (h:∀t∈ts,Bd m b c t) (hs:Sgn sg):∀r∈bdL ts sg,Bd m b c r:=fun r hr=>by
 unfold bdL at hr
 obtain⟨i,hi,rfl⟩:=q0v.mp hr
 rw[List.getElem_zipWith]
 exact (h _ (q0y _)).turn (hs _ (q0y _))
abbrev z2F:Stmt:=top 22
theorem sc_parted:z0z ["ways","walls","found","numbers","more","signs","spot","bounds","sign","bound","within"] ["ways","walls","found","numbers"] (z0g z2F):=⟨rfl,rfl,rfl,by decide+kernel,rfl,by decide+kernel,by decide+kernel⟩
def z7R (K:PySem.W.Frag):Sp:=fun vs H Q _=>∃(m:Nat) (lw lf an:Addr) (as:List Addr) (ts:List (List Int)) (xs:List V) (ds:List LandD) (t:List Int) (b c:Nat),vs=[.int (m:Nat),.ref lw,.ref lf,.ref an]∧H lw=some (.lst (as.map V.ref))∧TsA H as ts∧H lf=some (.lst xs)∧Each (LandAt H) ds xs∧H an=some (.tup (t.map V.int))∧(∀u∈ts++[t],Bd m b c u)∧(∀d∈ds,z3J m b c ts d)∧z7v m b c=true∧m≤4∧ts.length≤20∧ds.length≤1000∧
 ∀(r:Addr) (xs':List V) (ds':List LandD) (H':Hp),H r=none→Same H H'→H' r=some (.lst xs')→Each (LandAt H') ds' xs'→(∀d∈ds',z3J m b c (ts++[t]) d)→ds'.map LandD.sg=(ds.map LandD.sg).flatMap (z1h m ts t)→Q (.ref r) H'
open Classical in
theorem y0x (T:Txt mg) (F:Fun K "parted" "parted" z2F f fd) (c_bounds_at:Cal P w K mg base 15 "bounds_at" ["walls","signs"] (z7U K)) (c_turned:Cal P w K mg base 15 "turned" ["numbers","sign"] (z3d K)) (c_height:Cal P w K mg base 15 "height" ["bound","spot"] (z2D K)) (c0:∀m,m≤4→Cal P w K mg base 15 "spot_across" ["ways","bounds","bound"] (z7g K (m+1))):FnOk P w K mg base CX0 16 f fd ["ways","walls","found","numbers"] (z7R K):=by
 refine F.ok sc_parted (fun vs H Q E h=>?_) (fun cdv A outer s H vs Q E hr h=>?_)
 ·obtain⟨_,_,_,_,_,_,_,_,_,_,_,rfl,_⟩:=h;rfl
 obtain⟨m,lw,lf,an,as,ts,xs,ds,t,b,c,rfl,hlw,hts,hlf,hE,han,hB,hG,hlim,m4,n20,d1000,q⟩:=h
 have c_spot_across:=c0 m m4
 refine⟨_,(z0b (z0n (i:=4) sc_parted.nd rfl (Or.inl rfl) (z0P z0d))
  (z0b (z1b PassesOwn.never rfl (z0D (K:=K) rfl (pv 2)) (z1m (K:=K) rfl 2 rfl (z0B (z0j (i:=5) sc_parted.nd rfl (Or.inl rfl)) (z0B (z0j (i:=6) sc_parted.nd rfl (Or.inl rfl)) z1l))) (z0b (z0n (i:=7) sc_parted.nd rfl (Or.inl rfl) (z0s c_bounds_at hr rfl (z0a (pv 1) (z0a (pv 5) z0d))))
  (z0h (z1b PassesOwn.never rfl (y0p (K:=K) rfl (z3N (z0a (z2Q z1x z0e) (z0a z0e z0d)))) (z0j (i:=8) sc_parted.nd rfl (Or.inl rfl)) (z0b (z0n (i:=9) sc_parted.nd rfl (Or.inl rfl) (z0s c_turned hr rfl (z0a (pv 3) (z0a (pv 8) z0d))))
  (z0b (z0n (i:=10) sc_parted.nd rfl (Or.inl rfl) (z8d (z0x z6y (z0s c_height hr rfl (z0a (pv 9) (z0a (pv 6) z0d))) z0e (z0F _)) (pv 6) (z0s c_spot_across hr rfl (z0a (pv 0) (z0a (pv 7) (z0a (pv 9) z0d))))))
  (z0h (z1c (z7W (y0r (pv 10))) (z0h (z2X (z9f PySem.F.plainAttrs_list PySem.F.slot_list_append PySem.F.type_list_append z1K (pv 4) (z0a (z3N (z0a (z0q (y2w (K:=K) rfl) (pv 5) (z3N (z0a (pv 8) z0d))) (z0a (pv 10) z0d))) z0d)))) z0C))))))))
  (z0h (z0A (pv 4))))),?_⟩
 obtain⟨b2,c2⟩:=y0R hlim
 have hS:=y2J hlim
 have hBt:=hB t (by simp)
 have hBs:∀u∈ts,Bd m b c u:=fun u hu=>hB u (q0C _ hu)
 have mx:max b c≤2000:=by lia
 refine z0o (fun σ H'=>∃r,H r=none∧σ=[some (.int (m:Nat)),some (.ref lw),some (.ref lf),some (.ref an),some (.ref r),none,none,none,none,none,none]∧Same H H'∧H' r=some (.lst [])) (fun N hN=>?_) ?_
 ·exact⟨q0S _,fun r hr=>hN _ _ ⟨r,hr,rfl,z0f hr _,z0c⟩⟩
 rintro σ H0 ⟨r,hr0,rfl,g0,e0⟩
 refine z0o (fun σ H'=>∃xs' ds' s5 s6 s7 s8 s9 s10,σ=[some (.int (m:Nat)),some (.ref lw),some (.ref lf),some (.ref an),some (.ref r),s5,s6,s7,s8,s9,s10]∧Same H H'∧H' r=some (.lst xs')∧Each (LandAt H') ds' xs'∧(∀d∈ds',z3J m b c (ts++[t]) d)∧ds'.map LandD.sg=(ds.map LandD.sg).flatMap (z1h m ts t)) (fun N hN=>?_) ?_
 ·refine⟨_,rfl,lf,rfl,⟨_,SqL.of (g0 _ _ hlf)⟩,?_⟩
  refine z0H (z0v K lf xs) (fun i σ H'=>∃xs' ds' s5 s6 s7 s8 s9 s10,σ=[some (.int (m:Nat)),some (.ref lw),some (.ref lf),some (.ref an),some (.ref r),s5,s6,s7,s8,s9,s10]∧Same H H'∧H' r=some (.lst xs')∧Each (LandAt H') ds' xs'∧(∀d∈ds',z3J m b c (ts++[t]) d∧d.q≠r)∧xs'.length≤2*i∧ds'.map LandD.sg=((ds.take i).map LandD.sg).flatMap (z1h m ts t))
   ⟨[],[],_,_,_,_,_,_,rfl,g0,e0,.nil,(fun d hd=>by cases hd),q0S _,rfl⟩ (fun i σ H' _ h=>by obtain⟨_,_,_,_,_,_,_,_,_,g,_⟩:=h;exact SqL.of (g _ _ hlf)) ?_ ?_
  ·clear g0 e0
   rintro i x σ H1 H2 hi ⟨xs',ds',s5,s6,s7,s8,s9,s10,rfl,g,er,hE',hG',hx',hsg⟩ ⟨rfl,hx⟩
   have hid:i<ds.length:=by rw[hE.length];exact hi
   have hdi:ds[i]? =some ds[i]:=q0c hid
   have hdm:ds[i]∈ds:=q0y hid
   have tk:ds.take (i+1)=ds.take i++[ds[i]]:=by rw[q0Q,hdi];rfl
   generalize ds[i]=d at hdi hdm tk
   obtain⟨p,rfl,h1,h2,h3⟩:=(hE.get hdi hx).same g
   have hd:=hG d hdm
   have hdq0:d.q≠r:=fun z=>by
        obtain⟨_,_,_,_,h3'⟩:=hE.get hdi hx
        rw[z,hr0] at h3';cases h3'
   refine⟨p,_,rfl,SqT.of h1,rfl,_,_,rfl,_,_,rfl,rfl,?_⟩
   have hBb:=bd_Bd hBs hd.sgn
   refine z0o (fun σ H'=>∃lb bs,σ=[some (.int (m:Nat)),some (.ref lw),some (.ref lf),some (.ref an),some (.ref r),some (.ref d.a),some (.ref d.q),some (.ref lb),s8,s9,s10]∧Same H2 H'∧H' lb=some (.lst (bs.map V.ref))∧LsA H' bs (bdL ts d.sg)∧lb≠r∧r∉bs) (fun N' hN'=>?_) ?_
   ·refine⟨_,rfl,_,rfl,lw,d.a,as,ts,d.sg,rfl,g _ _ hlw,hts.same g,h2,hd.len,hd.sgn,by lia,fun u hu=>⟨by rw[(hBs u hu).len];lia,fun n hn=>z0u ((hBs u hu).all n hn) (by lia)⟩,fun lb bs H3 hlb g3 elb hbs=>?_⟩
    refine hN' _ _ ⟨lb,bs,rfl,g3,elb,hbs,fun z=>(by rw[z,er] at hlb;cases hlb),fun z=>?_⟩
    obtain⟨k,hk⟩:=List.mem_iff_getElem?.mp z
    have hkl:k<(bdL ts d.sg).length :=by rw[←hbs.1];exact (q0E.mp hk).1
    have h4:=hbs.2 k r _ hk (q0c hkl)
    have hl1:=(hBb _ (q0y hkl)).len
    rw[g3 _ _ er] at h4
    generalize (bdL ts d.sg)[k]=row at h4 hl1
    cases row with
    |nil=>simp at hl1
    |cons n0 row=>
     have h5:xs'=(n0::row).map V.int:=by injection h4 with z;injection z
     rw[h5] at hE'
     cases hE' with
     |cons h6 _=>
      obtain⟨_,h7,_⟩:=h6
      cases h7
   rintro σ H3 ⟨lb,bs,rfl,g3,elb,hbs,lbr,hrb⟩
   have gH3:=g.trans g3
   have er3:=g3 _ _ er
   have hE3:=hE'.imp fun _ _ h=>LandAt.same h g3
   clear h1 h2 h3 er hE' g g3
   refine⟨_,rfl,z0k (by show 2≤_;decide),fun z hz=>?_⟩
   have zr:z≠r:=fun e=>by rw[e,er3] at hz;cases hz
   have g4:=z0f hz (.tup [V.int (-1),V.int 1])
   have e4:upd H3 z (.tup [V.int (-1),V.int 1]) z=some (.tup [V.int (-1),V.int 1]):=z0c
   generalize upd H3 z (.tup [V.int (-1),V.int 1])=H4 at*
   refine⟨z,rfl,⟨_,SqT.of e4⟩,?_⟩
   refine z0H (z5y K z [V.int (-1),V.int 1]) (fun j σ H'=>∃xs' ds' s8 s9 s10,σ=[some (.int (m:Nat)),some (.ref lw),some (.ref lf),some (.ref an),some (.ref r),some (.ref d.a),some (.ref d.q),some (.ref lb),s8,s9,s10]∧Same H H'∧H' lb=some (.lst (bs.map V.ref))∧LsA H' bs (bdL ts d.sg)∧H' z=some (.tup [V.int (-1),V.int 1])∧H' r=some (.lst xs')∧Each (LandAt H') ds' xs'∧(∀d∈ds',z3J m b c (ts++[t]) d∧d.q≠r)∧xs'.length≤2*i+j∧ds'.map LandD.sg=((ds.take i).map LandD.sg).flatMap (z1h m ts t)++([d.sg++[-1],d.sg++[1]].take j).filter fun s'=>decide (z6W m (ts++[t]) s'))
        ⟨xs',ds',_,_,_,rfl,gH3.trans g4,g4 _ _ elb,hbs.same g4,e4,g4 _ _ er3,hE3.imp fun _ _ h=>LandAt.same h g4,hG',by lia,by rw[hsg];simp⟩ (fun j σ H' _ h=>let ⟨_,_,_,_,_,_,_,_,_,e,_⟩:=h;SqT.of e) ?_ ?_
   ·clear hE3 er3 hbs elb gH3 e4 g4 hsg hx' hG'
    rintro j x σ H5 H5' hj ⟨xs',ds',s8,s9,s10,rfl,g,elb,hbs,e4,er,hE',hG',hx',hsg⟩ ⟨rfl,hx⟩
    obtain⟨sg,rfl,hsgn,tk2⟩:∃sg:Int,x= .int sg∧(sg=1∨sg= -1)∧[d.sg++[-1],d.sg++[1]].take (j+1)=[d.sg++[-1],d.sg++[1]].take j++[d.sg++[sg]]:=by
     have hj2:j<2:=hj
     rcases (by lia:j=0∨j=1) with rfl|rfl
     ·exact⟨-1,(Option.some.inj hx).symm,.inr rfl,rfl⟩
     ·exact⟨1,(Option.some.inj hx).symm,.inl rfl,rfl⟩
    have hlj:j<2:=hj
    have hRe:z6W m (ts++[t]) (d.sg++[sg])↔Pw m (bdL ts d.sg++[z0I sg t]):=by unfold z6W;rw[z3c hd.len]
    have hBx:=hBt.turn hsgn
    have hda:H5' d.a=some (.tup (d.sg.map V.int)):=by
     obtain⟨_,_,_,h2,_⟩:=hE.get hdi ‹xs[i]? =some _›
     exact g _ _ h2
    have hdq:H5' d.q=some (.lst (d.sp.map V.int)):=by
     obtain⟨_,_,_,_,h3⟩:=hE.get hdi ‹xs[i]? =some _›
     exact g _ _ h3
    refine z0o (fun σ H'=>∃ab,σ=[some (.int (m:Nat)),some (.ref lw),some (.ref lf),some (.ref an),some (.ref r),some (.ref d.a),some (.ref d.q),some (.ref lb),some (.int sg),some (.ref ab),s10]∧Same H5' H'∧H' ab=some (.lst ((z0I sg t).map V.int))) (fun N' hN'=>?_) ?_
    ·exact⟨_,rfl,_,rfl,an,t,sg,rfl,.inr (SqT.of (g _ _ han)),by rw[hBt.len];lia,hsgn,fun n hn=>z0u (hBt.all n hn) (by lia),fun ab H' hab g' e'=>hN' _ _ ⟨ab,rfl,g',e'⟩⟩
    rintro σ H6 ⟨ab,rfl,g6,eab⟩
    refine z0o (fun σ H'=>Same H6 H'∧((∃q5 sp5,σ=[some (.int (m:Nat)),some (.ref lw),some (.ref lf),some (.ref an),some (.ref r),some (.ref d.a),some (.ref d.q),some (.ref lb),some (.int sg),some (.ref ab),some (.ref q5)]∧H' q5=some (.lst (sp5.map V.int))∧q5≠r∧Win m (bdL ts d.sg++[z0I sg t]) sp5∧∀n∈sp5,intBits n≤Sb m b c)∨(σ=[some (.int (m:Nat)),some (.ref lw),some (.ref lf),some (.ref an),some (.ref r),some (.ref d.a),some (.ref d.q),some (.ref lb),some (.int sg),some (.ref ab),some .non]∧¬Pw m (bdL ts d.sg++[z0I sg t])))) (fun N' hN'=>?_) ?_
    ·refine⟨_,rfl,_,rfl,ab,d.q,z0I sg t,d.sp,m,rfl,eab,g6 _ _ hdq,hBx.len,hd.win.1.1,by lia,fun n hn=>z0u (hBx.all n hn) (by lia),fun n hn=>z0u (hd.bits n hn) (by lia),fun H7 g7=>?_⟩
     refine⟨_,_,rfl,rfl,_,rfl,?_⟩
     refine z5g (fun cc=>?_) (fun cc=>?_)
     ·have hpos:0<hg m (v (z0I sg t)) (v d.sp):=of_decide_eq_true cc
      refine⟨_,rfl,?_⟩
      refine hN' _ _ ⟨g7,.inl ⟨d.q,d.sp,rfl,(g6.trans g7) _ _ hdq,hdq0,⟨hd.win.1,fun b' hb'=>?_⟩,hd.bits⟩⟩
      rcases q0s.mp hb' with h|h
      ·exact hd.win.2 b' h
      ·rw[q0g.mp h];exact hpos
     ·have hle:hg m (v (z0I sg t)) (v d.sp)≤0:=by
          have:¬0<hg m (v (z0I sg t)) (v d.sp):=fun z=>cc (decide_eq_true z)
          lia
      have g67:=g6.trans g7
      refine⟨_,rfl,_,rfl,_,rfl,m,lb,ab,bs,bdL ts d.sg,z0I sg t,d.sp,b,c,rfl,rfl,g67 _ _ elb,hbs.same g67,g7 _ _ eab,hBb,hBx,hlim,by lia,by unfold bdL;rw[List.length_zipWith];lia,hd.win,hle,fun r5 sp5 H8 hr5 g8 er5 hW5 hb5=>?_,fun H8 g8 hno=>?_⟩
      ·exact hN' _ _ ⟨g7.trans g8,.inl ⟨r5,sp5,rfl,er5,fun z=>(by rw[z,g67 _ _ er] at hr5;cases hr5),hW5,hb5⟩⟩
      ·exact hN' _ _ ⟨g7.trans g8,.inr ⟨rfl,hno⟩⟩
    rintro σ H7 ⟨g7,⟨q5,sp5,rfl,eq5,q5r,hW5,hb5⟩|⟨rfl,hno⟩⟩
    ·have g57:=g6.trans g7
     refine⟨_,rfl,_,rfl,?_⟩
     refine z7x ?_
     refine⟨_,rfl,.inl ⟨rfl,_,SqL.of (g57 _ _ er)⟩,_,rfl,_,rfl,z0k (by show 1≤_;decide),fun z1 hz1=>?_⟩
     have g8:=z0f hz1 (.tup [V.int sg])
     have e8:upd H7 z1 (.tup [V.int sg]) z1=some (.tup [V.int sg]):=z0c
     generalize upd H7 z1 (.tup [V.int sg])=H8 at*
     have g58:=g57.trans g8
     refine⟨d.a,z1,_,_,rfl,rfl,SqT.of (g58 _ _ hda),e8,by simp,z0k (by rw[q0b,←hd.len];show _+1≤_;lia),fun p9 H9 g9 e9=>?_⟩
     have e9':H9 p9=some (.tup ((d.sg++[sg]).map V.int)):=by rw[e9,q0H];rfl
     refine⟨_,rfl,z0k (by show 2≤_;decide),fun pA hpA=>?_⟩
     have gA:=z0f hpA (.tup [V.ref p9,V.ref q5])
     have eA:upd H9 pA (.tup [V.ref p9,V.ref q5]) pA=some (.tup [V.ref p9,V.ref q5]):=z0c
     generalize upd H9 pA (.tup [V.ref p9,V.ref q5])=HA at*
     have g5A:=g58.trans (g9.trans gA)
     have erA:=g5A _ _ er
     refine⟨r,_,_,rfl,rfl,erA,z3I (by lia),?_⟩
     have hnew:LandAt HA ⟨p9,d.sg++[sg],q5,sp5⟩ (.ref pA):=⟨pA,rfl,eA,gA _ _ e9',(g8.trans (g9.trans gA)) _ _ eq5⟩
     refine⟨xs'++[.ref pA],ds'++[⟨p9,d.sg++[sg],q5,sp5⟩],_,_,_,rfl,fun b' o e=>by rw[z0m (z0i e hr0)];exact (g.trans g5A) _ _ e,by rw[z0m lbr];exact g5A _ _ elb,⟨hbs.1,fun k a' t' e1 e2=>by
         have ne:a'≠r:=fun z=>hrb (by rw[←z];exact q0u e1)
         rw[z0m ne];exact g5A _ _ (hbs.2 k a' t' e1 e2)⟩,by rw[z0m zr];exact g5A _ _ e4,z0c,?_,fun d' hd'=>?_,by rw[q0m,q1m];lia,?_⟩
     ·refine Each.snoc ?_ (hnew.put erA q5r)
      have hE5:Each (fun d' x=>LandAt HA d' x∧d'.q≠r) ds' xs':=Each.andL (hE'.imp fun _ _ h=>LandAt.same h g5A) fun d' hd'=>(hG' d' hd').2
      exact hE5.imp fun _ _ h=>h.1.put erA h.2
     ·rcases q0s.mp hd' with h|h
      ·exact hG' d' h
      ·rw[q0g.mp h]
       refine⟨⟨by rw[q0m,q0m,hd.len];rfl,fun y hy=>?_,?_,hb5⟩,q5r⟩
       ·rcases q0s.mp hy with h|h
        ·exact hd.sgn y h
        ·rw[q0g.mp h];exact hsgn
       ·show Win m (bdL (ts++[t]) (d.sg++[sg])) sp5
        rw[z3c hd.len];exact hW5
     ·rw[q0H,hsg,tk2,q1c,q0O (by rw[decide_eq_true_eq,hRe];exact⟨sp5,hW5⟩),List.filter_nil,q1B]
      rfl
    ·have g57:=g6.trans g7
     refine⟨_,rfl,_,rfl,?_⟩
     refine z3r ?_
     refine⟨xs',ds',_,_,_,rfl,g.trans g57,g57 _ _ elb,hbs.same g57,g57 _ _ e4,g57 _ _ er,hE'.imp fun _ _ h=>LandAt.same h g57,hG',by lia,?_⟩
     rw[tk2,q1c,q0U (by rw[decide_eq_true_eq,hRe];exact hno),List.filter_nil,q1N]
     exact hsg
   ·rintro σ H5 ⟨xs',ds',s8,s9,s10,rfl,g,_,_,_,er,hE',hG',hx',hsg⟩
    refine⟨xs',ds',_,_,_,_,_,_,rfl,g,er,hE',hG',by simp at hx';lia,?_⟩
    rw[hsg,tk,q0H,List.flatMap_append]
    congr 1
    show _=([d.sg]:List (List Int)).flatMap (z1h m ts t)
    rw[List.flatMap_cons,List.flatMap_nil,q1N]
    rfl
  ·rintro σ H1 ⟨xs',ds',s5,s6,s7,s8,s9,s10,rfl,g,er,hE',hG',_,hsg⟩
   rw[←hE.length,q0R] at hsg
   exact hN _ _ ⟨xs',ds',_,_,_,_,_,_,rfl,g,er,hE',fun d hd=>(hG' d hd).1,hsg⟩
 clear g0 e0
 rintro σ H1 ⟨xs',ds',s5,s6,s7,s8,s9,s10,rfl,g,er,hE',hG',hsg⟩
 exact⟨_,rfl,q r xs' ds' H1 hr0 g er hE' hG' hsg⟩
end
end L2
namespace L2
open PySem PySem.Spec PyProof.Rows
section
open Fr Wl Rk Pt Ld
open Builtin.Int (intBits)
variable {P:Program}{w:World}{K:PySem.W.Frag}{mg:Str→Option Value}{base:Heap}{f:Addr}{fd:FuncData}
abbrev z1i:Stmt:=top 23
theorem sc_land_spots:z0z ["ways","walls","found","place","numbers"] ["ways","walls"] (z0g z1i):=⟨rfl,rfl,rfl,by decide+kernel,rfl,by decide+kernel,by decide+kernel⟩
def z9Q (K:PySem.W.Frag):Sp:=fun vs H Q _=>∃(m:Nat) (lw:Addr) (as:List Addr) (ts:List (List Int)) (b c:Nat),vs=[.int (m:Nat),.ref lw]∧H lw=some (.lst (as.map V.ref))∧TsA H as ts∧(∀u∈ts,Bd m b c u)∧z7v m b c=true∧m≤4∧ts.length≤8∧
 ∀(r:Addr) (xs:List V) (ds:List LandD) (H':Hp),H r=none→Same H H'→H' r=some (.lst xs)→Each (LandAt H') ds xs→(∀d∈ds,z3J m b c ts d)→ds.map LandD.sg=sgN m ts ts.length→Q (.ref r) H'
theorem z5F (T:Txt mg) (F:Fun K "land_spots" "land_spots" z1i f fd) (c_parted:Cal P w K mg base 16 "parted" ["ways","walls","found","numbers"] (z7R K)):FnOk P w K mg base CX0 17 f fd ["ways","walls"] (z9Q K):=by
 refine F.ok sc_land_spots (fun vs H Q E h=>?_) (fun cdv A outer s H vs Q E hr h=>?_)
 ·obtain⟨_,_,_,_,_,_,rfl,_⟩:=h;rfl
 obtain⟨m,lw,as,ts,b,c,rfl,hlw,hts,hB,hlim,m4,n8,q⟩:=h
 refine⟨_,(z0b (z0n (i:=2) sc_land_spots.nd rfl (Or.inl rfl) (z0P (z0a (z3N (z0a (z3N z0d) (z0a (z0q z4y (z0q z8g (z0P (z0a z0e z0d)) (pv 0)) (z0P (z0a z0e z0d))) z0d))) z0d)))
  (z0b (z1b PassesOwn.never rfl (z8a (K:=K) rfl rfl T.enumerate (z0a (pv 1) z0d)) (z1m (K:=K) rfl 2 rfl (z0B (z0j (i:=3) sc_land_spots.nd rfl (Or.inl rfl)) (z0B (z0j (i:=4) sc_land_spots.nd rfl (Or.inl rfl)) z1l))) (z0h (z0n (i:=2) sc_land_spots.nd rfl (Or.inl rfl) (z0s c_parted hr rfl (z0a (pv 0) (z0a (z1O (z2h (K:=K) rfl) (pv 1) z2w (z2v (pv 3))) (z0a (pv 2) (z0a (pv 4) z0d))))))))
  (z0h (z0A (pv 2))))),?_⟩
 refine z0o (fun σ H'=>∃r xs ds,H r=none∧σ=[some (.int (m:Nat)),some (.ref lw),some (.ref r),none,none]∧Same H H'∧H' r=some (.lst xs)∧Each (LandAt H') ds xs∧(∀d∈ds,z3J m b c [] d)∧ds.map LandD.sg=[[]]) (fun N hN=>?_) ?_
 ·refine⟨z0k (by show 0≤_;decide),fun zt hzt=>?_⟩
  have gt:=z0f hzt (.tup [])
  have et:upd H zt (.tup []) zt=some (.tup (([]:List Int).map V.int)):=z0c
  generalize upd H zt (.tup [])=Ht at*
  refine⟨z0k (by show 1≤_;decide),fun z hz=>?_⟩
  have g0:=z0f hz (.lst [V.int 0])
  have e0:upd Ht z (.lst [V.int 0]) z=some (.lst [V.int 0]):=z0c
  generalize upd Ht z (.lst [V.int 0])=H0 at*
  refine⟨_,rfl,z,_,_,rfl,rfl,e0,by lia,by lia,z0k (by rw[q0G];show 1*m≤_;lia),fun z1 hz1=>?_⟩
  rw[q0G,z4Q]
  have g1:=z0f hz1 (.lst ((List.replicate m (0:Int)).map V.int))
  have e1:upd H0 z1 (.lst ((List.replicate m (0:Int)).map V.int)) z1=some (.lst ((List.replicate m (0:Int)).map V.int)):=z0c
  generalize upd H0 z1 (.lst ((List.replicate m (0:Int)).map V.int))=H1 at*
  refine⟨z0k (by show 1≤_;decide),fun z2 hz2=>?_⟩
  have g2:=z0f hz2 (.lst [V.int 1])
  have e2:upd H1 z2 (.lst [V.int 1]) z2=some (.lst [V.int 1]):=z0c
  generalize upd H1 z2 (.lst [V.int 1])=H2 at*
  refine⟨z1,z2,_,_,rfl,rfl,g2 _ _ e1,e2,z0k (by rw[q0b,q1H];show m+1≤_;lia),fun z3 hz3=>?_⟩
  have ez:(List.replicate m (0:Int)).map V.int++[V.int 1]=(z2P m).map V.int:=by unfold z2P;rw[List.map_append];rfl
  rw[ez]
  have g3:=z0f hz3 (.lst ((z2P m).map V.int))
  have e3:upd H2 z3 (.lst ((z2P m).map V.int)) z3=some (.lst ((z2P m).map V.int)):=z0c
  generalize upd H2 z3 (.lst ((z2P m).map V.int))=H3 at*
  refine⟨z0k (by show 2≤_;decide),fun z4 hz4=>?_⟩
  have g4:=z0f hz4 (.tup [V.ref zt,V.ref z3])
  have e4:upd H3 z4 (.tup [V.ref zt,V.ref z3]) z4=some (.tup [V.ref zt,V.ref z3]):=z0c
  generalize upd H3 z4 (.tup [V.ref zt,V.ref z3])=H4 at*
  refine⟨z0k (by show 1≤_;decide),fun z5 hz5=>?_⟩
  have g5:=z0f hz5 (.lst [V.ref z4])
  have g04:Same H H4:=gt.trans (g0.trans (g1.trans (g2.trans (g3.trans g4))))
  refine hN _ _ ⟨z5,[V.ref z4],[⟨zt,[],z3,z2P m⟩],g04.free hz5,rfl,g04.trans g5,z0c,.cons ⟨z4,rfl,g5 _ _ e4,(g0.trans (g1.trans (g2.trans (g3.trans (g4.trans g5))))) _ _ et,(g4.trans g5) _ _ e3⟩ .nil,fun d hd=>?_,rfl⟩
  rw[q0g.mp hd]
  exact⟨rfl,(fun x hx=>by cases hx),⟨z6b m,fun b' hb'=>by unfold bdL at hb';simp at hb'⟩,fun n hn=>z0u (z4R m n hn) (y3U _ _ _)⟩
 rintro σ H0 ⟨r0,xs0,ds0,hr0,rfl,g0,e0,hE0,hG0,hs0⟩
 refine z0o (fun σ H'=>∃r xs ds s3 s4,H r=none∧σ=[some (.int (m:Nat)),some (.ref lw),some (.ref r),s3,s4]∧Same H H'∧H' r=some (.lst xs)∧Each (LandAt H') ds xs∧(∀d∈ds,z3J m b c ts d)∧ds.map LandD.sg=sgN m ts ts.length) (fun N hN=>?_) ?_
 ·refine⟨_,rfl,lw,_,rfl,g0 _ _ hlw,?_⟩
  refine z0H (z6r K lw (as.map V.ref)) (fun i σ H'=>∃r xs ds s3 s4,H r=none∧σ=[some (.int (m:Nat)),some (.ref lw),some (.ref r),s3,s4]∧Same H H'∧H' r=some (.lst xs)∧Each (LandAt H') ds xs∧(∀d∈ds,z3J m b c (ts.take i) d)∧ds.map LandD.sg=sgN m ts i)
   ⟨r0,xs0,ds0,_,_,hr0,rfl,g0,e0,hE0,hG0,hs0⟩ (fun i σ H' _ h=>by obtain⟨_,_,_,_,_,_,_,g,_⟩:=h;exact SqL.of (g _ _ hlw)) ?_ ?_
  ·clear e0 g0 hr0 hE0 hG0 hs0
   rintro i x σ H1 H2 hi ⟨r,xs,ds,s3,s4,hr1,rfl,g,er,hE,hG,hsg⟩ ⟨pr,vv,rfl,hpr,hvv,rfl⟩
   rw[q0b,hts.1] at hi
   rw[q0k] at hvv
   obtain⟨a,ha,rfl⟩:=q0A.mp hvv
   have et:ts[i]? =some (ts.getD i []):=by rw[q0a,q0c hi];rfl
   have tk:ts.take (i+1)=ts.take i++[ts.getD i []]:=by rw[q0Q,et];rfl
   have esg:sgN m ts (i+1)=(sgN m ts i).flatMap (z1h m (ts.take i) (ts.getD i [])):=rfl
   generalize ts.getD i []=t at et tk esg
   have g2:=z0f hpr (.tup [.int i,.ref a])
   have ep:upd H1 pr (.tup [.int i,.ref a]) pr=some (.tup [.int i,.ref a]):=z0c
   generalize upd H1 pr (.tup [.int i,.ref a])=H2 at*
   have gg2:=g.trans g2
   refine⟨pr,_,rfl,SqT.of ep,rfl,_,_,rfl,_,_,rfl,rfl,?_⟩
   refine⟨_,rfl,_,rfl,_,rfl,_,rfl,lw,_,rfl,SqL.of (gg2 _ _ hlw),fun p1 hp1=>?_⟩
   rw[z8J (by lia) (by rw[q0b,hts.1];lia),q0G,←List.map_take]
   have g4:=z0f hp1 (.lst ((as.take i).map V.ref))
   have e4:upd H2 p1 (.lst ((as.take i).map V.ref)) p1=some (.lst ((as.take i).map V.ref)):=z0c
   generalize upd H2 p1 (.lst ((as.take i).map V.ref))=H4 at*
   have gg4:=gg2.trans g4
   have g24:=g2.trans g4
   have hts4:TsA H4 (as.take i) (ts.take i):=⟨by rw[q0n,q0n,hts.1],fun j a' t' e1 e2=>by
        have hj:j<i:=by
         have:=(q0E.mp e2).1
         rw[q0n] at this;lia
        rw[q1K hj] at e1 e2
        exact gg4 _ _ (hts.2 j a' t' e1 e2)⟩
   have dl:ds.length≤1000:=by
        have h1:=z7k m ts i
        rw[←hsg,q0b] at h1
        exact q0o h1 (q0o (q1x (by decide) (show i≤8 by lia)) (by decide))
   refine⟨_,rfl,_,rfl,m,p1,r,a,as.take i,ts.take i,xs,ds,t,b,c,rfl,e4,hts4,g24 _ _ er,hE.imp fun _ _ h=>LandAt.same h g24,gg4 _ _ (hts.2 i a t ha et),fun u hu=>?_,hG,hlim,m4,by rw[q0n];lia,dl,fun r5 xs5 ds5 H5 hr5 g5 er5 hE5 hG5 hs5=>?_⟩
   ·rw[←tk] at hu;exact hB u (List.mem_of_mem_take hu)
   ·refine⟨r5,xs5,ds5,_,_,gg4.free hr5,rfl,gg4.trans g5,er5,hE5,by rw[tk];exact hG5,?_⟩
    rw[hs5,hsg,esg]
  ·rintro σ H1 ⟨r,xs,ds,s3,s4,hr1,rfl,g,er,hE,hG,hsg⟩
   rw[q0b,hts.1] at hG hsg
   rw[q0R] at hG
   exact hN _ _ ⟨r,xs,ds,_,_,hr1,rfl,g,er,hE,hG,hsg⟩
 clear e0 g0 hr0 hE0 hG0 hs0
 rintro σ H1 ⟨r,xs,ds,s3,s4,hr1,rfl,g,er,hE,hG,hsg⟩
 exact⟨_,rfl,q r xs ds H1 hr1 g er hE hG hsg⟩
def LandPt (H:Hp) (m:Nat) (d:LandD) (x:V):Prop:=∃p pp bs,x= .ref p∧H p=some (.tup [.ref d.a,.ref pp])∧H d.a=some (.tup (d.sg.map V.int))∧H pp=some (.tup (bs.map V.ref))∧TsA H bs (d.sp.dropLast.map fun t=>y2n t (v d.sp m))
theorem LandPt.same {H H':Hp}{m:Nat}{d:LandD}{x:V} (h:LandPt H m d x) (g:Same H H'):LandPt H' m d x:=by
 obtain⟨p,pp,bs,e,h1,h2,h3,h4⟩:=h
 exact⟨p,pp,bs,e,g _ _ h1,g _ _ h2,g _ _ h3,h4.same g⟩
abbrev z3x:Stmt:=top 25
theorem y2h:z0z ["ways","walls"] ["ways","walls"] (z0g z3x):=⟨rfl,rfl,rfl,by decide+kernel,rfl,by decide+kernel,by decide+kernel⟩
def z9V (K:PySem.W.Frag):Sp:=fun vs H Q _=>∃(m:Nat) (lw:Addr) (as:List Addr) (ts:List (List Int)) (b c:Nat),vs=[.int (m:Nat),.ref lw]∧H lw=some (.lst (as.map V.ref))∧TsA H as ts∧(∀u∈ts,Bd m b c u)∧z7v m b c=true∧m≤4∧ts.length≤8∧
 ∀(r:Addr) (xs:List V) (ds:List LandD) (H':Hp),H r=none→Same H H'→H' r=some (.lst xs)→Each (LandPt H' m) ds xs→(∀d∈ds,z3J m b c ts d)→ds.map LandD.sg=sgN m ts ts.length→Q (.ref r) H'
theorem y2y (T:Txt mg) (F:Fun K "lands" "lands" z3x f fd) (c_land_spots:Cal P w K mg base 17 "land_spots" ["ways","walls"] (z9Q K)) (c_point_of:Cal P w K mg base 17 "point_of" ["spot"] (z9T K)):FnOk P w K mg base CX0 18 f fd ["ways","walls"] (z9V K):=by
 refine F.ok y2h (fun vs H Q E h=>?_) (fun cdv A outer s H vs Q E hr h=>?_)
 ·obtain⟨_,_,_,_,_,_,rfl,_⟩:=h;rfl
 obtain⟨m,lw,as,ts,b,c,rfl,hlw,hts,hB,hlim,m4,n8,q⟩:=h
 refine⟨_,(z0h (z0A (z0N (Nc:=["signs","spot"]) (fr:=[none,none]) rfl (z0D (K:=K) rfl (z0s c_land_spots hr rfl (z0a (pv 0) (z0a (pv 1) z0d)))) rfl (by decide) rfl (by decide) rfl trivial trivial (fun _ _ _ _=>(z1m (K:=K) rfl 2 rfl (z0B (z0j (i:=0) (show List.Nodup (["signs","spot"]:List Str) from by decide) rfl (Or.inl rfl)) (z0B (z0j (i:=1) (show List.Nodup (["signs","spot"]:List Str) from by decide) rfl (Or.inl rfl)) z1l)))) (fun _ _ _ _=>z0Q) (fun _ _ _ _=>(z3N (z0a (pv 0) (z0a (z0s c_point_of hr rfl (z0a (pv 1) z0d)) z0d))))))),?_⟩
 refine⟨_,rfl,_,rfl,m,lw,as,ts,b,c,rfl,hlw,hts,hB,hlim,m4,n8,fun r xs ds H1 hr1 g1 er hE hG hsg=>?_⟩
 have hS:=y2J hlim
 have dl:ds.length≤1000:=by
  have h1:=z7k m ts ts.length
  rw[←hsg,q0b] at h1
  exact q0o h1 (q0o (q1x (by decide) n8) (by decide))
 refine⟨r,rfl,⟨_,SqL.of er⟩,fun D hD=>?_⟩
 refine z1H ds hE.length.symm (z0v K r xs) hD (fun d σ=>(σ.set 0 (some (.ref d.a))).set 1 (some (.ref d.q))) (fun d e σ=>z6p _ _ _ _ _) (fun _=>true) (fun H' d u=>LandPt H' m d u) ?_ (fun H' g'=>SqL.of (g' _ _ er)) (z0k (by rw[←hE.length];lia)) ?_ ?_ ?_ ?_
 ·rintro H2 H3 d u k ⟨acc,hd⟩ ⟨p,pp,bs,e,h1,h2,h3,h4⟩
  exact⟨p,pp,bs,e,k _ _ (fun z=>by rw[z,hd] at h1;cases h1) h1,k _ _ (fun z=>by rw[z,hd] at h2;cases h2) h2,k _ _ (fun z=>by rw[z,hd] at h3;cases h3) h3,h4.1,fun i a t ea et=>k _ _ (fun z=>by have:=h4.2 i a t ea et;rw[z,hd] at this;cases this) (h4.2 i a t ea et)⟩
 ·intro i x d hx hd σ H2 g2 S h
  obtain⟨p,rfl,h1,_⟩:=(hE.get hd hx).same g2
  exact⟨p,_,rfl,SqT.of h1,rfl,_,_,rfl,_,_,rfl,rfl,h⟩
 ·intro d hd Hc gc S h
  exact h _ (Same.refl _)
 ·intro d hd _ Hc gc _ S h
  obtain⟨x,hx⟩:∃x,LandAt H1 d x:=by
   obtain⟨i,hi,e⟩:=q0v.mp hd
   have hi2:i<xs.length:=by rw[←hE.length];exact hi
   exact⟨xs[i],hE.get (by rw[q0c hi,e]) (q0c hi2)⟩
  obtain⟨p,rfl,h1,h2,h3⟩:=hx.same gc
  have gd:=hG d hd
  refine⟨_,rfl,_,rfl,d.q,d.sp,m,rfl,h3,gd.win.1,by lia,fun n hn=>z0u (gd.bits n hn) (by lia),fun pp bs H2 hpp g2 epp hbs=>?_⟩
  refine⟨z0k (by show 2≤_;decide),fun z hz=>?_⟩
  have g3:=z0f hz (.tup [V.ref d.a,V.ref pp])
  exact h _ _ (g2.trans g3) ⟨z,pp,bs,rfl,z0c,(g2.trans g3) _ _ h2,g3 _ _ epp,hbs.same g3⟩
 ·intro us H2 g2 hD2 he
  rw[z0E] at he
  exact q D us ds H2 (g1.free hD) (g1.trans g2) hD2 he hG hsg
end
end L2
namespace L2
open PySem PySem.Spec PyProof.Rows
section
open Fr Wl Rk Pt Ld
open Builtin.Int (intBits)
variable {P:Program}{w:World}{K:PySem.W.Frag}{mg:Str→Option Value}{base:Heap}{f:Addr}{fd:FuncData}
theorem z3k:∀(n:Nat),∀t∈z1n n,∀p∈t,0≤p∧p<(n:Nat)
 |0,t,ht,p,hp=>by
  rw[q0g.mp ht] at hp
  cases hp
 |n+1,t,ht,p,hp=>by
  rcases q0s.mp ht with ht|ht
  ·have:=z3k n t ht p hp
   lia
  ·obtain⟨u,hu,rfl⟩:=q0f.mp ht
   rcases q0s.mp hp with hp|hp
   ·have:=z3k n u hu p hp
    lia
   ·rw[q0g.mp hp];lia
theorem z3a:∀(n:Nat),∀t∈z1n n,t.Nodup
 |0,t,ht=>by rw[List.mem_singleton.mp ht];exact .nil
 |n+1,t,ht=>by
  rcases q0s.mp ht with ht|ht
  ·exact z3a n t ht
  ·obtain⟨u,hu,rfl⟩:=q0f.mp ht
   refine q1A.mpr ⟨z3a n u hu,by simp,fun a ha b hb e=>?_⟩
   have:=z3k n u hu a ha
   rw[q0g.mp hb] at e
   lia
def pick (ts:List (List Int)) (lot:List Int):List (List Int):=lot.map fun p=>ts.getD p.toNat []
def sgL (lot:List Int):Int:=1 - 2*((lot.length:Int)%2)
theorem z3t {α:Type} (f:α→Int):∀(a b:List α),z2g f (a++b)=z2g f a+z2g f b
 |[],b=>by rw[List.nil_append,z2g];lia
 |x::a,b=>by rw[List.cons_append,z2g,z2g,z3t f a b];lia
theorem z6i {α β:Type} (f:β→Int) (g:α→β):∀(a:List α),z2g f (a.map g)=z2g (fun x=>f (g x)) a
 |[]=>rfl
 |x::a=>by rw[List.map_cons,z2g,z2g,z6i f g a]
theorem z6h {α:Type}{f g:α→Int}:∀(a:List α),(∀x∈a,f x= -g x)→z2g f a= -z2g g a
 |[],_=>rfl
 |x::a,h=>by rw[z2g,z2g,h x List.mem_cons_self,z6h a fun y hy=>h y (List.mem_cons_of_mem _ hy)];lia
theorem z5I {m k:Nat} (ts:List (List Int)):∀n,n≤ts.length→∀L,z2g (fun lot=>sgL lot*gS m (pick ts lot++L) k) (z1n n)=pS m L (ts.take n) k
 |0,_,L=>by
  rw[List.take_zero,pS]
  show 1*gS m L k+0=_
  lia
 |n+1,hn,L=>by
  have et:ts[n]? =some ts[n]:=q0c (by lia)
  have tk:ts.take (n+1)=ts.take n++[ts[n]]:=by rw[q0Q,et];rfl
  have ed:ts.getD n []=ts[n]:=by rw[q0a,et];rfl
  rw[z1n,z3t,z5I ts n (by lia) L,z6i,z6h (g:=fun lot=>sgL lot*gS m (pick ts lot++(ts[n]::L)) k) _ fun lot _=>?_,z5I ts n (by lia) (ts[n]::L),tk,z5A (List.perm_append_singleton _ _),pS]
  ·lia
  ·have e1:sgL (lot++[((n:Nat):Int)])= -sgL lot:=by
    unfold sgL
    rw[q0m]
    show 1 - 2*(((lot.length+1:Nat):Int)%2)=_
    lia
   have e2:pick ts (lot++[((n:Nat):Int)])++L=pick ts lot++(ts[n]::L):=by
    unfold pick
    rw[q0H,q1B]
    show _++([ts.getD ((n:Nat):Int).toNat []]++L)=_
    rw[q0G,ed];rfl
   rw[e1,e2,Int.neg_mul]
noncomputable def z9c (m:Nat) (ts:List (List Int)):List Int:=(List.range (m+1)).map (pS m [] ts)
noncomputable def cL (m:Nat) (ts:List (List Int)) (ls:List (List Int)) (k:Nat):Int:=z2g (fun lot=>sgL lot*gS m (pick ts lot) k) ls
theorem y6h (m:Nat) (ts:List (List Int)):(List.range (m+1)).map (cL m ts (z1n ts.length))=z9c m ts:=by
 unfold z9c
 refine q1l fun k _=>?_
 have:=z5I (m:=m) (k:=k) ts ts.length (q0e _) []
 rw[q0R] at this
 rw[←this]
 unfold cL
 congr 1
 funext lot
 rw[q1N]
theorem y3Q (m:Nat) (ts:List (List Int)):List.replicate (m+1) (0:Int)=(List.range (m+1)).map (cL m ts []):=by
 refine List.ext_getElem (by simp) fun i h1 h2=>?_
 rw[q1h,List.getElem_replicate];rfl
theorem y1F (m:Nat) (ts ls:List (List Int)) (lot:List Int) (k:Nat):cL m ts (ls++[lot]) k=cL m ts ls k+sgL lot*gS m (pick ts lot) k:=by
 unfold cL
 rw[z3t,z2g,z2g];lia
theorem y4V {m:Nat}{ts ls:List (List Int)}{lot:List Int} (h:z8i m (pick ts lot)):(List.range (m+1)).map (cL m ts (ls++[lot]))=(List.range (m+1)).map (cL m ts ls):=by
 refine q1l fun k _=>?_
 rw[y1F]
 unfold gS
 rw[if_pos h,q0T,q1q]
theorem y4U {m j n:Nat}{ts ls:List (List Int)}{lot:List Int} (h:∀k,gS m (pick ts lot) k=if n+k=m then 1 else 0) (hj:n+j=m):((List.range (m+1)).map (cL m ts ls)).set j (cL m ts ls j+sgL lot)=(List.range (m+1)).map (cL m ts (ls++[lot])):=by
 refine List.ext_getElem (by simp) fun i h1 h2=>?_
 rw[List.getElem_set,q1h,List.getElem_range,q1h,List.getElem_range,y1F,h]
 by_cases c:j=i
 ·subst c
  rw[if_pos rfl,if_pos hj];lia
 ·rw[if_neg c,if_neg (by lia)];lia
theorem z9E (m:Nat):(List.replicate m [V.int 0]).flatten =(List.replicate m (0:Int)).map V.int:=by
 induction m with
 |zero=>rfl
 |succ m ih=>rw[List.replicate_succ,List.flatten_cons,ih];rfl
theorem y2M {n k:Nat} (h:k<n):ixN n (k:Int)=some k:=by
 unfold ixN
 rw[if_pos (by lia)]
 rw[if_pos (by lia)]
 rfl
abbrev z0Y:Stmt:=top 38
theorem sc_l_polynomial:z0z ["_law_ways","_law_fences_here","_law_found","_law_lot","_law_rows","_law_power"] ["_law_ways","_law_fences_here"] (z0g z0Y):=⟨rfl,rfl,rfl,by decide+kernel,rfl,by decide+kernel,by decide+kernel⟩
def z9S (K:PySem.W.Frag):Sp:=fun vs H Q _=>∃(b:Addr) (as:List Addr) (ts:List (List Int)) (m B:Nat),vs=[.int (m:Nat),.ref b]∧H b=some (.lst (as.map V.ref))∧TsA H as ts∧ts.length≤8∧m≤4∧(∀t∈ts,t.length=m+1∧∀n∈t,intBits n≤B)∧16*(B+1)≤9000∧(m=0→ts=[])∧
 ∀(r:Addr) (H':Hp),H r=none→Same H H'→H' r=some (.lst ((z9c m ts).map V.int))→Q (.ref r) H'
theorem z4A (T:Txt mg) (F:Fun K "_law_polynomial" "_law_polynomial" z0Y f fd) (c_l_lots:Cal P w K mg base 3 "_law_lots" ["_law_many"] (y3o K)) (c_l_reduced:Cal P w K mg base 3 "_law_reduced" ["_law_ways","_law_rows"] (z6k K)):FnOk P w K mg base CX0 4 f fd ["_law_ways","_law_fences_here"] (z9S K):=by
 refine F.ok sc_l_polynomial (fun vs H Q E h=>?_) (fun cdv A outer s H vs Q E hr h=>?_)
 ·obtain⟨_,_,_,_,_,rfl,_⟩:=h;rfl
 obtain⟨b,as,ts,m,B,rfl,hb,hts,t8,m4,zt,hB,hm0,q⟩:=h
 refine⟨_,(z0b (z0n (i:=2) sc_l_polynomial.nd rfl (Or.inl rfl) (z0q z8g (z0P (z0a z0e z0d)) (z0q z1o (pv 0) z0e)))
  (z0b (z1b PassesOwn.never rfl (z0D (K:=K) rfl (z0s c_l_lots hr rfl (z0a (z0y (z0S (K:=K) rfl) rfl T.len PySem.boot_len (z0a (pv 1) z0d)) z0d))) (z0j (i:=3) sc_l_polynomial.nd rfl (Or.inl rfl)) (z0b (z0n (i:=4) sc_l_polynomial.nd rfl (Or.inl rfl) (z0s c_l_reduced hr rfl (z0a (pv 0) (z0a (z0N (Nc:=["_law_place","_law_fences_here"]) (fr:=[none,some 1]) rfl (z0D (K:=K) rfl (pv 3)) rfl (by decide) rfl (by decide) rfl ⟨rfl,trivial⟩ ⟨⟨rfl,rfl,rfl,rfl⟩,trivial⟩ (fun _ _ _ _=>(z0j (i:=0) (show List.Nodup (["_law_place","_law_fences_here"]:List Str) from by decide) rfl (Or.inl rfl))) (fun _ _ _ _=>z0Q) (fun _ _ _ _=>(z0K (z0r (K:=K) rfl) (pv 1) (pv 0) (fun _ _=>rfl)))) z0d))))
  (z0h (z1c (z7W (y0r (pv 4))) (z0b (z0n (i:=5) sc_l_polynomial.nd rfl (Or.inl rfl) (z0q z1P (pv 0) (z0y (z0S (K:=K) rfl) rfl T.len PySem.boot_len (z0a (pv 4) z0d))))
  (z0h (z2u (z0q z1P (z0q z1o (z0K (z0r (K:=K) rfl) (pv 2) (pv 5) (fun _ _=>rfl)) z0e) (z0q z0L z0e (z0q z0V (z0y (z0S (K:=K) rfl) rfl T.len PySem.boot_len (z0a (pv 3) z0d)) z0e))) (z3f (pv 2) (pv 5) z1y)))) z0C))))
  (z0h (z0A (pv 2))))),?_⟩
 refine z0o (fun σ H'=>∃r,H r=none∧σ=[some (.int (m:Nat)),some (.ref b),some (.ref r),none,none,none]∧Same H H'∧H' r=some (.lst (((List.range (m+1)).map (cL m ts [])).map V.int))) (fun N hN=>?_) ?_
 ·refine⟨z0k (by show 1≤_;decide),fun z hz=>?_⟩
  have g0:=z0f hz (.lst [V.int 0])
  have e0:upd H z (.lst [V.int 0]) z=some (.lst [V.int 0]):=z0c
  generalize upd H z (.lst [V.int 0])=H0 at*
  refine⟨_,rfl,_,_,rfl,rfl,z,_,_,rfl,rfl,e0,by lia,by lia,z0k (by show 1*((m:Int)+1).toNat ≤_;lia),fun z1 hz1=>?_⟩
  have et:((m:Int)+1).toNat =m+1:=by lia
  rw[et,z9E,y3Q m ts]
  exact hN _ _ ⟨z1,g0.free hz1,rfl,g0.trans (z0f hz1 _),z0c⟩
 rintro σ0 H0 ⟨r,hr0,rfl,g0,e0⟩
 refine z0o (fun σ H'=>∃s3 s4 s5,σ=[some (.int (m:Nat)),some (.ref b),some (.ref r),s3,s4,s5]∧Same H H'∧H' r=some (.lst ((z9c m ts).map V.int))) (fun N hN=>?_) ?_
 ·refine⟨_,rfl,b,_,rfl,.inl (SqL.of (g0 _ _ hb)),?_⟩
  rw[q0b,hts.1]
  refine⟨ts.length,rfl,t8,fun rl bl H1 hrl g1 erl hbl=>?_⟩
  have hrne:rl≠r:=fun z=>by rw[z,e0] at hrl;cases hrl
  have hll:(z1n ts.length).length ≤256:=by rw[z4B];exact q0o (q1x (by decide) t8) (by decide)
  have hbl':=hbl.1
  refine⟨rl,rfl,⟨_,SqL.of erl⟩,?_⟩
  refine z0H (z0v K rl (bl.map V.ref)) (fun i σ H'=>∃s3 s4 s5,σ=[some (.int (m:Nat)),some (.ref b),some (.ref r),s3,s4,s5]∧Same H H'∧H' rl=some (.lst (bl.map V.ref))∧(∀k,i≤k→∀a t,bl[k]? =some a→(z1n ts.length)[k]? =some t→H' a=some (.lst (t.map V.int)))∧(∀a∈bl,a≠r)∧H' r=some (.lst (((List.range (m+1)).map (cL m ts ((z1n ts.length).take i))).map V.int)))
   ⟨_,_,_,rfl,g0.trans g1,erl,fun k _ a t e1 e2=>hbl.2 k a t e1 e2,fun a ha z=>?_,g1 _ _ e0⟩ (fun _ _ _ _ h=>by obtain⟨_,_,_,_,_,e,_⟩:=h;exact SqL.of e) ?_ ?_
  ·subst z
   obtain⟨k,hk,ek⟩:=q0v.mp ha
   have hk2:k<(z1n ts.length).length :=by rw[←hbl.1];exact hk
   have h1:=hbl.2 k a _ (by rw[q0c hk,ek]) (q0c hk2)
   have htm:=q0y hk2
   generalize (z1n ts.length)[k]=t at h1 htm
   rw[g1 _ _ e0,←y3Q] at h1
   have et:List.replicate (m+1) (0:Int)=t:=by
        injection h1 with h1
        injection h1 with h1
        exact List.map_inj_right (fun x y h=>by injection h) |>.mp h1
   cases m with
   |zero=>
    rw[hm0 rfl] at htm
    rw[q0g.mp htm] at et
    cases et
   |succ m=>
    have:=z3a _ t htm
    rw[←et,q0X,q0X] at this
    exact (List.nodup_cons.mp this).1 q0j
  ·clear e0 erl hbl hrl
   rintro i x σ H2' H2 hi ⟨s3,s4,s5,rfl,g,erl,hlots,hne,er⟩ ⟨rfl,hx⟩
   rw[q0b] at hi
   rw[q0k] at hx
   obtain⟨a,ha,rfl⟩:=q0A.mp hx
   have hi2:i<(z1n ts.length).length :=by rw[←hbl'];exact hi
   have et:(z1n ts.length)[i]? =some (z1n ts.length)[i]:=q0c hi2
   have htm:=q0y hi2
   have tk:(z1n ts.length).take (i+1)=(z1n ts.length).take i++[(z1n ts.length)[i]]:=by rw[q0Q,et];rfl
   have ea:=hlots i (q0e _) a _ ha et
   generalize (z1n ts.length)[i]=t at et htm tk ea
   have tl:=z3j _ t htm
   have hmem:=z3k _ t htm
   have hb2:=g _ _ hb
   have hts2:=hts.same g
   rw[tk]
   generalize (z1n ts.length).take i=ls at*
   have hrows:∀u∈pick ts t,u.length=m+1∧∀n∈u,intBits n≤B:=fun u hu=>by
        obtain⟨p,hp,rfl⟩:=q0f.mp hu
        have:=hmem p hp
        rw[q0a,q0c (show p.toNat<ts.length by lia)]
        exact zt _ (q0y _)
   have I:=z4c (m:=m) (fun u hu=>(hrows u hu).1) m (q0e _)
   refine⟨_,rfl,_,rfl,a,rfl,⟨_,SqL.of ea⟩,fun D hD=>?_⟩
   refine z1H t (by rw[q0b]) (z0v K a (t.map V.int)) hD (fun p σ=>σ.set 0 (some (.int p))) (fun d e σ=>List.set_set ..) (fun _=>true) (fun _ p u=>u=V.ref (as.getD p.toNat 0)) (fun _ _ _ _ _ _ h=>h) (fun H' g'=>SqL.of (g' _ _ ea)) (z0k (by rw[q0b];lia)) ?_ ?_ ?_ ?_
   ·intro k x p hx hp σ H3 g3 S h
    rw[q0k,hp] at hx
    obtain rfl:=Option.some.inj hx
    exact h
   ·intro p hp Hc gc S h
    exact h _ (Same.refl _)
   ·intro p hp _ Hc gc _ S h
    have:=hmem p hp
    have hpa:p.toNat<as.length:=by rw[hts.1];lia
    have hat:atI (as.map V.ref) p=some (.ref (as.getD p.toNat 0)):=by
     have e:p=((p.toNat:Nat):Int):=by lia
     rw[e,q0G]
     exact z2m (by rw[q0k,q0c hpa,q0a,q0c hpa];rfl)
    exact⟨_,rfl,_,rfl,b,_,_,_,rfl,rfl,SqL.of (gc _ _ hb2),hat,h _ _ (Same.refl _) rfl⟩
   ·intro us H3 g3 hD3 he
    rw[z0E] at he
    have eus:us=(t.map fun p=>as.getD p.toNat 0).map V.ref:=by
     clear hD3
     generalize t=t' at he
     induction he with
     |nil=>rfl
     |cons h1 _ ih=>rw[h1,ih];rfl
    subst eus
    have hT:TsA H3 (t.map fun p=>as.getD p.toNat 0) (pick ts t):=⟨by unfold pick;rw[List.length_map,List.length_map],fun k a' u e1 e2=>by
     unfold pick at e2
     rw[q0k] at e1 e2
     obtain⟨p,hp,rfl⟩:=q0A.mp e1
     rw[hp] at e2
     obtain rfl:=Option.some.inj e2
     have:=hmem p (q0u hp)
     have h1:p.toNat<ts.length:=by lia
     have h2:p.toNat<as.length:=by rw[hts.1];exact h1
     refine (hts2.same g3).2 p.toNat _ _ ?_ ?_
     ·rw[q0a,q0c h2];rfl
     ·show ts[p.toNat]? =some (ts.getD p.toNat [])
      rw[q0a,q0c h1];rfl⟩
    refine⟨D,_,pick ts t,m,B,rfl,hD3,hT,by unfold pick;rw[List.length_map];lia,m4,hrows,hB,fun H4 g4 hn=>?_,fun r2 bs2 H4 hr2 g4 er2 hts3 hz=>?_⟩
    ·refine⟨_,rfl,_,rfl,?_⟩
     refine z3r ?_
     have g34:=g3.trans g4
     obtain⟨u,hu,hun⟩:=hn
     refine⟨_,_,_,rfl,g.trans g34,g34 _ _ erl,fun k hk a' t' e1 e2=>g34 _ _ (hlots k (by lia) a' t' e1 e2),hne,?_⟩
     rw[y4V (I.none hu hun)]
     exact g34 _ _ er
    ·refine⟨_,rfl,_,rfl,?_⟩
     refine z7x ?_
     have g34:=g3.trans g4
     obtain⟨hR,hI⟩:=I.rws hz
     have hgS:∀k,gS m (pick ts t) k=if ((z1E (pick ts t) m).1.map z0l).length +k=m then 1 else 0:=fun k=>by rw[←hR.gS,y1j hI]
     generalize (z1E (pick ts t) m).1.map z0l=rs at*
     have hle:rs.length≤m:=by
         have:=z6I (m:=m) (rs.map Rk.fp) 0 (q0Z.mpr hR.up) fun x hx=>by obtain⟨u,hu,rfl⟩:=q0f.mp hx;exact⟨q0S _,(hR.row u hu).2.1⟩
         rw[q0b] at this
         lia
     obtain⟨j,hj⟩:∃j,rs.length+j=m:=⟨m - rs.length,by lia⟩
     refine⟨_,rfl,_,rfl,r2,_,rfl,.inl (SqL.of er2),_,_,rfl,rfl,?_⟩
     have ej:((m:Nat):Int) - (((bs2.map V.ref).length :Nat):Int)=((j:Nat):Int):=by rw[q0b,hts3.1];lia
     dsimp only
     rw[ej]
     have er4:=g34 _ _ er
     have ea4:=g34 _ _ ea
     have hat:atI (((List.range (m+1)).map (cL m ts ls)).map V.int) ((j:Nat):Int)=some (.int (cL m ts ls j)):=z2m (by rw[q0k,q0k,List.getElem?_range (by lia)];rfl)
     have b2:intBits (2:Int)≤64:=by decide
     have bm:intBits ((((t.map V.int).length :Nat):Int)%2)≤64:=z6P (by lia) (by lia)
     refine⟨_,rfl,_,rfl,r,_,_,_,rfl,rfl,SqL.of er4,hat,_,_,rfl,rfl,_,rfl,a,_,rfl,.inl (SqL.of ea4),_,_,rfl,rfl,cm,_,_,rfl,rfl,z1z b2 bm,_,_,rfl,rfl,?_⟩
     refine⟨_,rfl,_,rfl,r,_,_,j,rfl,rfl,er4,y2M (by simp;lia),?_⟩
     refine⟨_,_,_,rfl,fun b' o e=>by rw[z0m (z0i e hr0)];exact (g.trans g34) _ _ e,by rw[z0m hrne];exact g34 _ _ erl,fun k hk a' t' e1 e2=>by rw[z0m (hne a' (q0u e1))];exact g34 _ _ (hlots k (by lia) a' t' e1 e2),hne,?_⟩
     have ev:cL m ts ls j+1 - 2*((((t.map V.int).length :Nat):Int)%2)=cL m ts ls j+sgL t:=by
         unfold sgL
         rw[q0b];lia
     rw[z0c]
     dsimp only
     rw[ev,←y4U hgS hj,List.map_set]
  ·rintro σ H2 ⟨s3,s4,s5,rfl,g,_,_,_,er⟩
   rw[q0b,hbl',q0R,y6h] at er
   exact hN _ _ ⟨_,_,_,rfl,g,er⟩
 rintro σ1 H1 ⟨s3,s4,s5,rfl,g1,e1⟩
 exact⟨_,rfl,q r H1 hr0 g1 e1⟩
end
end L2
namespace L2
open PySem PySem.Spec PyProof.Rows
section
open Fr Wl Rk Pt
open Builtin.Int (intBits)
variable {P:Program}{w:World}{K:PySem.W.Frag}{mg:Str→Option Value}{base:Heap}{f:Addr}{fd:FuncData}
abbrev z1V:Stmt:=top 39
theorem sc_l_worth:z0z ["_law_polynomial_here","_law_number","_law_total","_law_part"] ["_law_polynomial_here","_law_number"] (z0g z1V):=⟨rfl,rfl,rfl,by decide+kernel,rfl,by decide+kernel,by decide+kernel⟩
def z9P (K:PySem.W.Frag):Sp:=fun vs H Q _=>∃(l:Addr) (cs:List Int) (q:Int),vs=[.ref l,.int q]∧H l=some (.lst (cs.map V.int))∧cs.length≤10∧(∀c∈cs,c.natAbs≤2^20)∧q.natAbs≤100∧Q (.int (Wp cs q)) H
def wpA (q:Int) (l:List Int):Int:=l.foldl (fun acc a=>acc*q+a) 0
theorem y3Y (q:Int) (cs:List Int):wpA q cs.reverse=Wp cs q:=by
 unfold wpA Wp
 rw[List.foldl_reverse]
theorem y3g {q:Int} (hq:q.natAbs≤100):∀(l:List Int),(∀c∈l,c.natAbs≤2^20)→∀i,i≤l.length→(wpA q (l.take i)).natAbs ≤2^20*128^i
 |l,h,0,_=>by rw[List.take_zero];show (0:Int).natAbs ≤_;simp
 |l,h,i+1,hi=>by
  have ih:=y3g hq l h i (by lia)
  have et:l[i]? =some l[i]:=q0c (by lia)
  have hc:=h _ (q0y (show i<l.length by lia))
  rw[q0Q,et]
  generalize l[i]=c at hc
  have e:wpA q (l.take i++(some c).toList)=wpA q (l.take i)*q+c:=by
   unfold wpA
   rw[q1L];rfl
  rw[e]
  generalize wpA q (l.take i)=z at*
  have h1:(z*q+c).natAbs ≤(z*q).natAbs +c.natAbs:=Int.natAbs_add_le _ _
  rw[Int.natAbs_mul] at h1
  have h2:z.natAbs*q.natAbs≤2^20*128^i*100:=Nat.mul_le_mul ih hq
  have h3:1≤128^i:=Nat.one_le_pow _ _ (by decide)
  have h4:128^(i+1)=128^i*128:=Nat.pow_succ _ _
  rw[h4]
  generalize 128^i=p at*
  lia
theorem z9j (T:Txt mg) (F:Fun K "_law_worth" "_law_worth" z1V f fd):FnOk P w K mg base CX0 1 f fd ["_law_polynomial_here","_law_number"] (z9P K):=by
 refine F.ok sc_l_worth (fun vs H Q E h=>?_) (fun cdv A outer s H vs Q E hr h=>?_)
 ·obtain⟨_,_,_,rfl,_⟩:=h;rfl
 obtain⟨l,cs,q',rfl,hl,c10,hc,q100,q⟩:=h
 refine⟨_,(z0b (z0n (i:=2) sc_l_worth.nd rfl (Or.inl rfl) z0e)
  (z0b (z1b PassesOwn.never rfl (y5v (K:=K) rfl rfl T.reversed (z0a (pv 0) z0d)) (z0j (i:=3) sc_l_worth.nd rfl (Or.inl rfl)) (z0h (z0n (i:=2) sc_l_worth.nd rfl (Or.inl rfl) (z0q z1o (z0q z0L (pv 2) (pv 1)) (pv 3)))))
  (z0h (z0A (pv 2))))),?_⟩
 refine⟨_,rfl,l,_,rfl,hl,?_⟩
 refine z0H (y2k K l (cs.map V.int)) (fun i σ H'=>H'=H∧∃(s3:Option V),σ=[some (.ref l),some (.int q'),some (.int (wpA q' (cs.reverse.take i))),s3]) ⟨rfl,_,rfl⟩ (fun i σ H' _ h=>h.1▸SqL.of hl) ?_ ?_
 ·rintro i x σ H1 H2 hi ⟨rfl,s3,rfl⟩ ⟨rfl,hx⟩
  rw[q0b] at hi
  rw[←List.map_reverse,q0k] at hx
  obtain⟨c,hc',rfl⟩:=q0A.mp hx
  have hb:=y3g q100 cs.reverse (fun c h=>hc c (List.mem_reverse.mp h)) i (by rw[List.length_reverse];lia)
  have tk:wpA q' (cs.reverse.take (i+1))=wpA q' (cs.reverse.take i)*q'+c:=by
   rw[q0Q,hc']
   unfold wpA
   rw[q1L];rfl
  have bt:intBits (wpA q' (cs.reverse.take i))≤100:=by
   refine intBits_le_of_natAbs (y:=2^90) (q0o hb ?_) (by decide)
   have:128^i≤128^10:=q1x (by decide) (by lia)
   exact q0o (Nat.mul_le_mul_left _ this) (by decide)
  have bq:intBits q'≤100:=intBits_le_of_natAbs (y:=128) (by show _≤128;lia) (by decide)
  refine⟨_,rfl,_,rfl,_,_,rfl,rfl,z1z bt bq,_,rfl,_,_,rfl,rfl,?_⟩
  refine⟨rfl,some (.int c),?_⟩
  rw[tk]
  rfl
 ·rintro σ H1 ⟨rfl,s3,rfl⟩
  refine⟨_,rfl,?_⟩
  rw[q0b,←List.length_reverse,q0R,y3Y]
  exact q
end
end L2
namespace L2
open PySem PySem.Spec PyProof.Rows
section
open Fr Wl Rk Pt Ld
open Builtin.Int (intBits)
variable {P:Program}{w:World}{K:PySem.W.Frag}{mg:Str→Option Value}{base:Heap}{f:Addr}{fd:FuncData}
abbrev z0R:Stmt:=top 29
theorem z3W:z0z ["_law_found"] ["_law_found"] (z0g z0R):=⟨rfl,rfl,rfl,by decide+kernel,rfl,by decide+kernel,by decide+kernel⟩
def y3q:Sp:=fun vs H Q _=>∃(v:V) (x y:Int),vs=[v]∧FrA H v x y∧Low x y∧Q (.bl true) H
theorem z3X (T:Txt mg) (F:Fun K "_law_is_fraction" "_law_is_fraction" z0R f fd) (c_l_whole:Cal P w K mg base 1 "_law_whole" ["_law_found"] z7d)
 (c_l_divisor:Cal P w K mg base 1 "_law_divisor" ["_law_one","_law_other"] z1I):FnOk P w K mg base CX0 2 f fd ["_law_found"] y3q:=by
 refine F.ok z3W (fun vs H Q E h=>?_) (fun cdv A outer s H vs Q E hr h=>?_)
 ·obtain⟨_,_,_,rfl,_⟩:=h;rfl
 obtain⟨_,x,y,rfl,⟨p,rfl,h⟩,lo,q⟩:=h
 refine⟨_,(z0b (z1c (PW.pt (z4K (z2t (z2n (z0y z1g rfl T.isinstance boot_isinstance (z0a (pv 0) (z0a (z2Y (v:= .ty "tuple") rfl T.tuple boot_tuple rfl) z0d))))) (z4K (z0x z3E (z0y (z0S (K:=K) rfl) rfl T.len PySem.boot_len (z0a (pv 0) z0d)) z0e (z0F _)) (z4K (z2t (z2n (z0s c_l_whole hr rfl (z0a (z0K (z1L (K:=K) rfl) (pv 0) z0e (fun _ _=>rfl)) z0d)))) (z6u (z2t (z2n (z0s c_l_whole hr rfl (z0a (z0K (z1L (K:=K) rfl) (pv 0) z0e (fun _ _=>rfl)) z0d))))))))) (z0h (z0A z4u)) z0C)
  (z0h (z0A (y3w (z4t z6y (z0K (z1L (K:=K) rfl) (pv 0) z0e (fun _ _=>rfl)) z0e (z0F _)) (y3v (z4t z4x (z0s c_l_divisor hr rfl (z0a (z0K (z1L (K:=K) rfl) (pv 0) z0e (fun _ _=>rfl)) (z0a (z0K (z1L (K:=K) rfl) (pv 0) z0e (fun _ _=>rfl)) z0d))) z0e (z0F _))))))),?_⟩
 refine⟨_,rfl,_,_,_,_,rfl,.tup h,rfl,_,rfl,?_⟩
 refine z3r ?_
 refine⟨_,rfl,p,_,rfl,.inr (SqT.of h),rfl,_,rfl,?_⟩
 refine z7y rfl ?_
 refine⟨_,rfl,_,_,_,_,rfl,rfl,SqT.of h,rfl,x,rfl,_,rfl,?_⟩
 refine z3r ?_
 refine⟨_,rfl,_,_,_,_,rfl,rfl,SqT.of h,rfl,y,rfl,_,rfl,?_⟩
 refine z3r ?_
 refine⟨_,rfl,_,_,_,_,rfl,rfl,SqT.of h,rfl,_,_,rfl,rfl,_,rfl,?_⟩
 rw[decide_eq_true lo.pos]
 refine z7x ?_
 refine⟨_,rfl,_,_,_,_,rfl,rfl,SqT.of h,rfl,_,rfl,_,_,_,_,rfl,rfl,SqT.of h,rfl,x,y,rfl,rfl,?_⟩
 have e:decide (V.int (Int.gcd x y:Int)=V.int 1)=true:=by rw[lo.one];rfl
 rw[e]
 exact q
theorem y3t {x b:Int} (hb:0<b):∃n d,y2n x b=[n,d]∧Low n d∧n*b=x*d∧n.natAbs≤x.natAbs∧d.natAbs≤b.natAbs:=by
 obtain⟨_,h1,h2,h3,h4⟩:=y5K (t:=x) (b:=b) (s:=(Int.gcd x b:Int)) (by lia) (by rw[if_neg (by lia)])
 exact⟨_,_,rfl,h1,h2,h3,h4⟩
abbrev z2I:Stmt:=top 40
theorem sc_l_side:z0z ["_law_fence","_law_point","_law_top","_law_bottom","_law_number","_law_part"] ["_law_fence","_law_point"] (z0g z2I):=⟨rfl,rfl,rfl,by decide+kernel,rfl,by decide+kernel,by decide+kernel⟩
theorem y6j {xs:List V}{u:V}:atI (xs++[u]) (-1)=some u:=by
 unfold atI ixN
 rw[if_neg (by decide),if_pos (by rw[q0m];have:([u]:List V).length =1:=rfl;lia)]
 show (xs++[u])[(-1+((xs++[u]).length :Int)).toNat]? =some u
 rw[show (-1+((xs++[u]).length :Int)).toNat =xs.length by rw[q0m];have:([u]:List V).length =1:=rfl;lia]
 simp
def sgV (x:Int):Int:=b2i (decide (0<x)) - b2i (decide (x<0))
def y3m (K:PySem.W.Frag):Sp:=fun vs H Q _=>∃(a pp:Addr) (bs:List Addr) (t sp:List Int) (m:Nat),vs=[.ref a,.ref pp]∧H a=some (.tup (t.map V.int))∧H pp=some (.tup (bs.map V.ref))∧TsA H bs (sp.dropLast.map fun x=>y2n x (v sp m))∧Spt m sp∧t.length=m+1∧m≤4∧(∀n∈t,intBits n≤64)∧(∀n∈sp,intBits n≤13000)∧
 ∀H',Same H H'→Q (.int (sgV (hg m (v t) (v sp)))) H'
theorem y4i {a b c x:Int} (hc:0<c) (hb:0<b) (e:a*c=b*x):sgV a=sgV x:=by
 have h1:(0<a)↔0<x:=by
  constructor
  ·intro h
   have:=q1E h hc
   rw[e] at this
   exact Int.lt_of_mul_lt_mul_left (a:=b) (by rw[q0T];exact this) (by lia)
  ·intro h
   have:=q1E hb h
   rw[←e] at this
   exact Int.lt_of_mul_lt_mul_right (a:=c) (by rw[q1P];exact this) (by lia)
 have h2:(a<0)↔x<0:=by
  constructor
  ·intro h
   have:=Int.mul_neg_of_neg_of_pos h hc
   rw[e] at this
   exact Int.lt_of_mul_lt_mul_left (a:=b) (by rw[q0T];exact this) (by lia)
  ·intro h
   have:=Int.mul_neg_of_pos_of_neg hb h
   rw[←e] at this
   exact Int.lt_of_mul_lt_mul_right (a:=c) (by rw[q1P];exact this) (by lia)
 unfold sgV
 rw[decide_eq_decide.mpr h1,decide_eq_decide.mpr h2]
theorem y0A (T:Txt mg) (F:Fun K "_law_side" "_law_side" z2I f fd):FnOk P w K mg base CX0 1 f fd ["_law_fence","_law_point"] (y3m K):=by
 refine F.ok sc_l_side (fun vs H Q E h=>?_) (fun cdv A outer s H vs Q E hr h=>?_)
 ·obtain⟨_,_,_,_,_,_,rfl,_⟩:=h;rfl
 obtain⟨a,pp,bs,t,sp,m,rfl,ha,hpp,hbs,⟨sl,vp⟩,tl,m4,tb,sb,q⟩:=h
 refine⟨_,(z0b (z0n (i:=2) sc_l_side.nd rfl (Or.inl rfl) (z0q z1P z0e (z0K (z1L (K:=K) rfl) (pv 0) (z2Q z1x z0e) (fun _ _=>rfl))))
  (z0b (z0n (i:=3) sc_l_side.nd rfl (Or.inl rfl) z0e)
  (z0b (z1b PassesOwn.never rfl (z3C (K:=K) rfl rfl T.zip (z0a (z1O (y4e (K:=K) rfl) (pv 0) z2w (z2v (z2Q z1x z0e))) (z0a (pv 1) z0d))) (z1m (K:=K) rfl 2 rfl (z0B (z0j (i:=4) sc_l_side.nd rfl (Or.inl rfl)) (z0B (z0j (i:=5) sc_l_side.nd rfl (Or.inl rfl)) z1l))) (z0b (z0n (i:=2) sc_l_side.nd rfl (Or.inl rfl) (z0q z1o (z0q z0L (pv 2) (z0K (z1L (K:=K) rfl) (pv 5) z0e (fun _ _=>rfl))) (z0q z0L (z0q z0L (pv 4) (z0K (z1L (K:=K) rfl) (pv 5) z0e (fun _ _=>rfl))) (pv 3))))
  (z0h (z0n (i:=3) sc_l_side.nd rfl (Or.inl rfl) (z0q z0L (pv 3) (z0K (z1L (K:=K) rfl) (pv 5) z0e (fun _ _=>rfl)))))))
  (z0h (z0A (z0q y2v (z4t z6y (pv 2) z0e (z0F _)) (z4t y4y (pv 2) z0e (z0F _)))))))),?_⟩
 obtain⟨t',y,et'⟩:∃a' x,t=a'++[x]:=⟨t.dropLast,t.getLast (fun z=>by rw[z] at tl;simp at tl),(q0W _).symm⟩
 have tl':t'.length=m:=by rw[et',q0m] at tl;simpa using tl
 have ha':H a=some (.tup (t'.map V.int++[V.int y])):=by rw[ha,et',q0H];rfl
 have ey:v t m=y:=by
  show t.getD m 0=y
  rw[et',q0a,q0D (by lia),tl',q1G];rfl
 have ev:∀j,j<m→v t j=t'.getD j 0:=fun j hj=>by
  show t.getD j 0=_
  rw[et',q0a,q0N (by lia),q0a]
 have bl:bs.length=m:=by rw[hbs.1,q0b,List.length_dropLast,sl];rfl
 refine z0o (fun σ H'=>σ=[some (.ref a),some (.ref pp),some (.int (0 - y)),none,none,none]∧H=H') (fun N hN=>?_) ?_
 ·exact⟨_,rfl,_,rfl,_,_,_,_,rfl,rfl,SqT.of ha',y6j,_,_,rfl,rfl,hN _ _ ⟨rfl,rfl⟩⟩
 rintro σ H0 ⟨rfl,rfl⟩
 refine z0o (fun σ H'=>σ=[some (.ref a),some (.ref pp),some (.int (0 - y)),some (.int 1),none,none]∧H=H') (fun N hN=>?_) ?_
 ·exact hN _ _ ⟨rfl,rfl⟩
 rintro σ H0 ⟨rfl,rfl⟩
 refine z0o (fun σ H'=>∃top s4 s5 s6,σ=[some (.ref a),some (.ref pp),some (.int top),s4,s5,s6]∧Same H H'∧sgV top=sgV (hg m (v t) (v sp))) (fun N hN=>?_) ?_
 ·refine⟨_,rfl,_,rfl,_,rfl,a,_,rfl,SqT.of ha',y1x,fun z hz=>?_⟩
  rw[z4i]
  have k2:=z0f hz (.tup (t'.map V.int))
  have w2:upd H z (.tup (t'.map V.int)) z=some (.tup (t'.map V.int)):=z0c
  generalize upd H z (.tup (t'.map V.int))=H1 at*
  refine⟨_,rfl,z,pp,false,false,_,_,rfl,SqT.of w2,SqT.of (k2 _ _ hpp),?_⟩
  refine z0H (z2b K false false z pp (t'.map V.int) (bs.map V.ref)) (fun i σ H'=>∃top bot s4 s5,σ=[some (.ref a),some (.ref pp),some (.int top),some (.int bot),s4,s5]∧Same H1 H'∧0<bot∧top*v sp m=bot*(sumTo i (fun j=>v t j*v sp j) - y*v sp m)∧intBits top≤100+13001*i∧intBits bot≤1+13000*i)
   ⟨0 - y,1,_,_,rfl,Same.refl _,by decide,by show _=1*(0 - y*v sp m);rw[Int.one_mul,Int.sub_mul,q1P],by rw[Int.zero_sub];exact z0u (intBits_neg_le (tb y (by rw[et'];simp))) (by lia),by decide⟩ (fun i σ H' _ h=>by obtain⟨_,_,_,_,_,g,_⟩:=h;exact⟨SqT.of (g _ _ w2),SqT.of ((k2.trans g) _ _ hpp)⟩) ?_ ?_
  ·rintro i x σ H2 H3 hi ⟨top,bot,s4,s5,rfl,g,b0,eq,bt,bb⟩ ⟨p,u,u2,rfl,hp,huv,rfl⟩
   rw[q1e,q0b,q0b,tl',bl,Nat.min_self] at hi
   rw[q0Y,q0k,q0k] at huv
   obtain⟨n,hn,rfl⟩:=q0A.mp huv.1
   obtain⟨bi,hbi,rfl⟩:=q0A.mp huv.2
   have k1:=z0f hp (.tup [V.int n,V.ref bi])
   have w1:upd H2 p (.tup [V.int n,V.ref bi]) p=some (.tup [V.int n,V.ref bi]):=z0c
   generalize upd H2 p (.tup [V.int n,V.ref bi])=H4 at*
   have g4:=g.trans k1
   have hid:i<sp.dropLast.length:=by rw[List.length_dropLast,sl];lia
   have ex:sp.dropLast[i]? =some (v sp i):=by
        rw[List.getElem?_dropLast,if_pos (by lia),q0c (by lia)]
        show _=some (sp.getD i 0)
        rw[q0a,q0c (by lia)];rfl
   have eb:=(k2.trans g4) _ _ (hbs.2 i bi _ hbi (by rw[q0k,ex];rfl))
   obtain⟨nn,dd,er,lo,cr,n1,n2⟩:=y3t (x:=v sp i) vp
   have eb:H4 bi=some (.tup [V.int nn,V.int dd]):=by rw[eb];show some (HO.tup ((y2n (v sp i) (v sp m)).map V.int))=_;rw[er];rfl
   have hnb:intBits n≤64:=tb n (by rw[et'];exact q0C _ (q0u hn))
   have hnn:intBits nn≤13000:=intBits_le_of_natAbs n1 (z1d sb i)
   have hdd:intBits dd≤13000:=intBits_le_of_natAbs n2 (z1d sb m)
   have hvn:v t i=n:=by rw[ev i hi,q0a,hn];rfl
   have m1:intBits (top*dd)≤100+13001*i+13000:=intBits_mul_le bt hdd
   have m2:intBits (n*nn)≤64+13000:=intBits_mul_le hnb hnn
   have m3:intBits (n*nn*bot)≤64+13000+(1+13000*i):=intBits_mul_le m2 bb
   refine⟨p,_,rfl,SqT.of w1,rfl,_,_,rfl,_,_,rfl,rfl,?_⟩
   refine⟨_,rfl,_,rfl,_,_,_,_,rfl,rfl,SqT.of eb,rfl,_,_,rfl,rfl,z1z bt hdd,_,rfl,_,rfl,_,_,_,_,rfl,rfl,SqT.of eb,rfl,_,_,rfl,rfl,z1z hnb hnn,_,rfl,_,_,rfl,rfl,z1z m2 bb,_,_,rfl,rfl,?_⟩
   refine⟨_,rfl,_,rfl,_,_,_,_,rfl,rfl,SqT.of eb,rfl,_,_,rfl,rfl,z1z bb hdd,?_⟩
   refine⟨top*dd+n*nn*bot,bot*dd,_,_,rfl,g4,q1E b0 lo.pos,?_,z0u (intBits_add_le (z0u m1 (show _≤100+13001*(i+1) - 1 by lia)) (z0u m3 (show _≤100+13001*(i+1) - 1 by lia))) (by lia),z0u (intBits_mul_le bb hdd) (by lia)⟩
   show _=bot*dd*(sumTo i _+v t i*v sp i - y*v sp m)
   rw[hvn]
   grind
  ·rintro σ H2 ⟨top,bot,s4,s5,rfl,g,b0,eq,_,_⟩
   rw[q1e,q0b,q0b,tl',bl,Nat.min_self] at eq
   refine hN _ _ ⟨top,_,_,_,rfl,k2.trans g,y4i vp b0 ?_⟩
   rw[eq]
   unfold hg
   rw[ey]
 rintro σ H1 ⟨top,s4,s5,s6,rfl,g1,es⟩
 refine⟨_,rfl,_,_,rfl,rfl,_,rfl,_,_,rfl,rfl,_,_,rfl,rfl,?_⟩
 have:=q H1 g1
 rw[←es] at this
 exact this
end
end L2
namespace L2
open PySem PySem.Spec PyProof.Rows
section
open Fr Wl Rk Pt Ld
open Builtin.Int (intBits)
variable {P:Program}{w:World}{K:PySem.W.Frag}{mg:Str→Option Value}{base:Heap}{f:Addr}{fd:FuncData}
def y3l (d:LandD):Nat:=d.sp.dropLast.length
theorem y2V {α:Type}{R:α→V→Prop}{es:List α}{us:List V} (h:Each R es us):us.length=es.length:=h.length.symm
theorem y2f {x sn:Int} (hs:sn=1∨sn= -1) (h:0<sn*x):sgV x=sn:=by
 unfold sgV
 rcases hs with rfl|rfl
 ·rw[decide_eq_true (show 0<x by lia),decide_eq_false (show ¬x<0 by lia)];rfl
 ·rw[decide_eq_false (show ¬0<x by lia),decide_eq_true (show x<0 by lia)];rfl
abbrev z2K:Stmt:=top 41
theorem sc_l_land:z0z ["_law_ways","_law_fences_here","_law_found","_law_signs","_law_point","_law_fence","_law_sign"] ["_law_ways","_law_fences_here","_law_found"] (z0g z2K):=⟨rfl,rfl,rfl,by decide+kernel,rfl,by decide+kernel,by decide+kernel⟩
def y3p (K:PySem.W.Frag):Sp:=fun vs H Q _=>∃(lf:Addr) (x:V) (as:List Addr) (ts:List (List Int)) (d:LandD) (m b c:Nat),vs=[.int (m:Nat),.ref lf,x]∧H lf=some (.lst (as.map V.ref))∧TsA H as ts∧LandPt H m d x∧z3J m b c ts d∧Sb m b c≤13000∧ts.length≤8∧m≤4∧(∀t∈ts,t.length=m+1∧∀n∈t,intBits n≤64)∧∀H',Same H H'→Q (.bl true) H'
theorem y0C (T:Txt mg) (F:Fun K "_law_land" "_law_land" z2K f fd) (c_l_whole:Cal P w K mg base 2 "_law_whole" ["_law_found"] z7d) (c_l_is_fraction:Cal P w K mg base 2 "_law_is_fraction" ["_law_found"] y3q) (c_l_side:Cal P w K mg base 2 "_law_side" ["_law_fence","_law_point"] (y3m K)):FnOk P w K mg base CX0 3 f fd ["_law_ways","_law_fences_here","_law_found"] (y3p K):=by
 refine F.ok sc_l_land (fun vs H Q E h=>?_) (fun cdv A outer s H vs Q E hr h=>?_)
 ·obtain⟨_,_,_,_,_,_,_,_,rfl,_⟩:=h;rfl
 obtain⟨lf,_,as,ts,d,m,b,c,rfl,hlf,hts,⟨p,pp,bs,rfl,hp,hda,hpp,hbs⟩,hG,hS,t8,m4,zt,q⟩:=h
 refine⟨_,(z0b (z1c (PW.pt (z4K (z2t (z2n (z0y z1g rfl T.isinstance boot_isinstance (z0a (pv 2) (z0a (z2Y (v:= .ty "tuple") rfl T.tuple boot_tuple rfl) z0d))))) (z6u (z0x z3E (z0y (z0S (K:=K) rfl) rfl T.len PySem.boot_len (z0a (pv 2) z0d)) z0e (z0F _))))) (z0h (z0A z4u)) z0C)
  (z0b (z2u (pv 2) (z1m (K:=K) rfl 2 rfl (z0B (z0j (i:=3) sc_l_land.nd rfl (Or.inl rfl)) (z0B (z0j (i:=4) sc_l_land.nd rfl (Or.inl rfl)) z1l))))
  (z0b (z1c (PW.pt (z4K (z2t (z2n (z0y z1g rfl T.isinstance boot_isinstance (z0a (pv 3) (z0a (z2Y (v:= .ty "tuple") rfl T.tuple boot_tuple rfl) z0d))))) (z4K (z2t (z2n (z0y z1g rfl T.isinstance boot_isinstance (z0a (pv 4) (z0a (z2Y (v:= .ty "tuple") rfl T.tuple boot_tuple rfl) z0d))))) (z4K (z0x z3E (z0y (z0S (K:=K) rfl) rfl T.len PySem.boot_len (z0a (pv 3) z0d)) (z0y (z0S (K:=K) rfl) rfl T.len PySem.boot_len (z0a (pv 1) z0d)) (z0F _)) (z6u (z0x z3E (z0y (z0S (K:=K) rfl) rfl T.len PySem.boot_len (z0a (pv 4) z0d)) (pv 0) (z0F _))))))) (z0h (z0A z4u)) z0C)
  (z0b (z1c (z0x z3E (z0y (z0S (K:=K) rfl) rfl T.len PySem.boot_len (z0a (z0N (Nc:=["_law_part"]) (fr:=[none]) rfl (y0p (K:=K) rfl (pv 4)) rfl (by decide) rfl (by decide) rfl trivial trivial (fun _ _ _ _=>(z0j (i:=0) (show List.Nodup (["_law_part"]:List Str) from by decide) rfl (Or.inl rfl))) (fun _ _ _ _=>(z2W (z2n (z0s c_l_is_fraction hr rfl (z0a (pv 0) z0d))))) (fun _ _ _ _=>(pv 0))) z0d)) (pv 0) (z0F _)) (z0h (z0A z4u)) z0C)
  (z0b (z1b PassesOwn.never rfl (z3C (K:=K) rfl rfl T.zip (z0a (pv 1) (z0a (pv 3) z0d))) (z1m (K:=K) rfl 2 rfl (z0B (z0j (i:=5) sc_l_land.nd rfl (Or.inl rfl)) (z0B (z0j (i:=6) sc_l_land.nd rfl (Or.inl rfl)) z1l))) (z0h (z1c (PW.pt (z4K (z2t (z2n (z0s c_l_whole hr rfl (z0a (pv 6) z0d)))) (z4K (z0x z3E (z0y z2O rfl T.abs boot_abs (z0a (pv 6) z0d)) z0e (z0F _)) (z6u (z0x z3E (z0s c_l_side hr rfl (z0a (pv 5) (z0a (pv 4) z0d))) (pv 6) (z0F _)))))) (z0h (z0A z4u)) z0C)))
  (z0h (z0A z4u))))))),?_⟩
 have sb:∀n∈d.sp,intBits n≤13000:=fun n hn=>z0u (hG.bits n hn) hS
 obtain⟨sl,vp⟩:=hG.win.1
 have bl:bs.length=m:=by rw[hbs.1,q0b,List.length_dropLast,sl];rfl
 refine z0o (fun σ H'=>σ=[some (.int (m:Nat)),some (.ref lf),some (.ref p),none,none,none,none]∧H=H') (fun N hN=>?_) ?_
 ·refine⟨_,rfl,_,_,_,_,rfl,.tup hp,rfl,_,rfl,?_⟩
  refine z3r ?_
  refine⟨_,rfl,p,_,rfl,.inr (SqT.of hp),rfl,_,rfl,?_⟩
  exact z7y rfl (hN _ _ ⟨rfl,rfl⟩)
 rintro σ H0 ⟨rfl,rfl⟩
 refine z0o (fun σ H'=>σ=[some (.int (m:Nat)),some (.ref lf),some (.ref p),some (.ref d.a),some (.ref pp),none,none]∧H=H') (fun N hN=>?_) ?_
 ·exact⟨_,rfl,p,_,rfl,SqT.of hp,rfl,_,_,rfl,_,_,rfl,rfl,hN _ _ ⟨rfl,rfl⟩⟩
 rintro σ H0 ⟨rfl,rfl⟩
 refine z0o (fun σ H'=>σ=[some (.int (m:Nat)),some (.ref lf),some (.ref p),some (.ref d.a),some (.ref pp),none,none]∧H=H') (fun N hN=>?_) ?_
 ·refine⟨_,rfl,_,_,_,_,rfl,.tup hda,rfl,_,rfl,?_⟩
  refine z3r ?_
  refine⟨_,rfl,_,_,_,_,rfl,.tup hpp,rfl,_,rfl,?_⟩
  refine z3r ?_
  refine⟨_,rfl,d.a,_,rfl,.inr (SqT.of hda),_,rfl,lf,_,rfl,.inl (SqL.of hlf),rfl,_,rfl,?_⟩
  rw[q0b,q0b,hts.1,hG.len]
  refine z7y rfl ?_
  refine⟨_,rfl,pp,_,rfl,.inr (SqT.of hpp),_,rfl,rfl,_,rfl,?_⟩
  rw[q0b,bl]
  exact z7y rfl (hN _ _ ⟨rfl,rfl⟩)
 rintro σ H0 ⟨rfl,rfl⟩
 refine z0o (fun σ H'=>σ=[some (.int (m:Nat)),some (.ref lf),some (.ref p),some (.ref d.a),some (.ref pp),none,none]∧Same H H') (fun N hN=>?_) ?_
 ·refine⟨_,rfl,pp,rfl,⟨_,SqT.of hpp⟩,fun D hD=>?_⟩
  refine z1H bs (by rw[q0b]) (z5y K pp (bs.map V.ref)) hD (fun n σ=>σ.set 0 (some (.ref n))) (fun d e σ=>List.set_set ..) (fun _=>true) (fun H' n u=>u=V.ref n) (fun _ _ _ _ _ _ h=>h) (fun H' g'=>SqT.of (g' _ _ hpp)) (z0k (by rw[q0b];lia)) ?_ ?_ ?_ ?_
  ·intro i x n hx hn σ H2 g2 S h
   rw[q0k,hn] at hx
   cases hx
   exact h
  ·intro n hn Hc gc S h
   obtain⟨i,hi,rfl⟩:=q0v.mp hn
   have hid:i<y3l d:=by unfold y3l;rw[List.length_dropLast,sl];lia
   have e2:(d.sp.dropLast.map fun x=>y2n x (v d.sp m))[i]? =some (y2n (d.sp.dropLast[i]'hid) (v d.sp m)):=by rw[q0k,q0c hid];rfl
   have eb:=gc _ _ (hbs.2 i _ _ (q0c hi) e2)
   obtain⟨nn,dd,er,lo,_⟩:=y3t (x:=d.sp.dropLast[i]'hid) vp
   have eb:Hc (bs[i])=some (.tup [V.int nn,V.int dd]):=by rw[eb,er];rfl
   exact⟨_,rfl,_,nn,dd,rfl,⟨_,rfl,eb⟩,lo,_,rfl,h _ (Same.refl _)⟩
  ·intro n hn _ Hc gc _ S h
   exact⟨_,rfl,h _ _ (Same.refl _) rfl⟩
  ·intro us H1 g1 hD1 he
   rw[z0E] at he
   refine⟨D,_,rfl,.inl (SqL.of hD1),_,rfl,rfl,_,rfl,?_⟩
   rw[y2V he,bl]
   exact z7y rfl (hN _ _ ⟨rfl,g1⟩)
 rintro σ H1 ⟨rfl,g1⟩
 refine z0o (fun σ H'=>∃s5 s6,σ=[some (.int (m:Nat)),some (.ref lf),some (.ref p),some (.ref d.a),some (.ref pp),s5,s6]∧Same H H') (fun N hN=>?_) ?_
 ·refine⟨_,rfl,_,rfl,lf,d.a,true,false,_,_,rfl,SqL.of (g1 _ _ hlf),SqT.of (g1 _ _ hda),?_⟩
  refine z0H (z2b K true false lf d.a (as.map V.ref) (d.sg.map V.int)) (fun i σ H'=>∃s5 s6,σ=[some (.int (m:Nat)),some (.ref lf),some (.ref p),some (.ref d.a),some (.ref pp),s5,s6]∧Same H H') ⟨_,_,rfl,g1⟩ (fun i σ H' _ h=>by obtain⟨_,_,_,g⟩:=h;exact⟨SqL.of (g _ _ hlf),SqT.of (g _ _ hda)⟩) ?_ ?_
  ·clear g1
   rintro i x σ H2 H3 hi ⟨s5,s6,rfl,g⟩ ⟨pr,u,u2,rfl,hpr,huv,rfl⟩
   rw[q1e,q0b,q0b,hts.1] at hi
   rw[q0Y,q0k,q0k] at huv
   obtain⟨a,ha,rfl⟩:=q0A.mp huv.1
   obtain⟨sn,hs,rfl⟩:=q0A.mp huv.2
   have et:ts[i]? =some ts[i]:=q0c (by lia)
   have htm:=q0y (show i<ts.length by lia)
   have hwi:=hG.win.2 _ ((z5b hG.len.symm).mpr ⟨i,by lia,rfl⟩)
   have hvs:v d.sg i=sn:=by
        show d.sg.getD i 0=sn
        rw[q0a,hs];rfl
   rw[z1s,hvs] at hwi
   have hsn:=hG.sgn sn (q0u hs)
   have k1:=z0f hpr (.tup [V.ref a,V.int sn])
   have w1:upd H2 pr (.tup [V.ref a,V.int sn]) pr=some (.tup [V.ref a,V.int sn]):=z0c
   generalize upd H2 pr (.tup [V.ref a,V.int sn])=H4 at*
   have g4:=g.trans k1
   have ea:=g4 _ _ (hts.2 i a _ ha et)
   generalize ts[i]=t at*
   obtain⟨tl,tb⟩:=zt t htm
   refine⟨pr,_,rfl,SqT.of w1,rfl,_,_,rfl,_,_,rfl,rfl,?_⟩
   refine⟨_,rfl,sn,rfl,_,rfl,?_⟩
   refine z3r ?_
   refine⟨_,rfl,_,rfl,rfl,_,rfl,?_⟩
   have e1:(if sn<0 then -sn else sn)=1:=by rcases hsn with rfl|rfl<;>decide
   rw[e1]
   refine z7y rfl ?_
   refine⟨_,rfl,_,rfl,a,pp,bs,t,d.sp,m,rfl,ea,g4 _ _ hpp,hbs.same g4,⟨sl,vp⟩,tl,m4,tb,sb,fun H5 g5=>?_⟩
   rw[y2f hsn hwi]
   refine⟨_,rfl,rfl,_,rfl,?_⟩
   exact z7y rfl ⟨_,_,rfl,g4.trans g5⟩
  ·rintro σ H2 ⟨s5,s6,rfl,g⟩
   exact hN _ _ ⟨_,_,rfl,g⟩
 clear g1
 rintro σ H2 ⟨s5,s6,rfl,g⟩
 exact q _ g
end
end L2
namespace L2
open PySem PySem.Spec PyProof.Rows
section
open Fr Wl Rk Pt Ld Srt
open Builtin.Int (intBits)
variable {P:Program}{w:World}{K:PySem.W.Frag}{mg:Str→Option Value}{base:Heap}{f:Addr}{fd:FuncData}
theorem z7Y {rs:List Int}{j k:Nat} (hn:∃n∈rs,n≠0) (h:intBits (v rs j)≤k):intBits (v (z0l rs) j)≤k:=by
 refine intBits_le_of_natAbs (y:=v rs j) ?_ h
 rw[←z1w (r:=rs) j,Int.natAbs_mul]
 have:=z2T hn
 exact Nat.le_mul_of_pos_right _ (by lia)
theorem y5b {m:Nat}{t:List Int} (h:wlD m t):WL m t∧Bd m 32 64 t:=by
 obtain⟨rs,rfl,hl,⟨j,hj,hn⟩,hb,hw⟩:=h
 have hnz:∃n∈rs,n≠0:=z3G hn
 have pl:(z0l rs).length =m+1:=by rw[Rk.plain_len,hl]
 exact⟨⟨pl,z1J hnz,j,hj,fun z=>hn ((z1F hnz j).mp z)⟩,pl,fun j hj=>z7Y hnz (hw j hj),z7Y hnz (z1d hb m)⟩
theorem lim4 {m:Nat} (h:m≤4):z7v m 32 64=true:=by
 rcases (by lia:m=0∨m=1∨m=2∨m=3∨m=4) with rfl|rfl|rfl|rfl|rfl<;>decide
structure WsA (K:PySem.W.Frag) (H:Hp) (m:Nat) (lw:Addr) (as:List Addr) (ts:List (List Int)) (b c:Nat):Prop where
 lst:H lw=some (.lst (as.map V.ref))
 rows:TsA H as ts
 bd:∀u∈ts,Bd m b c u
 lim:z7v m b c=true
 m4:m≤4
 n8:ts.length≤8
theorem WsA.same {H H':Hp}{m:Nat}{lw:Addr}{as:List Addr}{ts:List (List Int)}{b c:Nat} (h:WsA K H m lw as ts b c) (g:Same H H'):WsA K H' m lw as ts b c:=⟨g _ _ h.lst,h.rows.same g,h.bd,h.lim,h.m4,h.n8⟩
def bn:Nat→Nat→Nat
 |0,_=>1
 |_+1,0=>1
 |n+1,m+1=>bn n (m+1)+bn n m
theorem y4W (m:Nat):∀{a b:Nat},a≤b→bn a m≤bn b m:=by
 have h:∀n,bn n m≤bn (n+1) m:=fun n=>by
  cases m with
  |zero=>cases n<;>exact Nat.le_refl _
  |succ m=>show _≤bn n (m+1)+bn n m;lia
 intro a b hab
 induction hab with
 |refl=>exact Nat.le_refl _
 |step _ ih=>exact Nat.le_trans ih (h _)
theorem z5K:∀(n m:Nat) (ts:List (List Int)),ts.length=n→(∀t∈ts,WL m t)→ts.Nodup→(sgN m ts ts.length).length ≤bn n m
 |0,m,ts,hn,_,_=>by
  rw[q1j.mp hn]
  exact q0e 1
 |n+1,m,ts,hn,hw,nd=>by
  obtain⟨A,t,rfl⟩:=z4o (ts:=ts) (fun z=>by rw[z] at hn;simp at hn)
  have ht:=hw t (by simp)
  obtain⟨m,rfl⟩:∃k,m=k+1:=⟨m - 1,by have:=ht.fp;lia⟩
  have hAn:A.length=n:=by simpa using hn
  have nd':=q1A.mp nd
  have hA:∀u∈A,WL (m+1) u∧u≠t:=fun u hu=>⟨hw u (q0C _ hu),fun e=>nd'.2.2 u hu t (by simp) e⟩
  have hD:=y1T ht (fun u hu=>(hA u hu).1.len) (ts:=A)
  have hDn:(wd (drF t) A).Nodup :=by unfold wd;exact z3p _ _ (by simp)
  have hDl:=z9F (drF t) A
  rw[z5d ht hA]
  have h1:=z5K n (m+1) A hAn (fun u hu=>(hA u hu).1) nd'.1
  have h2:=z5K (wd (drF t) A).length m _ rfl hD hDn
  have h3:=y4W m (show (wd (drF t) A).length ≤n by lia)
  show _≤bn n (m+1)+bn n m
  lia
termination_by n _ ts=>n
decreasing_by
 all_goals first|lia|(simp_wf;lia)|simp_wf
theorem y1m {m:Nat}{ts:List (List Int)} (hw:∀t∈ts,WL m t) (nd:ts.Nodup) (t6:ts.length≤6) (m4:m≤4) (h5:m=4→ts.length≤5):(sgN m ts ts.length).length <64:=by
 refine Nat.lt_of_le_of_lt (z5K _ m ts rfl hw nd) ?_
 rcases (by lia:m=4∨m≤3) with rfl|h3
 ·exact Nat.lt_of_le_of_lt (y4W 4 (h5 rfl)) (by decide)
 ·refine Nat.lt_of_le_of_lt (y4W m t6) ?_
  rcases (by lia:m=0∨m=1∨m=2∨m=3) with rfl|rfl|rfl|rfl<;>decide
theorem y1O (x q:Int):∀l:List Int,Wp (l++[x]) q=Wp l q+x*q^l.length
 |[]=>by
  show 0*q+x=0+x*q^0
  rw[Int.pow_zero];lia
 |a::l=>by
  show Wp (l++[x]) q*q+a=Wp l q*q+a+x*q^(l.length+1)
  rw[y1O x q l,Int.pow_succ]
  grind
theorem y3S (f:Nat→Int):∀n,Wp ((List.range n).map f) (-1)=sumTo n fun k=>(-1)^k*f k
 |0=>rfl
 |n+1=>by
  rw[List.range_succ,q0H,List.map_singleton,y1O,y3S f n,q0b,q1n,Ld.sumTo,q1p (f n)]
theorem y1L (m:Nat) (f:Nat→Int):∀n,sumTo n (fun k=>(-1)^(m+k)*f k)=(-1)^m*sumTo n fun k=>(-1)^k*f k
 |0=>by show (0:Int)=_*0;rw[Int.mul_zero]
 |n+1=>by
  rw[Ld.sumTo,Ld.sumTo,y1L m f n,Int.pow_add]
  grind
theorem y1y {m:Nat}{ts:List (List Int)} (hw:∀t∈ts,WL m t) (nd:ts.Nodup):(Wp (z9c m ts) (-1)).natAbs =(sgN m ts ts.length).length :=by
 have h:=z3b ts.length m ts rfl hw nd
 have e:alt m (pS m [] ts)=(-1)^m*Wp (z9c m ts) (-1):=by
  unfold alt z9c
  rw[y1L,y3S]
 rw[e] at h
 have h2:=congrArg Int.natAbs h
 rw[Int.natAbs_natCast,Int.natAbs_mul,Int.natAbs_pow] at h2
 rw[h2]
 show _=1^m*_
 rw[Nat.one_pow,Nat.one_mul]
theorem z7h {m:Nat}{ts:List (List Int)} (t6:ts.length≤6):((sgN m ts ts.length).map St.tH).Nodup :=by
 have hl:∀s∈sgN m ts ts.length,s.length=ts.length∧Sgn s:=fun s hs=>by
  have:=(z2Z (q0e _)).mp hs
  exact⟨this.1,this.2.1⟩
 have nd:=z3e m ts ts.length
 generalize sgN m ts ts.length=L at*
 rw[List.nodup_iff_pairwise_ne,q0Z]
 refine List.Pairwise.imp_of_mem ?_ (List.nodup_iff_pairwise_ne.mp nd)
 intro a b ha hb hne e
 exact hne (St.tH_inj (n:=ts.length) (by lia) (hl a ha).2 (hl b hb).2 (hl a ha).1 (hl b hb).1 e)
theorem z5e {H:Hp}{m:Nat}{dd:List LandD}{xs:List V} (h:Each (LandPt H m) dd xs):∃cs:List (LandD×Addr),cs.map (·.1)=dd∧Each (fun e x=>x= .ref e.2∧∃pp,H e.2=some (.tup [.ref e.1.a,.ref pp])∧H e.1.a=some (.tup (e.1.sg.map V.int))) cs xs:=by
 induction h with
 |nil=>exact⟨[],rfl,.nil⟩
 | @cons d x _ _ h1 _ ih=>
   obtain⟨p,pp,bs,e,h1,h2,_⟩:=h1
   obtain⟨cs,e1,e2⟩:=ih
   exact⟨(d,p)::cs,by rw[q0t,e1],.cons ⟨e,pp,h1,h2⟩ e2⟩
theorem z6F {H H':Hp}{cs:List (LandD×Addr)}{xs:List V} (h:Each (fun e x=>x= .ref e.2∧∃pp,H e.2=some (.tup [.ref e.1.a,.ref pp])∧H e.1.a=some (.tup (e.1.sg.map V.int))) cs xs) (g:Same H H'):TsA H' (cs.map fun e=>e.1.a) (cs.map fun e=>e.1.sg):=by
 refine⟨by simp,fun i a t e1 e2=>?_⟩
 rw[q0k] at e1 e2
 obtain⟨e,he,rfl⟩:=q0A.mp e1
 rw[he] at e2
 cases e2
 have hi:i<xs.length:=by rw[←h.length];exact (q0E.mp he).1
 obtain⟨_,_,_,h2⟩:=h.get he (q0c hi)
 exact g _ _ h2
end
end L2
namespace L2
open PySem PySem.Spec PyProof.Rows
section
open Fr Wl Rk Pt Ld Srt
open Builtin.Int (intBits)
variable {P:Program}{w:World}{K:PySem.W.Frag}{mg:Str→Option Value}{base:Heap}{f:Addr}{fd:FuncData}
abbrev z5x:Stmt:=top 42
theorem sc_law:z0z ["_law_script","_law_draws_here","_law_ways","_law_fences_here","_law_handed","_law_found","_law_land_here","_law_signs","_law_kept"] ["_law_script"] (z0g z5x):=⟨rfl,rfl,rfl,by decide+kernel,rfl,by decide+kernel,by decide+kernel⟩
def y2c (K:PySem.W.Frag):Sp:=fun vs H Q _=>∃(a:Addr) (ns:List Int),vs=[.ref a]∧SqL K H a (ns.map V.int)∧ns.length≤63∧∀H',Q (.bl true) H'
structure LwA (K:PySem.W.Frag) (H:Hp) (lf lh r:Addr) (m:Nat) (as:List Addr) (ts:List (List Int)) (xs:List V) (dd:List LandD):Prop where
 wf:WsA K H m lf as ts 32 64
 wh:WsA K H m lh as ts 32 64
 nf:r≠lf
 nh:r≠lh
 er:H r=some (.lst xs)
 ea:Each (LandPt H m) dd xs
theorem LwA.same {H H':Hp}{lf lh r:Addr}{m:Nat}{as:List Addr}{ts:List (List Int)}{xs:List V}{dd:List LandD} (h:LwA K H lf lh r m as ts xs dd) (g:Same H H'):LwA K H' lf lh r m as ts xs dd:=
 ⟨h.wf.same g,h.wh.same g,h.nf,h.nh,g _ _ h.er,h.ea.imp fun _ _ h=>LandPt.same h g⟩
theorem y5I (T:Txt mg) (F:Fun K "law" "law" z5x f fd) (c_l_draws:Cal P w K mg base 22 "_law_draws" ["_law_script"] (z9W K)) (c_l_fences:Cal P w K mg base 22 "_law_fences" ["_law_draws_here","_law_most"] (z7S K)) (c_lands:Cal P w K mg base 22 "lands" ["ways","walls"] (z9V K)) (c_l_land:Cal P w K mg base 22 "_law_land" ["_law_ways","_law_fences_here","_law_found"] (y3p K)) (c_l_polynomial:Cal P w K mg base 22 "_law_polynomial" ["_law_ways","_law_fences_here"] (z9S K)) (c_l_worth:Cal P w K mg base 22 "_law_worth" ["_law_polynomial_here","_law_number"] (z9P K)):FnOk P w K mg base CX0 23 f fd ["_law_script"] (y2c K):=by
 refine F.ok sc_law (fun vs H Q E h=>?_) (fun cdv A outer s H vs Q E hr h=>?_)
 ·obtain⟨_,_,rfl,_⟩:=h;rfl
 obtain⟨a,ss,rfl,hS,h63,q⟩:=h
 refine⟨_,(z0b (z0n (i:=1) sc_law.nd rfl (Or.inl rfl) (z0s c_l_draws hr rfl (z0a (pv 0) z0d)))
  (z0b (z2u (z0s c_l_fences hr rfl (z0a (pv 1) (z0a z0e z0d))) (z1m (K:=K) rfl 2 rfl (z0B (z0j (i:=2) sc_law.nd rfl (Or.inl rfl)) (z0B (z0j (i:=3) sc_law.nd rfl (Or.inl rfl)) z1l))))
  (z0b (z0n (i:=4) sc_law.nd rfl (Or.inl rfl) (z1v (z2f (K:=K) rfl) rfl T.list boot_list (z0a (pv 3) z0d)))
  (z0b (z0n (i:=5) sc_law.nd rfl (Or.inl rfl) (z0s c_lands hr rfl (z0a (pv 2) (z0a (pv 4) z0d))))
  (z0b (z1c (PW.pt (z4K (z2t (z2n (z0y z1g rfl T.isinstance boot_isinstance (z0a (pv 5) (z0a (z2Y (v:= .ty "list") rfl T.list boot_list rfl) z0d))))) (z6u (z0x (z4v (K:=K) rfl hr.units) (pv 4) (pv 3) (z0F _))))) (z0h (z0A z4u)) z0C)
  (z0b (z1b PassesOwn.never rfl (z0D (K:=K) rfl (pv 5)) (z0j (i:=6) sc_law.nd rfl (Or.inl rfl)) (z0h (z1c (z2t (z2n (z0s c_l_land hr rfl (z0a (pv 2) (z0a (pv 3) (z0a (pv 6) z0d)))))) (z0h (z0A z4u)) z0C)))
  (z0b (z3B (jj:=7) rfl sc_law.nd rfl (Or.inl rfl) (Or.inl rfl) (Nc:=["_law_land_here"]) (fr:=[none]) rfl (z0D (K:=K) rfl (pv 5)) rfl (by decide) rfl (by decide) rfl trivial trivial (fun _ _ _ _=>(z0j (i:=0) (show List.Nodup (["_law_land_here"]:List Str) from by decide) rfl (Or.inl rfl))) (fun _ _ _ _=>z0Q) (fun _ _ _ _=>(z0K (z1L (K:=K) rfl) (pv 0) z0e (fun _ _=>rfl))))
  (z0b (z1c (z0x (z4v (K:=K) rfl hr.units) (pv 7) (z0y (z9y (w:=w) rfl rfl hr.units) rfl T.sorted boot_sorted (z0a (z1v (y1B (w:=w) rfl rfl hr.units) rfl T.set boot_set (z0a (pv 7) z0d)) z0d)) (z0F _)) (z0h (z0A z4u)) z0C)
  (z0b (z0n (i:=8) sc_law.nd rfl (Or.inl rfl) (z1v (z2f (K:=K) rfl) rfl T.list boot_list (z0a (pv 5) z0d)))
  (z0b (z2X (y5z PySem.F.plainAttrs_list PySem.F.slot_list_clear PySem.F.type_list_clear y2E (pv 5)))
  (z0b (z0n (i:=5) sc_law.nd rfl (Or.inl rfl) (z0s c_lands hr rfl (z0a (pv 2) (z0a (pv 4) z0d))))
  (z0b (z1c (z0x (z4v (K:=K) rfl hr.units) (z0N (Nc:=["_law_land_here"]) (fr:=[none]) rfl (z0D (K:=K) rfl (pv 5)) rfl (by decide) rfl (by decide) rfl trivial trivial (fun _ _ _ _=>(z0j (i:=0) (show List.Nodup (["_law_land_here"]:List Str) from by decide) rfl (Or.inl rfl))) (fun _ _ _ _=>z0Q) (fun _ _ _ _=>(z0K (z1L (K:=K) rfl) (pv 0) z0e (fun _ _=>rfl)))) (pv 7) (z0F _)) (z0h (z0A z4u)) z0C)
  (z0b (z1b PassesOwn.never rfl (z0D (K:=K) rfl (pv 5)) (z0j (i:=6) sc_law.nd rfl (Or.inl rfl)) (z0h (z1c (z2t (z2n (z0s c_l_land hr rfl (z0a (pv 2) (z0a (pv 3) (z0a (pv 6) z0d)))))) (z0h (z0A z4u)) z0C)))
  (z0b (z0n (i:=5) sc_law.nd rfl (Or.inl rfl) (pv 8))
  (z0h (z0A (z4t z4x (z0y (z0S (K:=K) rfl) rfl T.len PySem.boot_len (z0a (pv 5) z0d)) (z0y z2O rfl T.abs boot_abs (z0a (z0s c_l_worth hr rfl (z0a (z0s c_l_polynomial hr rfl (z0a (pv 2) (z0a (pv 3) z0d))) (z0a (z2Q z1x z0e) z0d))) z0d)) (z0F _)))))))))))))))))),?_⟩
 refine z0o (fun σ H'=>∃(l:Addr) (ds:List Int),σ=[some (.ref a),some (.ref l),none,none,none,none,none,none,none]∧ds.length=60∧(∀d∈ds,0≤d∧d<2147483587)∧H' l=some (.lst (ds.map V.int))) (fun N hN=>?_) ?_
 ·exact⟨_,rfl,a,ss,rfl,hS,h63,fun ds l H' _ dl db g e=>hN _ _ ⟨l,ds,rfl,dl,db,e⟩⟩
 rintro σ H1 ⟨l,ds,rfl,dl,db,el⟩
 refine z0o (fun σ H'=>∃(m:Nat) (lf:Addr) (as:List Addr) (ts:List (List Int)),σ=[some (.ref a),some (.ref l),some (.int (m:Nat)),some (.ref lf),none,none,none,none,none]∧WsA K H' m lf as ts 32 64∧ts.length≤6∧(m=4→ts.length≤5)∧(∀t∈ts,WL m t)∧ts.Nodup∧(m=0→ts=[])) (fun N hN=>?_) ?_
 ·refine⟨_,rfl,l,ds,6,rfl,el,dl,db,by decide,fun tp lf as ts m H2 hlf g2 etp elf hts m4 t6 h45 m0 hnd hw=>?_⟩
  exact⟨tp,_,rfl,SqT.of etp,rfl,_,_,rfl,_,_,rfl,rfl,hN _ _ ⟨m,lf,as,ts,rfl,⟨elf,hts,fun u hu=>(y5b (hw u hu)).2,lim4 m4,m4,by lia⟩,t6,h45,fun t ht=>(y5b (hw t ht)).1,hnd,m0⟩⟩
 clear el
 rintro σ H2 ⟨m,lf,as,ts,rfl,hW,t6,h45,hwl,hnd,hm0⟩
 have m4:=hW.m4
 have hbt:∀t∈ts,t.length=m+1∧∀n∈t,intBits n≤64:=fun t ht=>⟨(hW.bd t ht).len,fun n hn=>z0u ((hW.bd t ht).all n hn) (by decide)⟩
 have hfew:=y1m hwl hnd t6 m4 h45
 have hap:=z7h (m:=m) t6
 have hcnt:=y1y hwl hnd
 have hsrt:∀rs:List (List Int),rs.Perm (sgN m ts ts.length)→z5v rs=sgN m ts ts.length:=fun rs h=>y2e h
 have hne:2≤(sgN m ts ts.length).length →∀k∈sgN m ts ts.length,k≠[]:=fun h2 k hk z=>by
  have:=((z2Z (q0e _)).mp hk).1
  rw[z] at this
  have e0:ts=[]:=q1j.mp this.symm
  rw[e0] at h2
  exact absurd h2 (by show ¬2≤1;decide)
 have hSb:Sb m 32 64≤13000:=by have:=y2J (lim4 m4);lia
 generalize hSSe:sgN m ts ts.length=SS at*
 refine z0o (fun σ H'=>∃lh,σ=[some (.ref a),some (.ref l),some (.int (m:Nat)),some (.ref lf),some (.ref lh),none,none,none,none]∧Same H2 H'∧WsA K H' m lh as ts 32 64) (fun N hN=>?_) ?_
 ·refine⟨_,rfl,lf,_,rfl,.inl (SqL.of hW.lst),fun lh hlh=>hN _ _ ⟨lh,rfl,?_⟩⟩
  have g4:=z0f hlh (.lst (as.map V.ref))
  have hW4:=hW.same g4
  exact⟨g4,z0c,hW4.rows,hW4.bd,hW4.lim,hW4.m4,hW4.n8⟩
 rintro σ H3 ⟨lh,rfl,g3,hWh⟩
 have hW3:=hW.same g3
 clear hW g3 H2
 refine z0o (fun σ H'=>∃r xs dd,σ=[some (.ref a),some (.ref l),some (.int (m:Nat)),some (.ref lf),some (.ref lh),some (.ref r),none,none,none]∧LwA K H' lf lh r m as ts xs dd∧(∀d∈dd,z3J m 32 64 ts d)∧dd.map LandD.sg=SS) (fun N hN=>?_) ?_
 ·refine⟨_,rfl,_,rfl,m,lh,as,ts,32,64,rfl,hWh.lst,hWh.rows,hWh.bd,hWh.lim,hWh.m4,hWh.n8,fun r xs dd H4 hr4 g4 er hE hG hsg=>?_⟩
  rw[hSSe] at hsg
  exact hN _ _ ⟨r,xs,dd,rfl,⟨hW3.same g4,hWh.same g4,Ne.symm (z0i hW3.lst hr4),Ne.symm (z0i hWh.lst hr4),er,hE⟩,hG,hsg⟩
 clear hW3 hWh H3
 rintro σ H4 ⟨r,xs,dd,rfl,hL,hG,hsg⟩
 have hdl:dd.length=SS.length:=by rw[←hsg,q0b]
 have hxl:xs.length=SS.length:=by rw[←hL.ea.length,hdl]
 refine z0o (fun σ H'=>σ=[some (.ref a),some (.ref l),some (.int (m:Nat)),some (.ref lf),some (.ref lh),some (.ref r),none,none,none]∧H4=H') (fun N hN=>?_) ?_
 ·refine⟨_,rfl,_,_,_,_,rfl,.lst hL.er,rfl,_,rfl,?_⟩
  refine z3r ?_
  refine⟨_,rfl,_,rfl,lh,lf,_,_,rfl,rfl,z5h hL.wh.lst hL.wh.rows,z5h hL.wf.lst hL.wf.rows,z8h _ _,_,rfl,?_⟩
  rw[(Dt.eqb_iff _ _).mpr rfl]
  exact z3r (hN _ _ ⟨rfl,rfl⟩)
 rintro σ H4' ⟨rfl,rfl⟩
 refine z0o (fun σ H'=>∃s6,σ=[some (.ref a),some (.ref l),some (.int (m:Nat)),some (.ref lf),some (.ref lh),some (.ref r),s6,none,none]∧Same H4 H') (fun N hN=>?_) ?_
 ·refine⟨_,rfl,r,rfl,⟨_,SqL.of hL.er⟩,?_⟩
  refine z0H (z0v K r xs) (fun i σ H'=>∃s6,σ=[some (.ref a),some (.ref l),some (.int (m:Nat)),some (.ref lf),some (.ref lh),some (.ref r),s6,none,none]∧Same H4 H')
   ⟨_,rfl,Same.refl _⟩ (fun _ _ _ _ h=>by obtain⟨_,_,g⟩:=h;exact SqL.of (g _ _ hL.er)) ?_ ?_
  ·rintro i x σ H5' H5 hi ⟨s6,rfl,g5⟩ ⟨rfl,hx⟩
   have hid:i<dd.length:=by rw[hdl,←hxl];exact hi
   have hd:dd[i]? =some dd[i]:=q0c hid
   have hL5:=hL.same g5
   refine⟨_,rfl,_,rfl,_,rfl,lf,x,as,ts,dd[i],m,32,64,rfl,hL5.wf.lst,hL5.wf.rows,hL5.ea.get hd hx,hG _ (q0y hid),hSb,by lia,m4,hbt,fun H6 g6=>?_⟩
   refine⟨_,rfl,?_⟩
   exact z3r ⟨_,rfl,g5.trans g6⟩
  ·rintro σ H5 ⟨s6,rfl,g5⟩
   exact hN _ _ ⟨_,rfl,g5⟩
 rintro σ H5 ⟨s6,rfl,g5⟩
 have hL5:=hL.same g5
 clear hL g5
 obtain⟨cs,ecs,hcs⟩:=z5e hL5.ea
 have ecs2:cs.map (fun e=>e.1.sg)=SS:=by rw[←hsg,←ecs,q0M];rfl
 have hcl:cs.length=SS.length:=by rw[←ecs2,q0b]
 refine z0o (fun σ H'=>∃(lsg:Addr) (es:List Addr),σ=[some (.ref a),some (.ref l),some (.int (m:Nat)),some (.ref lf),some (.ref lh),some (.ref r),s6,some (.ref lsg),none]∧LwA K H' lf lh r m as ts xs dd∧r≠lsg∧H' lsg=some (.lst (es.map V.ref))∧TsA H' es SS) (fun N hN=>?_) ?_
 ·refine⟨_,rfl,r,rfl,⟨_,SqL.of hL5.er⟩,fun D hD=>?_⟩
  refine z1H cs hcs.length.symm (z0v K r xs) hD (fun e σ=>σ.set 0 (some (.ref e.2))) (fun d e σ=>List.set_set ..) (fun _=>true) (fun H' e u=>u= .ref e.1.a) (fun _ _ _ _ _ _ h=>h) (fun H' g'=>SqL.of (g' _ _ hL5.er)) (z0k (by rw[hxl];lia)) ?_ ?_ ?_ ?_
  ·intro i x d hx hd σ H6 g6 S h
   obtain⟨rfl,_⟩:=hcs.get hd hx
   exact h
  ·intro d hd Hc gc S h
   exact h _ (Same.refl _)
  ·intro d hd _ Hc gc _ S h
   obtain⟨i,hi,rfl⟩:=q0v.mp hd
   obtain⟨_,pp,h1,_⟩:=hcs.get (q0c hi) (q0c (show i<xs.length by rw[←hcs.length];exact hi))
   exact⟨_,rfl,_,_,_,_,rfl,rfl,SqT.of (gc _ _ h1),rfl,h _ _ (Same.refl _) rfl⟩
  ·intro us H6 g6 hD6 he
   rw[z0E] at he
   have eu:us=(cs.map fun e=>e.1.a).map V.ref:=by
        clear hD6 hcs ecs ecs2 hcl
        induction he with
        |nil=>rfl
        |cons h1 _ ih=>rw[h1,ih];rfl
   subst eu
   have hT:=z6F hcs g6
   rw[ecs2] at hT
   exact hN _ _ ⟨D,_,rfl,hL5.same g6,z0i hL5.er hD,hD6,hT⟩
 clear hcs ecs ecs2 hcl cs hL5
 rintro σ H6 ⟨lsg,es,rfl,hL,hrs,elg,hTs⟩
 have hel:es.length=SS.length:=hTs.1
 refine z0o (fun σ H'=>σ=[some (.ref a),some (.ref l),some (.int (m:Nat)),some (.ref lf),some (.ref lh),some (.ref r),s6,some (.ref lsg),none]∧Same H6 H') (fun N hN=>?_) ?_
 ·refine⟨_,rfl,_,rfl,lsg,es,SS,rfl,elg,hTs,hap,by lia,fun S H7 hS7 g7 eS=>?_⟩
  refine⟨S,es,SS,rfl,eS,hTs.same g7,by lia,fun h2=>hne (by lia),fun D bs rs H8 hD8 g8 eD hp hbs=>?_⟩
  rw[hsrt rs hp] at hbs
  have g68:=g7.trans g8
  refine⟨lsg,D,_,_,rfl,rfl,z5h (g68 _ _ elg) (hTs.same g68),z5h eD hbs,z8h _ _,_,rfl,?_⟩
  rw[(Dt.eqb_iff _ _).mpr rfl]
  exact z3r (hN _ _ ⟨rfl,g68⟩)
 rintro σ H7 ⟨rfl,g7⟩
 have hL7:=hL.same g7
 have elg7:=g7 _ _ elg
 have hTs7:=hTs.same g7
 clear hL elg hTs g7
 refine z0o (fun σ H'=>∃lk,σ=[some (.ref a),some (.ref l),some (.int (m:Nat)),some (.ref lf),some (.ref lh),some (.ref r),s6,some (.ref lsg),some (.ref lk)]∧Same H7 H'∧r≠lk∧H' lk=some (.lst xs)) (fun N hN=>?_) ?_
 ·refine⟨_,rfl,r,_,rfl,.inl (SqL.of hL7.er),fun lk hlk=>hN _ _ ⟨lk,rfl,z0f hlk _,z0i hL7.er hlk,z0c⟩⟩
 rintro σ H8 ⟨lk,rfl,g8,hrk,elk⟩
 have hL8:=hL7.same g8
 have elg8:=g8 _ _ elg7
 have hTs8:=hTs7.same g8
 clear hL7 elg7 hTs7 g8
 refine z0o (fun σ H'=>σ=[some (.ref a),some (.ref l),some (.int (m:Nat)),some (.ref lf),some (.ref lh),some (.ref r),s6,some (.ref lsg),some (.ref lk)]∧WsA K H' m lf as ts 32 64∧WsA K H' m lh as ts 32 64∧H' lsg=some (.lst (es.map V.ref))∧TsA H' es SS∧H' lk=some (.lst xs)) (fun N hN=>?_) ?_
 ·refine⟨_,rfl,.inl ⟨rfl,_,SqL.of hL8.er⟩,r,_,rfl,rfl,hL8.er,?_⟩
  have tk:∀{bs:List Addr}{us:List (List Int)},TsA H8 bs us→TsA (upd H8 r (.lst [])) bs us:=fun {bs us} h=>⟨h.1,fun i a t e1 e2=>by
   have e:=h.2 i a t e1 e2
   rw[z0m (ne_of e hL8.er (fun z=>by cases z))];exact e⟩
  exact hN _ _ ⟨rfl,⟨by rw[z0m (Ne.symm hL8.nf)];exact hL8.wf.lst,tk hL8.wf.rows,hL8.wf.bd,hL8.wf.lim,m4,hL8.wf.n8⟩,⟨by rw[z0m (Ne.symm hL8.nh)];exact hL8.wh.lst,tk hL8.wh.rows,hL8.wh.bd,hL8.wh.lim,m4,hL8.wh.n8⟩,by rw[z0m (Ne.symm hrs)];exact elg8,tk hTs8,by rw[z0m (Ne.symm hrk)];exact elk⟩
 clear hL8 elg8 hTs8 elk hrk hrs hsg hG hdl dd
 rintro σ H9 ⟨rfl,hWf,hWh,elg,hTs,elk⟩
 refine z0o (fun σ H'=>∃r2 ys dd,σ=[some (.ref a),some (.ref l),some (.int (m:Nat)),some (.ref lf),some (.ref lh),some (.ref r2),s6,some (.ref lsg),some (.ref lk)]∧LwA K H' lf lh r2 m as ts ys dd∧(∀d∈dd,z3J m 32 64 ts d)∧dd.map LandD.sg=SS∧H' lsg=some (.lst (es.map V.ref))∧TsA H' es SS∧H' lk=some (.lst xs)) (fun N hN=>?_) ?_
 ·refine⟨_,rfl,_,rfl,m,lh,as,ts,32,64,rfl,hWh.lst,hWh.rows,hWh.bd,hWh.lim,hWh.m4,hWh.n8,fun r2 ys dd H10 hr4 g4 er hE hG hsg=>?_⟩
  rw[hSSe] at hsg
  exact hN _ _ ⟨r2,ys,dd,rfl,⟨hWf.same g4,hWh.same g4,Ne.symm (z0i hWf.lst hr4),Ne.symm (z0i hWh.lst hr4),er,hE⟩,hG,hsg,g4 _ _ elg,hTs.same g4,g4 _ _ elk⟩
 clear hWf hWh elg hTs elk H9
 rintro σ H10 ⟨r2,ys,dd,rfl,hL,hG,hsg,elg,hTs,elk⟩
 have hdl:dd.length=SS.length:=by rw[←hsg,q0b]
 have hyl:ys.length=SS.length:=by rw[←hL.ea.length,hdl]
 obtain⟨cs,ecs,hcs⟩:=z5e hL.ea
 have ecs2:cs.map (fun e=>e.1.sg)=SS:=by rw[←hsg,←ecs,q0M];rfl
 refine z0o (fun σ H'=>σ=[some (.ref a),some (.ref l),some (.int (m:Nat)),some (.ref lf),some (.ref lh),some (.ref r2),s6,some (.ref lsg),some (.ref lk)]∧Same H10 H') (fun N hN=>?_) ?_
 ·refine⟨_,rfl,r2,rfl,⟨_,SqL.of hL.er⟩,fun D hD=>?_⟩
  refine z1H cs hcs.length.symm (z0v K r2 ys) hD (fun e σ=>σ.set 0 (some (.ref e.2))) (fun d e σ=>List.set_set ..) (fun _=>true) (fun H' e u=>u= .ref e.1.a) (fun _ _ _ _ _ _ h=>h) (fun H' g'=>SqL.of (g' _ _ hL.er)) (z0k (by rw[hyl];lia)) ?_ ?_ ?_ ?_
  ·intro i x d hx hd σ H6 g6 S h
   obtain⟨rfl,_⟩:=hcs.get hd hx
   exact h
  ·intro d hd Hc gc S h
   exact h _ (Same.refl _)
  ·intro d hd _ Hc gc _ S h
   obtain⟨i,hi,rfl⟩:=q0v.mp hd
   obtain⟨_,pp,h1,_⟩:=hcs.get (q0c hi) (q0c (show i<ys.length by rw[←hcs.length];exact hi))
   exact⟨_,rfl,_,_,_,_,rfl,rfl,SqT.of (gc _ _ h1),rfl,h _ _ (Same.refl _) rfl⟩
  ·intro us H11 g6 hD6 he
   rw[z0E] at he
   have eu:us=(cs.map fun e=>e.1.a).map V.ref:=by
        clear hD6 hcs ecs ecs2
        induction he with
        |nil=>rfl
        |cons h1 _ ih=>rw[h1,ih];rfl
   subst eu
   have hT:=z6F hcs g6
   rw[ecs2] at hT
   refine⟨_,rfl,D,lsg,_,_,rfl,rfl,z5h hD6 hT,z5h (g6 _ _ elg) (hTs.same g6),z8h _ _,_,rfl,?_⟩
   rw[(Dt.eqb_iff _ _).mpr rfl]
   exact z3r (hN _ _ ⟨rfl,g6⟩)
 clear hcs ecs ecs2 cs
 rintro σ H11 ⟨rfl,g11⟩
 have hL11:=hL.same g11
 have elk11:=g11 _ _ elk
 clear hL g11 elk elg hTs
 refine z0o (fun σ H'=>∃s6,σ=[some (.ref a),some (.ref l),some (.int (m:Nat)),some (.ref lf),some (.ref lh),some (.ref r2),s6,some (.ref lsg),some (.ref lk)]∧Same H11 H') (fun N hN=>?_) ?_
 ·refine⟨_,rfl,r2,rfl,⟨_,SqL.of hL11.er⟩,?_⟩
  refine z0H (z0v K r2 ys) (fun i σ H'=>∃s6,σ=[some (.ref a),some (.ref l),some (.int (m:Nat)),some (.ref lf),some (.ref lh),some (.ref r2),s6,some (.ref lsg),some (.ref lk)]∧Same H11 H')
   ⟨_,rfl,Same.refl _⟩ (fun _ _ _ _ h=>by obtain⟨_,_,g⟩:=h;exact SqL.of (g _ _ hL11.er)) ?_ ?_
  ·rintro i x σ H5' H5 hi ⟨s7,rfl,g5⟩ ⟨rfl,hx⟩
   have hid:i<dd.length:=by rw[hdl,←hyl];exact hi
   have hd:dd[i]? =some dd[i]:=q0c hid
   have hL5:=hL11.same g5
   refine⟨_,rfl,_,rfl,_,rfl,lf,x,as,ts,dd[i],m,32,64,rfl,hL5.wf.lst,hL5.wf.rows,hL5.ea.get hd hx,hG _ (q0y hid),hSb,by lia,m4,hbt,fun H6 g6=>?_⟩
   refine⟨_,rfl,?_⟩
   exact z3r ⟨_,rfl,g5.trans g6⟩
  ·rintro σ H5 ⟨s7,rfl,g5⟩
   exact hN _ _ ⟨_,rfl,g5⟩
 rintro σ H12 ⟨s7,rfl,g12⟩
 have hL12:=hL11.same g12
 have elk12:=g12 _ _ elk11
 clear hL11 elk11 g12
 refine z0o (fun σ H'=>σ=[some (.ref a),some (.ref l),some (.int (m:Nat)),some (.ref lf),some (.ref lh),some (.ref lk),s7,some (.ref lsg),some (.ref lk)]∧H12=H') (fun N hN=>?_) ?_
 ·exact⟨_,rfl,hN _ _ ⟨rfl,rfl⟩⟩
 rintro σ H12' ⟨rfl,rfl⟩
 have cb:∀c∈z9c m ts,c.natAbs≤2^20:=fun c hc=>by
  unfold z9c at hc
  obtain⟨k,_,rfl⟩:=q0f.mp hc
  rw[←y1G ts.length m ts (q0e _) hwl hnd k]
  by_cases hk:k<(bto ts.length m ts).length
  ·rw[q0a,q0c hk]
   exact q0o (y1H _ _ _ _ (q0y hk)) (q1x (by decide) (by lia))
  ·rw[q0a,q1o (by lia)];decide
 refine⟨_,rfl,lk,_,rfl,.inl (SqL.of elk12),_,rfl,_,rfl,lf,as,ts,m,64,rfl,hL12.wf.lst,hL12.wf.rows,by lia,m4,hbt,by decide,hm0,fun rp H13 hrp g13 erp=>?_⟩
 refine⟨_,rfl,rp,_,-1,rfl,erp,by unfold z9c;rw[List.length_map,List.length_range];lia,cb,by decide,_,rfl,rfl,?_⟩
 have ev:(if Wp (z9c m ts) (-1)<0 then -Wp (z9c m ts) (-1) else Wp (z9c m ts) (-1))=((SS.length:Nat):Int):=by
  rw[←hcnt];split<;>lia
 rw[ev,hxl,decide_eq_true rfl]
 exact q _
end
end L2
namespace L2
open PySem PySem.Spec PyProof.Rows
theorem ln1 {α:Type}{C:List α→Prop} (h:∀x0,C [x0]) (us:List α) (hl:us.length=1):C us:=by
 rcases us with _|⟨x0,_|⟨y,us⟩⟩<;>first|exact h _|simp at hl
theorem ln2 {α:Type}{C:List α→Prop} (h:∀x0 x1,C [x0,x1]) (us:List α) (hl:us.length=2):C us:=by
 rcases us with _|⟨x0,_|⟨x1,_|⟨y,us⟩⟩⟩<;>first|exact h _ _|simp at hl
theorem ln3 {α:Type}{C:List α→Prop} (h:∀x0 x1 x2,C [x0,x1,x2]) (us:List α) (hl:us.length=3):C us:=by
 rcases us with _|⟨x0,_|⟨x1,_|⟨x2,_|⟨y,us⟩⟩⟩⟩<;>first|exact h _ _ _|simp at hl
theorem ln4 {α:Type}{C:List α→Prop} (h:∀x0 x1 x2 x3,C [x0,x1,x2,x3]) (us:List α) (hl:us.length=4):C us:=by
 rcases us with _|⟨x0,_|⟨x1,_|⟨x2,_|⟨x3,_|⟨y,us⟩⟩⟩⟩⟩<;>first|exact h _ _ _ _|simp at hl
theorem all_mk {l:PySem.W.OpenLaw}{w:World}{K:PySem.W.Frag}{h:Heap}{mg:Str→Option Value}{fa:Addr} (X:K.In h) (G:h.Ns mainGlobals mg) (hfa:mg "law"=some (.ref fa))
 {od1 an1:Option Addr}{sl1:Array (Option Value)}{oc1 kV1 dc1 pm1 cd1 ct1:Value}{f1:Addr}
 (a1:PySem.W.nsIn K mainGlobals "divisor"=some (some (.ref f1))) (l1:K.lookup f1=some ⟨oc1,od1,.func (PySem.W.fnOf "divisor" "divisor" (z0w z1Z) (z0t z1Z) (z0g z1Z) .none kV1 dc1 pm1 an1 cd1 ct1),sl1⟩) (c1:PySem.W.codeIn K cd1 "divisor"=true) (k1:PySem.W.keepIn K (.ref f1)=true)
 {od2 an2:Option Addr}{sl2:Array (Option Value)}{oc2 kV2 dc2 pm2 cd2 ct2:Value}{f2:Addr}
 (a2:PySem.W.nsIn K mainGlobals "divisor_of_all"=some (some (.ref f2))) (l2:K.lookup f2=some ⟨oc2,od2,.func (PySem.W.fnOf "divisor_of_all" "divisor_of_all" (z0w z0O) (z0t z0O) (z0g z0O) .none kV2 dc2 pm2 an2 cd2 ct2),sl2⟩) (c2:PySem.W.codeIn K cd2 "divisor_of_all"=true) (k2:PySem.W.keepIn K (.ref f2)=true)
 {od3 an3:Option Addr}{sl3:Array (Option Value)}{oc3 kV3 dc3 pm3 cd3 ct3:Value}{f3:Addr}
 (a3:PySem.W.nsIn K mainGlobals "ratio"=some (some (.ref f3))) (l3:K.lookup f3=some ⟨oc3,od3,.func (PySem.W.fnOf "ratio" "ratio" (z0w z3w) (z0t z3w) (z0g z3w) .none kV3 dc3 pm3 an3 cd3 ct3),sl3⟩) (c3:PySem.W.codeIn K cd3 "ratio"=true) (k3:PySem.W.keepIn K (.ref f3)=true)
 {od4 an4:Option Addr}{sl4:Array (Option Value)}{oc4 kV4 dc4 pm4 cd4 ct4:Value}{f4:Addr}
 (a4:PySem.W.nsIn K mainGlobals "first_place"=some (some (.ref f4))) (l4:K.lookup f4=some ⟨oc4,od4,.func (PySem.W.fnOf "first_place" "first_place" (z0w z0Z) (z0t z0Z) (z0g z0Z) .none kV4 dc4 pm4 an4 cd4 ct4),sl4⟩) (c4:PySem.W.codeIn K cd4 "first_place"=true) (k4:PySem.W.keepIn K (.ref f4)=true)
 {od5 an5:Option Addr}{sl5:Array (Option Value)}{oc5 kV5 dc5 pm5 cd5 ct5:Value}{f5:Addr}
 (a5:PySem.W.nsIn K mainGlobals "cleared"=some (some (.ref f5))) (l5:K.lookup f5=some ⟨oc5,od5,.func (PySem.W.fnOf "cleared" "cleared" (z0w z2a) (z0t z2a) (z0g z2a) .none kV5 dc5 pm5 an5 cd5 ct5),sl5⟩) (c5:PySem.W.codeIn K cd5 "cleared"=true) (k5:PySem.W.keepIn K (.ref f5)=true)
 {od6 an6:Option Addr}{sl6:Array (Option Value)}{oc6 kV6 dc6 pm6 cd6 ct6:Value}{f6:Addr}
 (a6:PySem.W.nsIn K mainGlobals "rest_by"=some (some (.ref f6))) (l6:K.lookup f6=some ⟨oc6,od6,.func (PySem.W.fnOf "rest_by" "rest_by" (z0w z1U) (z0t z1U) (z0g z1U) .none kV6 dc6 pm6 an6 cd6 ct6),sl6⟩) (c6:PySem.W.codeIn K cd6 "rest_by"=true) (k6:PySem.W.keepIn K (.ref f6)=true)
 {od7 an7:Option Addr}{sl7:Array (Option Value)}{oc7 kV7 dc7 pm7 cd7 ct7:Value}{f7:Addr}
 (a7:PySem.W.nsIn K mainGlobals "drawn"=some (some (.ref f7))) (l7:K.lookup f7=some ⟨oc7,od7,.func (PySem.W.fnOf "drawn" "drawn" (z0w z3A) (z0t z3A) (z0g z3A) .none kV7 dc7 pm7 an7 cd7 ct7),sl7⟩) (c7:PySem.W.codeIn K cd7 "drawn"=true) (k7:PySem.W.keepIn K (.ref f7)=true)
 {od8 an8:Option Addr}{sl8:Array (Option Value)}{oc8 kV8 dc8 pm8 cd8 ct8:Value}{f8:Addr}
 (a8:PySem.W.nsIn K mainGlobals "lowest"=some (some (.ref f8))) (l8:K.lookup f8=some ⟨oc8,od8,.func (PySem.W.fnOf "lowest" "lowest" (z0w z2G) (z0t z2G) (z0g z2G) .none kV8 dc8 pm8 an8 cd8 ct8),sl8⟩) (c8:PySem.W.codeIn K cd8 "lowest"=true) (k8:PySem.W.keepIn K (.ref f8)=true)
 {od9 an9:Option Addr}{sl9:Array (Option Value)}{oc9 kV9 dc9 pm9 cd9 ct9:Value}{f9:Addr}
 (a9:PySem.W.nsIn K mainGlobals "turned"=some (some (.ref f9))) (l9:K.lookup f9=some ⟨oc9,od9,.func (PySem.W.fnOf "turned" "turned" (z0w z2E) (z0t z2E) (z0g z2E) .none kV9 dc9 pm9 an9 cd9 ct9),sl9⟩) (c9:PySem.W.codeIn K cd9 "turned"=true) (k9:PySem.W.keepIn K (.ref f9)=true)
 {od10 an10:Option Addr}{sl10:Array (Option Value)}{oc10 kV10 dc10 pm10 cd10 ct10:Value}{f10:Addr}
 (a10:PySem.W.nsIn K mainGlobals "height"=some (some (.ref f10))) (l10:K.lookup f10=some ⟨oc10,od10,.func (PySem.W.fnOf "height" "height" (z0w z2L) (z0t z2L) (z0g z2L) .none kV10 dc10 pm10 an10 cd10 ct10),sl10⟩) (c10:PySem.W.codeIn K cd10 "height"=true) (k10:PySem.W.keepIn K (.ref f10)=true)
 {od11 an11:Option Addr}{sl11:Array (Option Value)}{oc11 kV11 dc11 pm11 cd11 ct11:Value}{f11:Addr}
 (a11:PySem.W.nsIn K mainGlobals "lead"=some (some (.ref f11))) (l11:K.lookup f11=some ⟨oc11,od11,.func (PySem.W.fnOf "lead" "lead" (z0w z4X) (z0t z4X) (z0g z4X) .none kV11 dc11 pm11 an11 cd11 ct11),sl11⟩) (c11:PySem.W.codeIn K cd11 "lead"=true) (k11:PySem.W.keepIn K (.ref f11)=true)
 {od12 an12:Option Addr}{sl12:Array (Option Value)}{oc12 kV12 dc12 pm12 cd12 ct12:Value}{f12:Addr}
 (a12:PySem.W.nsIn K mainGlobals "lifted"=some (some (.ref f12))) (l12:K.lookup f12=some ⟨oc12,od12,.func (PySem.W.fnOf "lifted" "lifted" (z0w z2H) (z0t z2H) (z0g z2H) .none kV12 dc12 pm12 an12 cd12 ct12),sl12⟩) (c12:PySem.W.codeIn K cd12 "lifted"=true) (k12:PySem.W.keepIn K (.ref f12)=true)
 {od13 an13:Option Addr}{sl13:Array (Option Value)}{oc13 kV13 dc13 pm13 cd13 ct13:Value}{f13:Addr}
 (a13:PySem.W.nsIn K mainGlobals "stepped"=some (some (.ref f13))) (l13:K.lookup f13=some ⟨oc13,od13,.func (PySem.W.fnOf "stepped" "stepped" (z0w z1T) (z0t z1T) (z0g z1T) .none kV13 dc13 pm13 an13 cd13 ct13),sl13⟩) (c13:PySem.W.codeIn K cd13 "stepped"=true) (k13:PySem.W.keepIn K (.ref f13)=true)
 {od14 an14:Option Addr}{sl14:Array (Option Value)}{oc14 kV14 dc14 pm14 cd14 ct14:Value}{f14:Addr}
 (a14:PySem.W.nsIn K mainGlobals "spot_across"=some (some (.ref f14))) (l14:K.lookup f14=some ⟨oc14,od14,.func (PySem.W.fnOf "spot_across" "spot_across" (z0w z0U) (z0t z0U) (z0g z0U) .none kV14 dc14 pm14 an14 cd14 ct14),sl14⟩) (c14:PySem.W.codeIn K cd14 "spot_across"=true) (k14:PySem.W.keepIn K (.ref f14)=true)
 {od15 an15:Option Addr}{sl15:Array (Option Value)}{oc15 kV15 dc15 pm15 cd15 ct15:Value}{f15:Addr}
 (a15:PySem.W.nsIn K mainGlobals "spot_within"=some (some (.ref f15))) (l15:K.lookup f15=some ⟨oc15,od15,.func (PySem.W.fnOf "spot_within" "spot_within" (z0w z0T) (z0t z0T) (z0g z0T) .none kV15 dc15 pm15 an15 cd15 ct15),sl15⟩) (c15:PySem.W.codeIn K cd15 "spot_within"=true) (k15:PySem.W.keepIn K (.ref f15)=true)
 {od16 an16:Option Addr}{sl16:Array (Option Value)}{oc16 kV16 dc16 pm16 cd16 ct16:Value}{f16:Addr}
 (a16:PySem.W.nsIn K mainGlobals "bounds_at"=some (some (.ref f16))) (l16:K.lookup f16=some ⟨oc16,od16,.func (PySem.W.fnOf "bounds_at" "bounds_at" (z0w z1r) (z0t z1r) (z0g z1r) .none kV16 dc16 pm16 an16 cd16 ct16),sl16⟩) (c16:PySem.W.codeIn K cd16 "bounds_at"=true) (k16:PySem.W.keepIn K (.ref f16)=true)
 {od17 an17:Option Addr}{sl17:Array (Option Value)}{oc17 kV17 dc17 pm17 cd17 ct17:Value}{f17:Addr}
 (a17:PySem.W.nsIn K mainGlobals "parted"=some (some (.ref f17))) (l17:K.lookup f17=some ⟨oc17,od17,.func (PySem.W.fnOf "parted" "parted" (z0w z2F) (z0t z2F) (z0g z2F) .none kV17 dc17 pm17 an17 cd17 ct17),sl17⟩) (c17:PySem.W.codeIn K cd17 "parted"=true) (k17:PySem.W.keepIn K (.ref f17)=true)
 {od18 an18:Option Addr}{sl18:Array (Option Value)}{oc18 kV18 dc18 pm18 cd18 ct18:Value}{f18:Addr}
 (a18:PySem.W.nsIn K mainGlobals "land_spots"=some (some (.ref f18))) (l18:K.lookup f18=some ⟨oc18,od18,.func (PySem.W.fnOf "land_spots" "land_spots" (z0w z1i) (z0t z1i) (z0g z1i) .none kV18 dc18 pm18 an18 cd18 ct18),sl18⟩) (c18:PySem.W.codeIn K cd18 "land_spots"=true) (k18:PySem.W.keepIn K (.ref f18)=true)
 {od19 an19:Option Addr}{sl19:Array (Option Value)}{oc19 kV19 dc19 pm19 cd19 ct19:Value}{f19:Addr}
 (a19:PySem.W.nsIn K mainGlobals "point_of"=some (some (.ref f19))) (l19:K.lookup f19=some ⟨oc19,od19,.func (PySem.W.fnOf "point_of" "point_of" (z0w z1A) (z0t z1A) (z0g z1A) .none kV19 dc19 pm19 an19 cd19 ct19),sl19⟩) (c19:PySem.W.codeIn K cd19 "point_of"=true) (k19:PySem.W.keepIn K (.ref f19)=true)
 {od20 an20:Option Addr}{sl20:Array (Option Value)}{oc20 kV20 dc20 pm20 cd20 ct20:Value}{f20:Addr}
 (a20:PySem.W.nsIn K mainGlobals "lands"=some (some (.ref f20))) (l20:K.lookup f20=some ⟨oc20,od20,.func (PySem.W.fnOf "lands" "lands" (z0w z3x) (z0t z3x) (z0g z3x) .none kV20 dc20 pm20 an20 cd20 ct20),sl20⟩) (c20:PySem.W.codeIn K cd20 "lands"=true) (k20:PySem.W.keepIn K (.ref f20)=true)
 {od21 an21:Option Addr}{sl21:Array (Option Value)}{oc21 kV21 dc21 pm21 cd21 ct21:Value}{f21:Addr}
 (a21:PySem.W.nsIn K mainGlobals "_law_whole"=some (some (.ref f21))) (l21:K.lookup f21=some ⟨oc21,od21,.func (PySem.W.fnOf "_law_whole" "_law_whole" (z0w z1W) (z0t z1W) (z0g z1W) .none kV21 dc21 pm21 an21 cd21 ct21),sl21⟩) (c21:PySem.W.codeIn K cd21 "_law_whole"=true) (k21:PySem.W.keepIn K (.ref f21)=true)
 {od22 an22:Option Addr}{sl22:Array (Option Value)}{oc22 kV22 dc22 pm22 cd22 ct22:Value}{f22:Addr}
 (a22:PySem.W.nsIn K mainGlobals "_law_divisor"=some (some (.ref f22))) (l22:K.lookup f22=some ⟨oc22,od22,.func (PySem.W.fnOf "_law_divisor" "_law_divisor" (z0w z1q) (z0t z1q) (z0g z1q) .none kV22 dc22 pm22 an22 cd22 ct22),sl22⟩) (c22:PySem.W.codeIn K cd22 "_law_divisor"=true) (k22:PySem.W.keepIn K (.ref f22)=true)
 {od23 an23:Option Addr}{sl23:Array (Option Value)}{oc23 kV23 dc23 pm23 cd23 ct23:Value}{f23:Addr}
 (a23:PySem.W.nsIn K mainGlobals "_law_mix"=some (some (.ref f23))) (l23:K.lookup f23=some ⟨oc23,od23,.func (PySem.W.fnOf "_law_mix" "_law_mix" (z0w z3z) (z0t z3z) (z0g z3z) .none kV23 dc23 pm23 an23 cd23 ct23),sl23⟩) (c23:PySem.W.codeIn K cd23 "_law_mix"=true) (k23:PySem.W.keepIn K (.ref f23)=true)
 {od24 an24:Option Addr}{sl24:Array (Option Value)}{oc24 kV24 dc24 pm24 cd24 ct24:Value}{f24:Addr}
 (a24:PySem.W.nsIn K mainGlobals "_law_draws"=some (some (.ref f24))) (l24:K.lookup f24=some ⟨oc24,od24,.func (PySem.W.fnOf "_law_draws" "_law_draws" (z0w z1Y) (z0t z1Y) (z0g z1Y) .none kV24 dc24 pm24 an24 cd24 ct24),sl24⟩) (c24:PySem.W.codeIn K cd24 "_law_draws"=true) (k24:PySem.W.keepIn K (.ref f24)=true)
 {od25 an25:Option Addr}{sl25:Array (Option Value)}{oc25 kV25 dc25 pm25 cd25 ct25:Value}{f25:Addr}
 (a25:PySem.W.nsIn K mainGlobals "_law_plain"=some (some (.ref f25))) (l25:K.lookup f25=some ⟨oc25,od25,.func (PySem.W.fnOf "_law_plain" "_law_plain" (z0w z1X) (z0t z1X) (z0g z1X) .none kV25 dc25 pm25 an25 cd25 ct25),sl25⟩) (c25:PySem.W.codeIn K cd25 "_law_plain"=true) (k25:PySem.W.keepIn K (.ref f25)=true)
 {od26 an26:Option Addr}{sl26:Array (Option Value)}{oc26 kV26 dc26 pm26 cd26 ct26:Value}{f26:Addr}
 (a26:PySem.W.nsIn K mainGlobals "_law_row"=some (some (.ref f26))) (l26:K.lookup f26=some ⟨oc26,od26,.func (PySem.W.fnOf "_law_row" "_law_row" (z0w z3y) (z0t z3y) (z0g z3y) .none kV26 dc26 pm26 an26 cd26 ct26),sl26⟩) (c26:PySem.W.codeIn K cd26 "_law_row"=true) (k26:PySem.W.keepIn K (.ref f26)=true)
 {od27 an27:Option Addr}{sl27:Array (Option Value)}{oc27 kV27 dc27 pm27 cd27 ct27:Value}{f27:Addr}
 (a27:PySem.W.nsIn K mainGlobals "_law_fences"=some (some (.ref f27))) (l27:K.lookup f27=some ⟨oc27,od27,.func (PySem.W.fnOf "_law_fences" "_law_fences" (z0w z1C) (z0t z1C) (z0g z1C) .none kV27 dc27 pm27 an27 cd27 ct27),sl27⟩) (c27:PySem.W.codeIn K cd27 "_law_fences"=true) (k27:PySem.W.keepIn K (.ref f27)=true)
 {od28 an28:Option Addr}{sl28:Array (Option Value)}{oc28 kV28 dc28 pm28 cd28 ct28:Value}{f28:Addr}
 (a28:PySem.W.nsIn K mainGlobals "_law_struck"=some (some (.ref f28))) (l28:K.lookup f28=some ⟨oc28,od28,.func (PySem.W.fnOf "_law_struck" "_law_struck" (z0w z1B) (z0t z1B) (z0g z1B) .none kV28 dc28 pm28 an28 cd28 ct28),sl28⟩) (c28:PySem.W.codeIn K cd28 "_law_struck"=true) (k28:PySem.W.keepIn K (.ref f28)=true)
 {od29 an29:Option Addr}{sl29:Array (Option Value)}{oc29 kV29 dc29 pm29 cd29 ct29:Value}{f29:Addr}
 (a29:PySem.W.nsIn K mainGlobals "_law_reduced"=some (some (.ref f29))) (l29:K.lookup f29=some ⟨oc29,od29,.func (PySem.W.fnOf "_law_reduced" "_law_reduced" (z0w z1p) (z0t z1p) (z0g z1p) .none kV29 dc29 pm29 an29 cd29 ct29),sl29⟩) (c29:PySem.W.codeIn K cd29 "_law_reduced"=true) (k29:PySem.W.keepIn K (.ref f29)=true)
 {od30 an30:Option Addr}{sl30:Array (Option Value)}{oc30 kV30 dc30 pm30 cd30 ct30:Value}{f30:Addr}
 (a30:PySem.W.nsIn K mainGlobals "_law_lots"=some (some (.ref f30))) (l30:K.lookup f30=some ⟨oc30,od30,.func (PySem.W.fnOf "_law_lots" "_law_lots" (z0w z2J) (z0t z2J) (z0g z2J) .none kV30 dc30 pm30 an30 cd30 ct30),sl30⟩) (c30:PySem.W.codeIn K cd30 "_law_lots"=true) (k30:PySem.W.keepIn K (.ref f30)=true)
 {od31 an31:Option Addr}{sl31:Array (Option Value)}{oc31 kV31 dc31 pm31 cd31 ct31:Value}{f31:Addr}
 (a31:PySem.W.nsIn K mainGlobals "_law_polynomial"=some (some (.ref f31))) (l31:K.lookup f31=some ⟨oc31,od31,.func (PySem.W.fnOf "_law_polynomial" "_law_polynomial" (z0w z0Y) (z0t z0Y) (z0g z0Y) .none kV31 dc31 pm31 an31 cd31 ct31),sl31⟩) (c31:PySem.W.codeIn K cd31 "_law_polynomial"=true) (k31:PySem.W.keepIn K (.ref f31)=true)
 {od32 an32:Option Addr}{sl32:Array (Option Value)}{oc32 kV32 dc32 pm32 cd32 ct32:Value}{f32:Addr}
 (a32:PySem.W.nsIn K mainGlobals "_law_worth"=some (some (.ref f32))) (l32:K.lookup f32=some ⟨oc32,od32,.func (PySem.W.fnOf "_law_worth" "_law_worth" (z0w z1V) (z0t z1V) (z0g z1V) .none kV32 dc32 pm32 an32 cd32 ct32),sl32⟩) (c32:PySem.W.codeIn K cd32 "_law_worth"=true) (k32:PySem.W.keepIn K (.ref f32)=true)
 {od33 an33:Option Addr}{sl33:Array (Option Value)}{oc33 kV33 dc33 pm33 cd33 ct33:Value}{f33:Addr}
 (a33:PySem.W.nsIn K mainGlobals "_law_is_fraction"=some (some (.ref f33))) (l33:K.lookup f33=some ⟨oc33,od33,.func (PySem.W.fnOf "_law_is_fraction" "_law_is_fraction" (z0w z0R) (z0t z0R) (z0g z0R) .none kV33 dc33 pm33 an33 cd33 ct33),sl33⟩) (c33:PySem.W.codeIn K cd33 "_law_is_fraction"=true) (k33:PySem.W.keepIn K (.ref f33)=true)
 {od34 an34:Option Addr}{sl34:Array (Option Value)}{oc34 kV34 dc34 pm34 cd34 ct34:Value}{f34:Addr}
 (a34:PySem.W.nsIn K mainGlobals "_law_side"=some (some (.ref f34))) (l34:K.lookup f34=some ⟨oc34,od34,.func (PySem.W.fnOf "_law_side" "_law_side" (z0w z2I) (z0t z2I) (z0g z2I) .none kV34 dc34 pm34 an34 cd34 ct34),sl34⟩) (c34:PySem.W.codeIn K cd34 "_law_side"=true) (k34:PySem.W.keepIn K (.ref f34)=true)
 {od35 an35:Option Addr}{sl35:Array (Option Value)}{oc35 kV35 dc35 pm35 cd35 ct35:Value}{f35:Addr}
 (a35:PySem.W.nsIn K mainGlobals "_law_land"=some (some (.ref f35))) (l35:K.lookup f35=some ⟨oc35,od35,.func (PySem.W.fnOf "_law_land" "_law_land" (z0w z2K) (z0t z2K) (z0g z2K) .none kV35 dc35 pm35 an35 cd35 ct35),sl35⟩) (c35:PySem.W.codeIn K cd35 "_law_land"=true) (k35:PySem.W.keepIn K (.ref f35)=true)
 {od36 an36:Option Addr}{sl36:Array (Option Value)}{oc36 kV36 dc36 pm36 cd36 ct36:Value}{f36:Addr}
 (a36:PySem.W.nsIn K mainGlobals "law"=some (some (.ref f36))) (l36:K.lookup f36=some ⟨oc36,od36,.func (PySem.W.fnOf "law" "law" (z0w z5x) (z0t z5x) (z0g z5x) .none kV36 dc36 pm36 an36 cd36 ct36),sl36⟩) (c36:PySem.W.codeIn K cd36 "law"=true) (k36:PySem.W.keepIn K (.ref f36)=true)
 (z1:PySem.W.nsIn K mainGlobals "abs"=some none)
 (z2:PySem.W.nsIn K mainGlobals "len"=some none)
 (z3:PySem.W.nsIn K mainGlobals "isinstance"=some none)
 (z4:PySem.W.nsIn K mainGlobals "int"=some none)
 (z5:PySem.W.nsIn K mainGlobals "bool"=some none)
 (z6:PySem.W.nsIn K mainGlobals "tuple"=some none)
 (z7:PySem.W.nsIn K mainGlobals "list"=some none)
 (z8:PySem.W.nsIn K mainGlobals "any"=some none)
 (z9:PySem.W.nsIn K mainGlobals "min"=some none)
 (z10:PySem.W.nsIn K mainGlobals "max"=some none)
 (z11:PySem.W.nsIn K mainGlobals "range"=some none)
 (z12:PySem.W.nsIn K mainGlobals "enumerate"=some none)
 (z13:PySem.W.nsIn K mainGlobals "zip"=some none)
 (z14:PySem.W.nsIn K mainGlobals "sorted"=some none)
 (z15:PySem.W.nsIn K mainGlobals "set"=some none)
 (z16:PySem.W.nsIn K mainGlobals "sum"=some none)
 (z17:PySem.W.nsIn K mainGlobals "all"=some none)
 (z18:PySem.W.nsIn K mainGlobals "ValueError"=some none)
 (z19:PySem.W.nsIn K mainGlobals "reversed"=some none)
 :∃fd:FuncData,(∀(s:Shared) (v:Value),BindsTo s fd ⟨[v],[]⟩ [("_law_script",v)])∧∀base:Heap,K.In base→base.Ns mainGlobals mg→FnOk l.prog w K mg base CX0 23 fa fd ["_law_script"] (y2c K):=by
 have e:=hfa.symm.trans (q0x X G a36)
 cases e
 have T:Txt mg:=⟨q0L X G z1,q0L X G z2,q0L X G z3,q0L X G z4,q0L X G z5,q0L X G z6,q0L X G z7,q0L X G z8,q0L X G z9,q0L X G z10,q0L X G z11,q0L X G z12,q0L X G z13,q0L X G z14,q0L X G z15,q0L X G z16,q0L X G z17,q0L X G z18,q0L X G z19⟩
 have F1:=z0J (st:=z1Z) l1 c1 k1
 have b1:=F1.binds (ps:=["one","other"]) fun _ _ _ _ _ _=>ln2 fun _ _=>rfl
 have F2:=z0J (st:=z0O) l2 c2 k2
 have b2:=F2.binds (ps:=["numbers"]) fun _ _ _ _ _ _=>ln1 fun _=>rfl
 have F3:=z0J (st:=z3w) l3 c3 k3
 have b3:=F3.binds (ps:=["top","bottom"]) fun _ _ _ _ _ _=>ln2 fun _ _=>rfl
 have F4:=z0J (st:=z0Z) l4 c4 k4
 have b4:=F4.binds (ps:=["row"]) fun _ _ _ _ _ _=>ln1 fun _=>rfl
 have F5:=z0J (st:=z2a) l5 c5 k5
 have b5:=F5.binds (ps:=["numbers","row"]) fun _ _ _ _ _ _=>ln2 fun _ _=>rfl
 have F6:=z0J (st:=z1U) l6 c6 k6
 have b6:=F6.binds (ps:=["rows","numbers"]) fun _ _ _ _ _ _=>ln2 fun _ _=>rfl
 have F7:=z0J (st:=z3A) l7 c7 k7
 have b7:=F7.binds (ps:=["rows","numbers"]) fun _ _ _ _ _ _=>ln2 fun _ _=>rfl
 have F8:=z0J (st:=z2G) l8 c8 k8
 have b8:=F8.binds (ps:=["numbers"]) fun _ _ _ _ _ _=>ln1 fun _=>rfl
 have F9:=z0J (st:=z2E) l9 c9 k9
 have b9:=F9.binds (ps:=["numbers","sign"]) fun _ _ _ _ _ _=>ln2 fun _ _=>rfl
 have F10:=z0J (st:=z2L) l10 c10 k10
 have b10:=F10.binds (ps:=["bound","spot"]) fun _ _ _ _ _ _=>ln2 fun _ _=>rfl
 have F11:=z0J (st:=z4X) l11 c11 k11
 have b11:=F11.binds (ps:=["bound"]) fun _ _ _ _ _ _=>ln1 fun _=>rfl
 have F12:=z0J (st:=z2H) l12 c12 k12
 have b12:=F12.binds (ps:=["rows","spot"]) fun _ _ _ _ _ _=>ln2 fun _ _=>rfl
 have F13:=z0J (st:=z1T) l13 c13 k13
 have b13:=F13.binds (ps:=["bounds","spot","place","sign"]) fun _ _ _ _ _ _=>ln4 fun _ _ _ _=>rfl
 have F14:=z0J (st:=z0U) l14 c14 k14
 have b14:=F14.binds (ps:=["ways","bounds","bound"]) fun _ _ _ _ _ _=>ln3 fun _ _ _=>rfl
 have F15:=z0J (st:=z0T) l15 c15 k15
 have b15:=F15.binds (ps:=["ways","bounds"]) fun _ _ _ _ _ _=>ln2 fun _ _=>rfl
 have F16:=z0J (st:=z1r) l16 c16 k16
 have b16:=F16.binds (ps:=["walls","signs"]) fun _ _ _ _ _ _=>ln2 fun _ _=>rfl
 have F17:=z0J (st:=z2F) l17 c17 k17
 have b17:=F17.binds (ps:=["ways","walls","found","numbers"]) fun _ _ _ _ _ _=>ln4 fun _ _ _ _=>rfl
 have F18:=z0J (st:=z1i) l18 c18 k18
 have b18:=F18.binds (ps:=["ways","walls"]) fun _ _ _ _ _ _=>ln2 fun _ _=>rfl
 have F19:=z0J (st:=z1A) l19 c19 k19
 have b19:=F19.binds (ps:=["spot"]) fun _ _ _ _ _ _=>ln1 fun _=>rfl
 have F20:=z0J (st:=z3x) l20 c20 k20
 have b20:=F20.binds (ps:=["ways","walls"]) fun _ _ _ _ _ _=>ln2 fun _ _=>rfl
 have F21:=z0J (st:=z1W) l21 c21 k21
 have b21:=F21.binds (ps:=["_law_found"]) fun _ _ _ _ _ _=>ln1 fun _=>rfl
 have F22:=z0J (st:=z1q) l22 c22 k22
 have b22:=F22.binds (ps:=["_law_one","_law_other"]) fun _ _ _ _ _ _=>ln2 fun _ _=>rfl
 have F23:=z0J (st:=z3z) l23 c23 k23
 have b23:=F23.binds (ps:=["_law_script","_law_k"]) fun _ _ _ _ _ _=>ln2 fun _ _=>rfl
 have F24:=z0J (st:=z1Y) l24 c24 k24
 have b24:=F24.binds (ps:=["_law_script"]) fun _ _ _ _ _ _=>ln1 fun _=>rfl
 have F25:=z0J (st:=z1X) l25 c25 k25
 have b25:=F25.binds (ps:=["_law_row_here"]) fun _ _ _ _ _ _=>ln1 fun _=>rfl
 have F26:=z0J (st:=z3y) l26 c26 k26
 have b26:=F26.binds (ps:=["_law_draws_here","_law_ways","_law_k","_law_way"]) fun _ _ _ _ _ _=>ln4 fun _ _ _ _=>rfl
 have F27:=z0J (st:=z1C) l27 c27 k27
 have b27:=F27.binds (ps:=["_law_draws_here","_law_most"]) fun _ _ _ _ _ _=>ln2 fun _ _=>rfl
 have F28:=z0J (st:=z1B) l28 c28 k28
 have b28:=F28.binds (ps:=["_law_rows","_law_k","_law_head"]) fun _ _ _ _ _ _=>ln3 fun _ _ _=>rfl
 have F29:=z0J (st:=z1p) l29 c29 k29
 have b29:=F29.binds (ps:=["_law_ways","_law_rows"]) fun _ _ _ _ _ _=>ln2 fun _ _=>rfl
 have F30:=z0J (st:=z2J) l30 c30 k30
 have b30:=F30.binds (ps:=["_law_many"]) fun _ _ _ _ _ _=>ln1 fun _=>rfl
 have F31:=z0J (st:=z0Y) l31 c31 k31
 have b31:=F31.binds (ps:=["_law_ways","_law_fences_here"]) fun _ _ _ _ _ _=>ln2 fun _ _=>rfl
 have F32:=z0J (st:=z1V) l32 c32 k32
 have b32:=F32.binds (ps:=["_law_polynomial_here","_law_number"]) fun _ _ _ _ _ _=>ln2 fun _ _=>rfl
 have F33:=z0J (st:=z0R) l33 c33 k33
 have b33:=F33.binds (ps:=["_law_found"]) fun _ _ _ _ _ _=>ln1 fun _=>rfl
 have F34:=z0J (st:=z2I) l34 c34 k34
 have b34:=F34.binds (ps:=["_law_fence","_law_point"]) fun _ _ _ _ _ _=>ln2 fun _ _=>rfl
 have F35:=z0J (st:=z2K) l35 c35 k35
 have b35:=F35.binds (ps:=["_law_ways","_law_fences_here","_law_found"]) fun _ _ _ _ _ _=>ln3 fun _ _ _=>rfl
 have F36:=z0J (st:=z5x) l36 c36 k36
 refine⟨PySem.W.fnOf "law" "law" (z0w z5x) (z0t z5x) (z0g z5x) .none kV36 dc36 pm36 an36 cd36 ct36,fun s v=> .of_eq rfl,fun base _ _=>?_⟩
 have C1:Cal l.prog w K mg base 1 "divisor" _ _:=⟨_,_,z9n T F1,b1,k1,q0x X G a1⟩
 have C2:Cal l.prog w K mg base 2 "divisor_of_all" _ _:=⟨_,_,z3F T F2 (C1.mono (by decide)),b2,k2,q0x X G a2⟩
 have C3:Cal l.prog w K mg base 2 "ratio" _ _:=⟨_,_,y2x T F3 (C1.mono (by decide)),b3,k3,q0x X G a3⟩
 have C4:Cal l.prog w K mg base 1 "first_place" _ _:=⟨_,_,z4L T F4,b4,k4,q0x X G a4⟩
 have C5:Cal l.prog w K mg base 2 "cleared" _ _:=⟨_,_,z9o T F5 (C4.mono (by decide)) (C1.mono (by decide)),b5,k5,q0x X G a5⟩
 have C6:Cal l.prog w K mg base 3 "rest_by" _ _:=⟨_,_,z9i T F6 (C5.mono (by decide)),b6,k6,q0x X G a6⟩
 have C7:Cal l.prog w K mg base 4 "drawn" _ _:=⟨_,_,y2B T F7 (C4.mono (by decide)) (C6.mono (by decide)),b7,k7,q0x X G a7⟩
 have C8:Cal l.prog w K mg base 3 "lowest" _ _:=⟨_,_,y0y T F8 (C2.mono (by decide)),b8,k8,q0x X G a8⟩
 have C9:Cal l.prog w K mg base 1 "turned" _ _:=⟨_,_,y0w T F9,b9,k9,q0x X G a9⟩
 have C10:Cal l.prog w K mg base 1 "height" _ _:=⟨_,_,y0D T F10,b10,k10,q0x X G a10⟩
 have C11:Cal l.prog w K mg base 2 "lead" _ _:=⟨_,_,y4B T F11 (C4.mono (by decide)),b11,k11,q0x X G a11⟩
 have C12:Cal l.prog w K mg base 4 "lifted" _ _:=⟨_,_,y0z T F12 (C4.mono (by decide)) (C10.mono (by decide)) (C8.mono (by decide)),b12,k12,q0x X G a12⟩
 have C13:Cal l.prog w K mg base 4 "stepped" _ _:=⟨_,_,z9h T F13 (C10.mono (by decide)) (C8.mono (by decide)),b13,k13,q0x X G a13⟩
 have C14:∀m,m≤4→Cal l.prog w K mg base 15 "spot_across" _ (z7g K (m+1)):=fun m hm=>(show Cal l.prog w K mg base (6+2*m+1) "spot_across" _ (z7g K (m+1)) from⟨_,_,(z5E T F14 b14 k14 (q0x X G a14) F15 b15 k15 (q0x X G a15) (C9.mono (by decide)) (C11.mono (by decide)) (C7.mono (by decide)) (C13.mono (by decide)) (C12.mono (by decide)) (C4.mono (by decide)) (C10.mono (by decide)) m).2,b14,k14,q0x X G a14⟩).mono (by lia)
 have C15:∀m,m≤4→Cal l.prog w K mg base 16 "spot_within" _ (z8U K (m+1)):=fun m hm=>(show Cal l.prog w K mg base (6+2*(m+1)) "spot_within" _ (z8U K (m+1)) from⟨_,_,(z5E T F14 b14 k14 (q0x X G a14) F15 b15 k15 (q0x X G a15) (C9.mono (by decide)) (C11.mono (by decide)) (C7.mono (by decide)) (C13.mono (by decide)) (C12.mono (by decide)) (C4.mono (by decide)) (C10.mono (by decide)) (m+1)).1,b15,k15,q0x X G a15⟩).mono (by lia)
 have C16:Cal l.prog w K mg base 2 "bounds_at" _ _:=⟨_,_,z6B T F16 (C9.mono (by decide)),b16,k16,q0x X G a16⟩
 have C17:Cal l.prog w K mg base 16 "parted" _ _:=⟨_,_,y0x T F17 (C16.mono (by decide)) (C9.mono (by decide)) (C10.mono (by decide)) C14,b17,k17,q0x X G a17⟩
 have C18:Cal l.prog w K mg base 17 "land_spots" _ _:=⟨_,_,z5F T F18 (C17.mono (by decide)),b18,k18,q0x X G a18⟩
 have C19:Cal l.prog w K mg base 3 "point_of" _ _:=⟨_,_,z7r T F19 (C3.mono (by decide)),b19,k19,q0x X G a19⟩
 have C20:Cal l.prog w K mg base 18 "lands" _ _:=⟨_,_,y2y T F20 (C18.mono (by decide)) (C19.mono (by decide)),b20,k20,q0x X G a20⟩
 have C21:Cal l.prog w K mg base 1 "_law_whole" _ _:=⟨_,_,z9k T F21,b21,k21,q0x X G a21⟩
 have C22:Cal l.prog w K mg base 1 "_law_divisor" _ _:=⟨_,_,z6A T F22,b22,k22,q0x X G a22⟩
 have C23:Cal l.prog w K mg base 1 "_law_mix" _ _:=⟨_,_,y2A T F23,b23,k23,q0x X G a23⟩
 have C24:Cal l.prog w K mg base 2 "_law_draws" _ _:=⟨_,_,z9m T F24 (C23.mono (by decide)),b24,k24,q0x X G a24⟩
 have C25:Cal l.prog w K mg base 2 "_law_plain" _ _:=⟨_,_,z9l T F25 (C22.mono (by decide)),b25,k25,q0x X G a25⟩
 have C26:Cal l.prog w K mg base 3 "_law_row" _ _:=⟨_,_,y2z T F26 (C25.mono (by decide)),b26,k26,q0x X G a26⟩
 have C27:Cal l.prog w K mg base 4 "_law_fences" _ _:=⟨_,_,z7t T F27 (C26.mono (by decide)),b27,k27,q0x X G a27⟩
 have C28:Cal l.prog w K mg base 1 "_law_struck" _ _:=⟨_,_,z7s T F28,b28,k28,q0x X G a28⟩
 have C29:Cal l.prog w K mg base 3 "_law_reduced" _ _:=⟨_,_,z6z T F29 (C28.mono (by decide)) (C25.mono (by decide)),b29,k29,q0x X G a29⟩
 have C30:Cal l.prog w K mg base 1 "_law_lots" _ _:=⟨_,_,y0B T F30,b30,k30,q0x X G a30⟩
 have C31:Cal l.prog w K mg base 4 "_law_polynomial" _ _:=⟨_,_,z4A T F31 (C30.mono (by decide)) (C29.mono (by decide)),b31,k31,q0x X G a31⟩
 have C32:Cal l.prog w K mg base 1 "_law_worth" _ _:=⟨_,_,z9j T F32,b32,k32,q0x X G a32⟩
 have C33:Cal l.prog w K mg base 2 "_law_is_fraction" _ _:=⟨_,_,z3X T F33 (C21.mono (by decide)) (C22.mono (by decide)),b33,k33,q0x X G a33⟩
 have C34:Cal l.prog w K mg base 1 "_law_side" _ _:=⟨_,_,y0A T F34,b34,k34,q0x X G a34⟩
 have C35:Cal l.prog w K mg base 3 "_law_land" _ _:=⟨_,_,y0C T F35 (C21.mono (by decide)) (C33.mono (by decide)) (C34.mono (by decide)),b35,k35,q0x X G a35⟩
 exact y5I T F36 (C24.mono (by decide)) (C27.mono (by decide)) (C20.mono (by decide)) (C35.mono (by decide)) (C31.mono (by decide)) (C32.mono (by decide))
theorem walk {l:PySem.W.OpenLaw}{q:Program}{loose:List Str}{XP:(Str→Option Value)→Heap→Prop}{YP:World→Heap→Prop}{d:DefRec}{K:Params→PySem.W.Frag} (hn:l.most=some 63) (hdf:d.params.defaults=[])
 (hY:∀(w:World) (h:Heap),YP w h→(K w.params).In h)
 (F:∀(w:World) (mg:Str→Option Value) (fa:Addr) (h:Heap),(K w.params).In h→h.Ns mainGlobals mg→mg d.name=some (.ref fa)→
  ∃fd:FuncData,(∀(s:Shared) (u:Value),BindsTo s fd ⟨[u],[]⟩ [("_law_script",u)])∧∀base:Heap,(K w.params).In base→base.Ns mainGlobals mg→FnOk l.prog w (K w.params) mg base CX0 23 fa fd ["_law_script"] (y2c (K w.params))):
 PySem.W.WalkO q loose XP YP l.row.toRowW d [] (fun f vs=>PySem.call f vs):=
 L2.walk_of (n:=63) (k:=23) (x:="_law_script") (CX:=fun _=>CX0) (sp:=fun w=>y2c (K w.params)) hn (by decide) hdf ⟨rfl,by decide,by decide⟩ hY F (fun _ _ a ns hl _ hS=>⟨a,ns,rfl,hS,hl,fun _=>rfl⟩) fun _ _ _ _ _ z=>z
end L2
open PySem PySem.W PyProof.Rows
theorem PySem.W.Fast.tw3477529888210739968 : True := trivial
theorem PySem.W.Fast.tw4309542075394769954 : True := trivial
theorem PySem.W.Fast.tw5870428250666520612 : True := trivial
theorem PySem.W.Fast.tw1787432040986962021 : True := trivial
theorem PySem.W.Fast.tw10491758075267415591 : True := trivial
theorem PySem.W.Fast.tw3204417204302641738 : True := trivial
theorem PySem.W.Fast.tw8347532143335636525 : True := trivial
theorem PySem.W.Fast.tw8086810270110795664 : True := trivial
theorem PySem.W.Fast.tw17780060862203143539 : True := trivial
theorem PySem.W.Fast.tw12960421332019247412 : True := trivial
theorem PySem.W.Fast.tw17973759110806760309 : True := trivial
theorem PySem.W.Fast.tw14662474708095346746 : True := trivial
theorem PySem.W.Fast.tw15243164149394161082 : True := trivial
theorem PySem.W.Fast.tw17896826305809128890 : True := trivial
theorem PySem.W.Fast.tw10059388689977439551 : True := trivial
theorem PySem.W.Fast.tw3120732783576599658 : True := trivial
set_option maxRecDepth 100000 in
set_option maxHeartbeats 0 in
theorem PySem.Challenge.cw_wallspace_k41_whole_lands_holds : PySem.Challenge.rw_wallspace_k41_whole_lands.Holds := by
  w_on; o_law; k_head; (case hw => w_witness2)
  k_fill
  refine L2.walk (l := PySem.Challenge.rw_wallspace_k41_whole_lands) rfl rfl (fun w h Y => PySem.W.kIn_of Y) ?F
  case F =>
    intro w mg fa h KX G hmg
    refine' L2.all_mk KX G hmg ?a1 ?l1 ?c1 ?k1 ?a2 ?l2 ?c2 ?k2 ?a3 ?l3 ?c3 ?k3 ?a4 ?l4 ?c4 ?k4 ?a5 ?l5 ?c5 ?k5 ?a6 ?l6 ?c6 ?k6 ?a7 ?l7 ?c7 ?k7 ?a8 ?l8 ?c8 ?k8 ?a9 ?l9 ?c9 ?k9 ?a10 ?l10 ?c10 ?k10 ?a11 ?l11 ?c11 ?k11 ?a12 ?l12 ?c12 ?k12 ?a13 ?l13 ?c13 ?k13 ?a14 ?l14 ?c14 ?k14 ?a15 ?l15 ?c15 ?k15 ?a16 ?l16 ?c16 ?k16 ?a17 ?l17 ?c17 ?k17 ?a18 ?l18 ?c18 ?k18 ?a19 ?l19 ?c19 ?k19 ?a20 ?l20 ?c20 ?k20 ?a21 ?l21 ?c21 ?k21 ?a22 ?l22 ?c22 ?k22 ?a23 ?l23 ?c23 ?k23 ?a24 ?l24 ?c24 ?k24 ?a25 ?l25 ?c25 ?k25 ?a26 ?l26 ?c26 ?k26 ?a27 ?l27 ?c27 ?k27 ?a28 ?l28 ?c28 ?k28 ?a29 ?l29 ?c29 ?k29 ?a30 ?l30 ?c30 ?k30 ?a31 ?l31 ?c31 ?k31 ?a32 ?l32 ?c32 ?k32 ?a33 ?l33 ?c33 ?k33 ?a34 ?l34 ?c34 ?k34 ?a35 ?l35 ?c35 ?k35 ?a36 ?l36 ?c36 ?k36 ?z1 ?z2 ?z3 ?z4 ?z5 ?z6 ?z7 ?z8 ?z9 ?z10 ?z11 ?z12 ?z13 ?z14 ?z15 ?z16 ?z17 ?z18 ?z19
    (case a1 => k_is)
    (case l1 => k_is)
    (case c1 => k_is)
    (case k1 => k_is)
    (case a2 => k_is)
    (case l2 => k_is)
    (case c2 => k_is)
    (case k2 => k_is)
    (case a3 => k_is)
    (case l3 => k_is)
    (case c3 => k_is)
    (case k3 => k_is)
    (case a4 => k_is)
    (case l4 => k_is)
    (case c4 => k_is)
    (case k4 => k_is)
    (case a5 => k_is)
    (case l5 => k_is)
    (case c5 => k_is)
    (case k5 => k_is)
    (case a6 => k_is)
    (case l6 => k_is)
    (case c6 => k_is)
    (case k6 => k_is)
    (case a7 => k_is)
    (case l7 => k_is)
    (case c7 => k_is)
    (case k7 => k_is)
    (case a8 => k_is)
    (case l8 => k_is)
    (case c8 => k_is)
    (case k8 => k_is)
    (case a9 => k_is)
    (case l9 => k_is)
    (case c9 => k_is)
    (case k9 => k_is)
    (case a10 => k_is)
    (case l10 => k_is)
    (case c10 => k_is)
    (case k10 => k_is)
    (case a11 => k_is)
    (case l11 => k_is)
    (case c11 => k_is)
    (case k11 => k_is)
    (case a12 => k_is)
    (case l12 => k_is)
    (case c12 => k_is)
    (case k12 => k_is)
    (case a13 => k_is)
    (case l13 => k_is)
    (case c13 => k_is)
    (case k13 => k_is)
    (case a14 => k_is)
    (case l14 => k_is)
    (case c14 => k_is)
    (case k14 => k_is)
    (case a15 => k_is)
    (case l15 => k_is)
    (case c15 => k_is)
    (case k15 => k_is)
    (case a16 => k_is)
    (case l16 => k_is)
    (case c16 => k_is)
    (case k16 => k_is)
    (case a17 => k_is)
    (case l17 => k_is)
    (case c17 => k_is)
    (case k17 => k_is)
    (case a18 => k_is)
    (case l18 => k_is)
    (case c18 => k_is)
    (case k18 => k_is)
    (case a19 => k_is)
    (case l19 => k_is)
    (case c19 => k_is)
    (case k19 => k_is)
    (case a20 => k_is)
    (case l20 => k_is)
    (case c20 => k_is)
    (case k20 => k_is)
    (case a21 => k_is)
    (case l21 => k_is)
    (case c21 => k_is)
    (case k21 => k_is)
    (case a22 => k_is)
    (case l22 => k_is)
    (case c22 => k_is)
    (case k22 => k_is)
    (case a23 => k_is)
    (case l23 => k_is)
    (case c23 => k_is)
    (case k23 => k_is)
    (case a24 => k_is)
    (case l24 => k_is)
    (case c24 => k_is)
    (case k24 => k_is)
    (case a25 => k_is)
    (case l25 => k_is)
    (case c25 => k_is)
    (case k25 => k_is)
    (case a26 => k_is)
    (case l26 => k_is)
    (case c26 => k_is)
    (case k26 => k_is)
    (case a27 => k_is)
    (case l27 => k_is)
    (case c27 => k_is)
    (case k27 => k_is)
    (case a28 => k_is)
    (case l28 => k_is)
    (case c28 => k_is)
    (case k28 => k_is)
    (case a29 => k_is)
    (case l29 => k_is)
    (case c29 => k_is)
    (case k29 => k_is)
    (case a30 => k_is)
    (case l30 => k_is)
    (case c30 => k_is)
    (case k30 => k_is)
    (case a31 => k_is)
    (case l31 => k_is)
    (case c31 => k_is)
    (case k31 => k_is)
    (case a32 => k_is)
    (case l32 => k_is)
    (case c32 => k_is)
    (case k32 => k_is)
    (case a33 => k_is)
    (case l33 => k_is)
    (case c33 => k_is)
    (case k33 => k_is)
    (case a34 => k_is)
    (case l34 => k_is)
    (case c34 => k_is)
    (case k34 => k_is)
    (case a35 => k_is)
    (case l35 => k_is)
    (case c35 => k_is)
    (case k35 => k_is)
    (case a36 => k_is)
    (case l36 => k_is)
    (case c36 => k_is)
    (case k36 => k_is)
    (case z1 => k_is)
    (case z2 => k_is)
    (case z3 => k_is)
    (case z4 => k_is)
    (case z5 => k_is)
    (case z6 => k_is)
    (case z7 => k_is)
    (case z8 => k_is)
    (case z9 => k_is)
    (case z10 => k_is)
    (case z11 => k_is)
    (case z12 => k_is)
    (case z13 => k_is)
    (case z14 => k_is)
    (case z15 => k_is)
    (case z16 => k_is)
    (case z17 => k_is)
    (case z18 => k_is)
    (case z19 => k_is)
