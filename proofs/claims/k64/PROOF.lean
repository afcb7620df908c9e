import PyProof.Rows.All
import Wide.All
import OpenK.AllK
import Wide.FinOn
import Lean
import PyProof.EqAt
import PyProof.EqKinds
import PyProof.TupleCall
import PySem.Challenge.RW_wallspace_k64_whole_faces_put_ahead
set_option Elab.async false
set_option linter.all false
set_option maxRecDepth 100000
section
open PySem PySem.Spec PyProof.Rows
abbrev q0a:=@List.length_map
abbrev q0b:=@List.getD_eq_getElem?_getD
abbrev q0c:=@List.getElem?_eq_getElem
abbrev q0d:=@Heap.get?_push_of_some
abbrev q0e:=@List.size_toArray
abbrev q0f:=@List.mem_map
abbrev q0g:=@List.getElem?_map
abbrev q0h:=@List.mem_cons_of_mem
abbrev q0i:=@List.mem_singleton
abbrev q0j:=@List.mem_cons_self
abbrev q0k:=@Nat.le_refl
abbrev q0l:=@List.length_append
abbrev q0m:=@Nat.le_trans
abbrev q0n:=@Heap.lt_size
abbrev q0o:=@Heap.get?_push_size
abbrev q0p:=@List.map_append
abbrev q0q:=@List.length_take
abbrev q0r:=@Option.map_eq_some_iff
abbrev q0s:=@PySem.W.mg_of
abbrev q0t:=@List.mem_cons
abbrev q0u:=@List.length_cons
abbrev q0v:=@Nat.ne_of_lt
abbrev q0w:=@List.getElem_mem
abbrev q0x:=@List.map_map
abbrev q0y:=@List.getElem?_eq_some_iff
abbrev q0z:=@Bool.false_ne_true
abbrev q0A:=@List.mem_map_of_mem
abbrev q0B:=@List.mem_of_getElem?
abbrev q0C:=@List.mem_iff_getElem
abbrev q0D:=@List.mem_append
abbrev q0E:=@List.take_add_one
abbrev q0F:=@Nat.lt_of_lt_of_le
abbrev q0G:=@List.getElem?_zip_eq_some
abbrev q0H:=@Decidable.byContradiction
abbrev q0I:=@List.length_zip
abbrev q0J:=@List.mem_append_left
abbrev q0K:=@Nat.zero_le
abbrev q0L:=@List.map_cons
abbrev q0M:=@List.mem_append_right
abbrev q0N:=@Heap.get?_update_other
abbrev q0O:=@Array.toList_append
abbrev q0P:=@List.take_length
abbrev q0Q:=@PySem.W.mg_none_of
abbrev q0R:=@List.getElem?_append_right
abbrev q0S:=@Int.toNat_natCast
abbrev q0T:=@List.length_singleton
abbrev q0U:=@List.filter_append
abbrev q0V:=@Array.length_toList
abbrev q0W:=@Int.mul_zero
abbrev q0X:=@List.dropLast_concat_getLast
abbrev q0Y:=@List.pairwise_map
abbrev q0Z:=@Array.perm_iff_toList_perm
abbrev q1a:=@List.mem_filter
abbrev q1b:=@List.length_eq_zero_iff
abbrev q1c:=@List.mem_range
abbrev q1d:=@List.map_congr_left
abbrev q1e:=@List.getElem?_append_left
abbrev q1f:=@List.take_of_length_le
abbrev q1g:=@Bool.and_eq_true
abbrev q1h:=@List.append_assoc
abbrev q1i:=@List.pairwise_cons
abbrev q1j:=@Bool.false_eq_true
abbrev q1k:=@Nat.lt_succ_of_lt
abbrev q1l:=@PySem.W.kia_one
abbrev q1m:=@Int.mul_ne_zero
abbrev q1n:=@List.any_eq_true
abbrev q1o:=@Int.mul_pos
abbrev q1p:=@List.replicate_succ
abbrev q1q:=@List.length_filter_le
abbrev q1r:=@List.getElem?_eq_none
abbrev q1s:=@Nat.add_sub_cancel_left
abbrev q1t:=@List.filter_cons_of_pos
abbrev q1u:=@List.filter_cons_of_neg
abbrev q1v:=@Bool.eq_iff_iff
abbrev q1w:=@List.nodup_append
abbrev q1x:=@List.filter_eq_self
abbrev q1y:=@Int.mul_nonneg
abbrev q1z:=@Int.mul_eq_zero
abbrev q1A:=@Int.add_zero
abbrev q1B:=@List.getElem?_take_of_lt
abbrev q1C:=@List.getElem_map
abbrev q1D:=@List.mem_of_mem_take
abbrev q1E:=@List.getElem?_set_ne
abbrev q1F:=@Nat.lt_irrefl
abbrev q1G:=@Int.le_of_lt
abbrev q1H:=@List.length_range
abbrev q1I:=@List.toList_toArray
abbrev q1J:=@List.of_mem_zip
abbrev q1K:=@List.length_set
abbrev q1L:=@List.getElem?_set_self
abbrev q1M:=@List.not_mem_nil
abbrev q1N:=@List.filter_cons
abbrev q1O:=@Int.gcd_dvd_left
abbrev q1P:=@List.take_append_drop
abbrev q1Q:=@List.set_set
abbrev q1R:=@List.mem_iff_getElem?
abbrev q1S:=@Heap.get?_update_self
abbrev q1T:=@Array.forIn_toList
abbrev q1U:=@Nat.le_succ
abbrev q1V:=@List.mem_or_eq_of_mem_set
abbrev q1W:=@List.drop_eq_getElem_cons
abbrev q1X:=@Int.eq_of_mul_eq_mul_left
abbrev q1Y:=@Nat.pow_le_pow_right
abbrev q1Z:=@Array.toList_reverse
abbrev q2a:=@Option.isSome_iff_exists
abbrev q2b:=@List.foldl_cons
abbrev q2c:=@List.append_nil
abbrev q2d:=@Nat.add_sub_cancel'
abbrev q2e:=@List.length_zipWith
abbrev q2f:=@List.length_drop
abbrev q2g:=@List.getElem_zip
end
namespace L2
open PySem PySem.Spec PyProof.Rows
abbrev Key:=Sum Int Str
def z9V:Key→Value→Bool
 | .inl k,v=>Value.isInt k v
 | .inr x,v=>Value.isStrOf x v
def keyH (w:World):Key→Int
 | .inl k=>hashInt k
 | .inr x=>hashStr w x
theorem z0R:∀{k:Key}{v:Value},z9V k v=true→(∃i t,k=Sum.inl i∧v=Value.int i t)∨(∃x t,k=Sum.inr x∧v=Value.str x t)
 | .inl i,v,h=>by
   obtain⟨t,e⟩:=Value.isInt_shape (k:=i) (v:=v) h
   exact .inl ⟨i,t,rfl,e⟩
 | .inr x,v,h=>by
   obtain⟨t,e⟩:=Value.isStrOf_shape (x:=x) (v:=v) h
   exact .inr ⟨x,t,rfl,e⟩
theorem y1L (i:Int) (t:Tok):z9V (.inl i) (.int i t)=true:=by simp[z9V,Value.isInt]
theorem y1K (x:Str) (t:Tok):z9V (.inr x) (.str x t)=true:=by simp[z9V,Value.isStrOf]
theorem y6D (a b:Int):decide ((Sum.inl a:Key)=Sum.inl b)=(a==b):=by
 by_cases e:a=b
 ·subst e;simp
 ·have h:¬(Sum.inl a:Key)=Sum.inl b:=fun q=>e (Sum.inl.inj q)
  rw[decide_eq_false h]
  exact (beq_eq_false_iff_ne.mpr e).symm
theorem y6A (a b:Str):decide ((Sum.inr a:Key)=Sum.inr b)=decide (a=b):=by
 by_cases e:a=b
 ·subst e;simp
 ·have h:¬(Sum.inr a:Key)=Sum.inr b:=fun q=>e (Sum.inr.inj q)
  rw[decide_eq_false h,decide_eq_false e]
theorem y6C (a:Int) (b:Str):decide ((Sum.inl a:Key)=Sum.inr b)=false:=decide_eq_false (fun q=>nomatch q)
theorem y6B (a:Str) (b:Int):decide ((Sum.inr a:Key)=Sum.inl b)=false:=decide_eq_false (fun q=>nomatch q)
def z0Q (prog:Program) (w:World):PySem.KeyKind prog w Key where
 is:=z9V
 hash:=keyH w
 inj:=fun v a b ha hb=>by
    rcases z0R ha with⟨i,t,rfl,rfl⟩|⟨x,t,rfl,rfl⟩
    ·rcases z0R hb with⟨j,u,rfl,e⟩|⟨y,u,rfl,e⟩
     ·injection e with e1 _;rw[e1]
     ·exact nomatch e
    ·rcases z0R hb with⟨j,u,rfl,e⟩|⟨y,u,rfl,e⟩
     ·exact nomatch e
     ·injection e with e1 _;rw[e1]
 byValue:=fun k v h=>by
    rcases z0R h with⟨i,t,rfl,rfl⟩|⟨x,t,rfl,rfl⟩<;>rfl
 pyHash:=fun hv h=>by
    rcases z0R hv with⟨i,t,rfl,rfl⟩|⟨x,t,rfl,rfl⟩
    ·exact wpAny_pyHash_int h
    ·exact wpAny_pyHash_str h
 eqBool:=fun hu hv h=>by
    rcases z0R hu with⟨i,t,rfl,rfl⟩|⟨x,t,rfl,rfl⟩
    ·rcases z0R hv with⟨j,u,rfl,rfl⟩|⟨y,u,rfl,rfl⟩
     ·rw[y6D] at h;exact wpAny_eqBool_int h
     ·rw[y6C] at h;exact SeqAt.EqAt.int_str i t y u _ _ _ _ h
    ·rcases z0R hv with⟨j,u,rfl,rfl⟩|⟨y,u,rfl,rfl⟩
     ·rw[y6B] at h;exact SeqAt.EqAt.str_int x t j u _ _ _ _ h
     ·rw[y6A] at h;exact wpAny_eqBool_str h
 «strs»:=fun k x t v h=>by
    rcases z0R h with⟨i,u,rfl,e⟩|⟨y,u,rfl,e⟩
    ·exact nomatch e
    ·injection e with e1 _
     subst e1
     cases v<;>rfl
theorem z7U (prog:Program) (w:World) (i:Int) (t:Tok):(z0Q prog w).is (.inl i) (.int i t)=true:=y1L i t
theorem z7T (prog:Program) (w:World) (x:Str) (t:Tok):(z0Q prog w).is (.inr x) (.str x t)=true:=y1K x t
end L2
namespace L2
open PySem PySem.Spec PyProof.Rows
inductive V where
 |non|bl (b:Bool)|int (i:Int)|str (x:Str)|byt (b:Array UInt8)|flt (b:UInt64)|ref (a:Addr)|ty (n:String)
 deriving DecidableEq
def RelV:V→Value→Prop
 | .non,u=>u=Value.none
 | .bl b,u=>u=Value.bool b
 | .int i,u=>∃t,u=Value.int i t
 | .str x,u=>∃t,u=Value.str x t
 | .byt b,u=>∃t,u=Value.bytes b t
 | .flt b,u=>∃t,u=Value.float b t
 | .ref a,u=>u=Value.ref a
 | .ty n,u=>u=Value.type n
abbrev Vals:List V→List Value→Prop:=Paired RelV
theorem Vals.length {xs:List V}{us:List Value} (r:Vals xs us):xs.length=us.length:=Paired.length r
theorem Vals.get:∀{xs:List V}{us:List Value}{i:Nat}{x:V},Vals xs us→xs[i]? =some x→∃u,us[i]? =some u∧RelV x u
 |_,_,_,_,.nil,e=>by simp at e
 |_,_,0,_,.cons r _,e=>by simp at e;subst e;exact⟨_,rfl,r⟩
 |_,_,i+1,x,.cons _ t,e=>by
  obtain⟨u,h1,h2⟩:=Vals.get (i:=i) (x:=x) t (by simpa using e)
  exact⟨u,by simpa using h1,h2⟩
theorem Vals.set {x:V}{u:Value} (r:RelV x u):∀{xs:List V}{us:List Value} (i:Nat),Vals xs us→Vals (xs.set i x) (us.set i u)
 |_,_,_,.nil => .nil
 |_,_,0,.cons _ t=> .cons r t
 |_,_,i+1,.cons q t=> .cons q (Vals.set r i t)
theorem Vals.append:∀{xs ys:List V}{us ws:List Value},Vals xs us→Vals ys ws→Vals (xs++ys) (us++ws)
 |_,_,_,_,.nil,s=>s
 |_,_,_,_,.cons r t,s=> .cons r (Vals.append t s)
theorem Vals.take:∀{xs:List V}{us:List Value} (n:Nat),Vals xs us→Vals (xs.take n) (us.take n)
 |_,_,0,_=> .nil
 |_,_,_+1,.nil => .nil
 |_,_,n+1,.cons r t=> .cons r (Vals.take n t)
theorem Vals.drop:∀{xs:List V}{us:List Value} (n:Nat),Vals xs us→Vals (xs.drop n) (us.drop n)
 |_,_,0,r=>r
 |_,_,_+1,.nil => .nil
 |_,_,n+1,.cons _ t=>Vals.drop n t
def RelO:Option V→Option Value→Prop
 |some v,some u=>RelV v u
 |none,none=>True
 |_,_=>False
def KV {κ:Type}:List (κ×V)→List (κ×Value)→Prop:=Paired fun (p:κ×V) (q:κ×Value)=>p.1=q.1∧RelV p.2 q.2
def kV:Key→V
 | .inl i=> .int i
 | .inr x=> .str x
inductive HO where
 /-- a list -/
 |lst (xs:List V)
 /-- a tuple (never changes) -/
 |tup (xs:List V)
 /-- a dict whose keys are ints and texts;one whose keys are tuples of ints and texts (the empty one is both) -/
 |dK (kvs:List (Key×V))|dT (kvs:List (List Key×V))
 /-- a set of ints:its members,its size -/
 |set (S:Int→Bool) (n:Nat)
 /-- an instance of the class at C,its dict at dx,its attributes -/
 |ins (C dx:Addr) (fs:List (Str×V))
 /-- the dict of the instance at x -/
 |own (x:Addr)
 /-- the dict of an exception -/
 |xd (fs:List (Str×V))
 /-- a bound method,f of x -/
 |met (f x:Addr)
 /-- a range object lo,lo+1,.. below hi -/
 |rng (lo hi:Int)
 /-- a thing that is known to the object (the script;a dict while a loop walks it):read,never written while it is so -/
 |frz (o:Obj) (u:HO)
 /-- a code object's table -/
 |tbl (ps:Array Value)
 /-- any other thing,by what is true of its one object (a def of one's own:SetO a S n:=HO.ext fun h=> ..) -/
 |ext (φ:Heap→Prop)
abbrev Hp:=Addr→Option HO
def upd (H:Hp) (a:Addr) (o:HO):Hp:=fun b=>if b=a then some o else H b
theorem z0b {H:Hp}{a:Addr}{o:HO}:upd H a o a=some o:=by unfold upd;rw[if_pos rfl]
theorem z0i {H:Hp}{a b:Addr}{o:HO} (h:b≠a):upd H a o b=H b:=by unfold upd;rw[if_neg h]
theorem z7s {H:Hp}{a:Addr}{o u:HO}:upd (upd H a o) a u=upd H a u:=by
 funext b;unfold upd;split<;>rfl
theorem ne_of {H:Hp}{a b:Addr}{o u:HO} (h:H a=some o) (h':H b=some u) (d:o≠u):a≠b:=by
 intro e;subst e;rw[h] at h';exact d (Option.some.inj h')
theorem z0g {H:Hp}{a b:Addr}{o:HO} (h:H a=some o) (h':H b=none):a≠b:=by
 intro e;subst e;rw[h] at h';cases h'
section
variable (P:Program) (w:World)
def ObjOk (H:Hp) (h:Heap) (a:Addr):HO→Prop
 | .lst xs=>xs.length≤sizeLine∧∃(its:List Value) (n:Nat),Vals xs its∧h.get? a=some {cls:= .type "list",data:= .seq its.toArray n}
 | .tup xs=>xs.length≤sizeLine∧∃its:List Value,Vals xs its∧IsTup h a its.toArray
 | .dK kvs=>kvs.length≤sizeLine∧(a==sysModules)=false∧∃vs,KV kvs vs∧h.DictOf (z0Q P w) a vs
 | .dT kvs=>kvs.length≤sizeLine∧(a==sysModules)=false∧∃xs:List (List Key×Addr×Value),
  Paired (fun (p:List Key×V) (q:List Key×Addr×Value)=>p.1=q.1∧H q.2.1=some (.tup (p.1.map kV))∧RelV p.2 q.2.2) kvs xs∧
  ∃o es ep,h.get? a=some o∧o.ExactDict∧o.data= .dict es ep∧es.toList=xs.map (entryOfKey (tupleKind (z0Q P w)))∧(xs.map (·.1)).Nodup
 | .set S n=>h.SetOf (intKind P w) a S n
 | .ins C dx fs=>H dx=some (.own a)∧fs.length≤1000∧dx≠a∧h.get? a=some (PySem.W.instObj C dx)∧
  ∃mA,h.Ns1 dx mA∧(∀f,RelO (fs.lookup f) (mA f))∧PySem.Within mA (fs.map (·.1))
 | .own _=>∃o,h.get? a=some o
 | .xd fs=>∃mA,h.Ns1 a mA∧∀f,RelO (fs.lookup f) (mA f)
 | .rng lo hi=>∃t u v,h.get? a=some {cls:= .type "range",data:= .fields #[.int lo t,.int hi u,.int 1 v]}
 | .frz o u=>h.get? a=some o∧ObjOk H h a u
 | .tbl ps=>h.get? a=some {cls:= .none,data:= .fields ps}
 | .met f x=>h.get? a=some (PySem.W.methodObj (.ref f) (.ref x))
 | .ext φ=>φ h∧(∃o,h.get? a=some o)∧∀h1 h2:Heap,φ h1→(∀o,h1.get? a=some o→h2.get? a=some o)→φ h2
def HOk (H:Hp) (h:Heap):Prop:=∀a o,H a=some o→ObjOk P w H h a o
end
section
variable {P:Program}{w:World}{H H':Hp}{h h':Heap}{a:Addr}{o:HO}
theorem ObjOk.lt (x:ObjOk P w H h a o):a<h.objs.size:=by
 cases o with
 |lst xs=>obtain⟨_,_,_,_,e⟩:=x;exact Heap.lt_size e
 |tup xs=>obtain⟨_,_,_,p⟩:=x;exact p.lt
 |dK kvs=>obtain⟨_,_,_,_,o,_,_,e,_⟩:=x;exact Heap.lt_size e
 |dT kvs=>obtain⟨_,_,_,_,o,_,_,e,_⟩:=x;exact Heap.lt_size e
 |set S n=>obtain⟨o,_,_,_,e,_⟩:=x;exact Heap.lt_size e
 |ins C dx fs=>obtain⟨_,_,_,e,_⟩:=x;exact Heap.lt_size e
 |own y=>obtain⟨_,e⟩:=x;exact Heap.lt_size e
 |xd fs=>obtain⟨_,⟨_,_,_,e,_⟩,_⟩:=x;exact Heap.lt_size e
 |rng lo hi=>obtain⟨_,_,_,e⟩:=x;exact Heap.lt_size e
 |frz ob u=>obtain⟨e,_⟩:=x;exact Heap.lt_size e
 |tbl ps=>exact Heap.lt_size (show h.get? a=some _ from x)
 |met f y=>exact Heap.lt_size (show h.get? a=some _ from x)
 |ext φ=>obtain⟨_,⟨_,e⟩,_⟩:=x;exact Heap.lt_size e
theorem Paired.mapP {α β:Type}{F G:α→β→Prop}:∀{l₁:List α}{l₂:List β},Paired F l₁ l₂→(∀a b,F a b→G a b)→Paired G l₁ l₂
 |_,_,.nil,_=> .nil
 |_,_,.cons r t,f=> .cons (f _ _ r) (Paired.mapP t f)
theorem ObjOk.stay (x:ObjOk P w H h a o) (k:∀b u,(b=a∨H b=some (.own a))→h.get? b=some u→h'.get? b=some u)
 (ho:∀b,H b=some (.own a)→H' b=some (.own a)) (ht:∀b xs,H b=some (.tup xs)→H' b=some (.tup xs)):ObjOk P w H' h' a o:=by
 induction o with
 |lst xs=>obtain⟨z,its,n,r,e⟩:=x;exact⟨z,its,n,r,k _ _ (.inl rfl) e⟩
 |tup xs=>obtain⟨z,its,r,ob,e,c⟩:=x;exact⟨z,its,r,ob,k _ _ (.inl rfl) e,c⟩
 |dK kvs=>obtain⟨z,y,vs,r,ob,es,ep,e,c⟩:=x;exact⟨z,y,vs,r,ob,es,ep,k _ _ (.inl rfl) e,c⟩
 |dT kvs=>
  obtain⟨z,y,xs,r,ob,es,ep,e,c⟩:=x
  exact⟨z,y,xs,Paired.mapP r fun p q z=>⟨z.1,ht _ _ z.2.1,z.2.2⟩,ob,es,ep,k _ _ (.inl rfl) e,c⟩
 |set S n=>obtain⟨ob,es,ep,t,e,c⟩:=x;exact⟨ob,es,ep,t,k _ _ (.inl rfl) e,c⟩
 |ins C dx fs=>
  obtain⟨d,z,ne,e,mA,⟨od,es,ep,e2,c⟩,r⟩:=x
  exact⟨ho _ d,z,ne,k _ _ (.inl rfl) e,mA,⟨od,es,ep,k _ _ (.inr d) e2,c⟩,r⟩
 |own y=>obtain⟨ob,e⟩:=x;exact⟨ob,k _ _ (.inl rfl) e⟩
 |xd fs=>obtain⟨mA,⟨od,es,ep,e,c⟩,r⟩:=x;exact⟨mA,⟨od,es,ep,k _ _ (.inl rfl) e,c⟩,r⟩
 |rng lo hi=>obtain⟨t,u,v,e⟩:=x;exact⟨t,u,v,k _ _ (.inl rfl) e⟩
 |frz ob u ih=>obtain⟨e,q⟩:=x;exact⟨k _ _ (.inl rfl) e,ih q⟩
 |tbl ps=>
  have e:h.get? a=some {cls:= .none,data:= .fields ps}:=x
  show h'.get? a=some {cls:= .none,data:= .fields ps}
  exact k a _ (.inl rfl) e
 |met f y=>
  have e:h.get? a=some (PySem.W.methodObj (.ref f) (.ref y)):=x
  show h'.get? a=some (PySem.W.methodObj (.ref f) (.ref y))
  exact k a _ (.inl rfl) e
 |ext φ=>obtain⟨p,⟨o,e⟩,st⟩:=x;exact⟨st _ _ p fun o q=>k _ _ (.inl rfl) q,⟨o,k _ _ (.inl rfl) e⟩,st⟩
theorem HOk.lt (x:HOk P w H h) (e:H a=some o):a<h.objs.size:=(x a o e).lt
theorem HOk.fresh (x:HOk P w H h) (e:h.objs.size≤a):H a=none:=by
 cases q:H a with
 |none=>rfl
 |some u=>exact absurd (Nat.lt_of_lt_of_le (x.lt q) e) (Nat.lt_irrefl _)
theorem HOk.kept (x:HOk P w H h) (k:∀b u,h.get? b=some u→h'.get? b=some u):HOk P w H h':=fun a o e=>
 (x a o e).stay (fun b u _ q=>k b u q) (fun _ q=>q) fun _ _ q=>q
theorem HOk.laid (x:HOk P w H h) (k:∀b u,h.get? b=some u→h'.get? b=some u) (hp:h.objs.size≤a) (new:ObjOk P w (upd H a o) h' a o):HOk P w (upd H a o) h':=fun b u e=>by
 have hn:=x.fresh hp
 by_cases hb:b=a
 ·subst hb;rw[z0b] at e;cases e;exact new
 ·rw[z0i hb] at e
  exact (x b u e).stay (fun c v _ q=>k c v q) (fun c q=>by rw[z0i (z0g q hn)];exact q) fun c xs q=>by rw[z0i (z0g q hn)];exact q
end
def Rd (H:Hp) (a:Addr) (u:HO):Prop:=H a=some u∨∃o,H a=some (.frz o u)
theorem Rd.ok {P:Program}{w:World}{H:Hp}{h:Heap}{a:Addr}{u:HO} (r:Rd H a u) (x:HOk P w H h):ObjOk P w H h a u:=by
 rcases r with r|⟨o,r⟩
 ·exact x a u r
 ·obtain⟨_,q⟩:=x a _ r
  exact q
def Mut:Option HO→Prop
 |some (.lst _)=>True
 |some (.dK _)=>True
 |some (.dT _)=>True
 |some (.set _ _)=>True
 |some (.ins _ _ _)=>True
 |some (.ext _)=>True
 |_=>False
section
variable {P:Program}{w:World}{H:Hp}{h h':Heap}{x e:Addr}{o':HO}
theorem HOk.write (ok:HOk P w H h) (mu:Mut (H x)) (he:e=x∨H e=some (.own x)) (k:∀b u,b≠e→h.get? b=some u→h'.get? b=some u) (heo:∃u,h'.get? e=some u)
 (new:ObjOk P w (upd H x o') h' x o'):HOk P w (upd H x o') h':=fun b u q=>by
 have nown:∀c y,H c=some (.own y)→c≠x:=fun c y r z=>by subst z;rw[r] at mu;exact mu
 have ntup:∀c xs,H c=some (.tup xs)→c≠x:=fun c xs r z=>by subst z;rw[r] at mu;exact mu
 by_cases hb:b=x
 ·subst hb;rw[z0b] at q;cases q;exact new
 ·rw[z0i hb] at q
  by_cases hbe:b=e
  ·have q':H b=some (.own x):=by
     rcases he with z|z
     ·exact absurd (hbe.trans z) hb
     ·rw[hbe];exact z
   rw[q] at q';cases q'
   obtain⟨v,hv⟩:=heo
   exact⟨v,by rw[hbe];exact hv⟩
  ·refine (ok b u q).stay (fun c v hc r=>k c v ?_ r) (fun c r=>by rw[z0i (nown c b r)];exact r) fun c xs r=>by rw[z0i (ntup c xs r)];exact r
   rcases hc with rfl|hc
   ·exact hbe
   ·rintro rfl
    rcases he with z|z
    ·exact nown c b hc z
    ·rw[hc] at z;cases z;exact hb rfl
end
structure Un (fs ex:List Addr) (H H':Hp) (h h':Heap):Prop where
 keep:∀b o,h.get? b=some o→H b=none→b∉fs→b∉ex→h'.get? b=some o
 slot:∀b o,h.get? b=some o→H b=none→b∈fs→b∉ex→∃sl,h'.get? b=some {o with slots:=sl}
 free:∀b o,h.get? b=some o→H b=none→b∉ex→H' b=none
 there:∀b o,h.get? b=some o→b∉ex→∃o',h'.get? b=some o'
 tups:∀b xs,H b=some (.tup xs)→H' b=some (.tup xs)
 frzs:∀b o u,H b=some (.frz o u)→H' b=some (.frz o u)
 tbls:∀b ps,H b=some (.tbl ps)→∃more,H' b=some (.tbl (ps++more))
section
variable {fs fs' ex ex':List Addr}{H H1 H2:Hp}{h h1 h2 h':Heap}{a x e:Addr}{o:HO}
theorem Un.any (u:Un fs ex H H1 h h1) {b:Addr}{ob:Obj} (q:h.get? b=some ob) (n:H b=none) (hx:b∉ex):∃sl,h1.get? b=some {ob with slots:=sl}:=by
 by_cases hb:b∈fs
 ·exact u.slot b ob q n hb hx
 ·exact⟨ob.slots,u.keep b ob q n hb hx⟩
theorem Un.kept (k:∀b u,h.get? b=some u→h'.get? b=some u):Un fs ex H H h h':=
 ⟨fun b ob q _ _ _=>k b ob q,fun b ob q _ _ _=>⟨ob.slots,k b ob q⟩,fun _ _ _ n _=>n,fun b ob q _=>⟨ob,k b ob q⟩,fun _ _ q=>q,fun _ _ _ q=>q,fun _ ps q=>⟨#[],by rw[q];simp⟩⟩
theorem Un.refl:Un fs ex H H h h:=Un.kept fun _ _ q=>q
theorem Un.laid (k:∀b u,h.get? b=some u→h'.get? b=some u) (hp:h.objs.size≤a) (hn:H a=none):Un fs ex H (upd H a o) h h' where
 keep:=fun b u q _ _ _=>k b u q
 slot:=fun b u q _ _ _=>⟨u.slots,k b u q⟩
 free:=fun b u q n _=>by rw[z0i (q0v (q0F (q0n q) hp))];exact n
 there:=fun b u q _=>⟨u,k b u q⟩
 tups:=fun b xs q=>by rw[z0i (z0g q hn)];exact q
 frzs:=fun b u xs q=>by rw[z0i (z0g q hn)];exact q
 tbls:=fun b ps q=>⟨#[],by rw[z0i (z0g q hn),q];simp⟩
theorem Un.write (mu:Mut (H x)) (he:e=x∨H e=some (.own x)) (k:∀b u,b≠e→h.get? b=some u→h'.get? b=some u) (heo:∃u,h'.get? e=some u):Un fs ex H (upd H x o) h h':=by
 have hx:∀b,H b=none→b≠x:=fun b n z=>by subst z;rw[n] at mu;exact mu
 have hb:∀b,H b=none→b≠e:=fun b n z=>by
  subst z
  rcases he with r|r
  ·exact hx b n r
  ·rw[n] at r;cases r
 have hm:∀b u,H b=some u→¬Mut (some u)→b≠x:=fun b u q nm z=>by subst z;rw[q] at mu;exact nm mu
 refine⟨fun b u q n _ _=>k b u (hb b n) q,fun b u q n _ _=>⟨u.slots,k b u (hb b n) q⟩,fun b u q n _=>by rw[z0i (hx b n)];exact n,fun b u q _=>?_,
  fun b xs q=>by rw[z0i (hm b _ q fun z=>z)];exact q,fun b u xs q=>by rw[z0i (hm b _ q fun z=>z)];exact q,fun b ps q=>⟨#[],by rw[z0i (hm b _ q fun z=>z),q];simp⟩⟩
 by_cases hbe:b=e
 ·subst hbe;exact heo
 ·exact⟨u,k b u hbe q⟩
end
def trk (h:Heap) (H:Hp):List Addr:=(List.range h.objs.size).filter fun a=>(H a).isSome
def y3t (h:Heap) (H:Hp):Heap:=PySem.W.hideAll h (trk h H)
theorem y1U (h:Heap) (H:Hp):(y3t h H).objs.size =h.objs.size:=PySem.W.hideAll_size _ _
theorem y3s {h:Heap}{H:Hp}{b:Addr}{o:Obj} (e:h.get? b=some o) (n:H b=none):(y3t h H).get? b=some o:=
 PySem.W.hideAll_get _ e fun hm=>by
  have q:(H b).isSome =true:=(q1a.mp hm).2
  rw[n] at q;simp at q
theorem y5i {h:Heap}{H:Hp}{b:Addr}{o:Obj} (e:(y3t h H).get? b=some o):h.get? b=some o∧H b=none:=by
 have e':h.get? b=some o:=PySem.W.of_hideAll (trk h H) e
 refine⟨e',?_⟩
 cases q:H b with
 |none=>rfl
 |some x=>
  have hm:b∈trk h H:=q1a.mpr ⟨q1c.mpr (q0n e'),by simp[q]⟩
  have z:(y3t h H).get? b=none:=PySem.W.hideAll_none (trk h H) hm
  rw[z] at e;cases e
end L2
namespace L2
open PySem PySem.Spec PyProof.Rows
structure Mod (K:PySem.W.Frag) (mg:Str→Option Value) (base:Heap):Prop where
 kin:K.In base
 glob:base.Ns mainGlobals mg
 blt:∃mb,base.Ns builtinsNs mb∧∀x:Str,x≠"__name__"→mb x=bootBuiltins x
 nolimit:base.NoLimit
structure Cx where
 prog:Program
 w:World
 K:PySem.W.Frag
 mg:Str→Option Value
 base:Heap
 A:Around
 N:List Str
 s₀:Shared
 H₀:Hp
 env:Env
 outer:List Env
 stack:List Env
 ex:List Addr
 fn:Str→Bool
 calm:Bool
 pn:List (Addr×Obj)
 xe:Value→Shared→Prop
def frs (l:List Env):List Addr:=l.filterMap (·.frame)
abbrev Cx.fs (X:Cx):List Addr:=frs X.outer
def Vis (sc:Scope) (x:Str):Prop:=sc.names.lookup x=some .local ∨sc.names.lookup x=some .cell ∨sc.names.lookup x=some .free
def Loc (sc:Scope) (x:Str):Prop:=sc.names.lookup x=some .local ∨sc.names.lookup x=some .cell
def Look (env:Env) (h:Heap) (m:Str→Option Value) (x:Str) (u:Value):Prop:=
 (env.kindOf x=some .local ∧m x=some u)∨((env.kindOf x=some .cell ∨env.kindOf x=some .free)∧∃c,env.cells.lookup x=some c∧h.IsCell c (some u))
structure Cx.Ok (X:Cx):Prop where
 mod:Mod X.K X.mg X.base
 kind:X.env.scope.kind= .function
 glob:X.env.globals=mainGlobals
 blt:X.env.builtins=builtinsNs
 above:X.s₀.heap.objs.size≤X.env.locals
 inj:∀x y c,X.env.cells.lookup x=some c→X.env.cells.lookup y=some c→x=y
 has:∀x,(X.env.kindOf x=some .cell ∨X.env.kindOf x=some .free)→∃c,X.env.cells.lookup x=some c
 cab:∀x c,X.fn x=true→X.env.cells.lookup x=some c→X.s₀.heap.objs.size≤c
 hd:X.calm=true→X.A.handled=none
 frames:X.A.frames=some X.stack
 stk:X.stack=X.outer∨(X.stack=X.env::X.outer∧X.env.frame=some X.env.locals)
 exf:∀b∈X.ex,b≠X.env.locals∧∀x c,X.env.cells.lookup x=some c→c≠b
 bs:∀b o,X.base.get? b=some o→X.s₀.heap.get? b=some o∧X.H₀ b=none
 bsz:X.base.objs.size≤X.s₀.heap.objs.size
 noex:∀b o,X.base.get? b=some o→b∉X.ex
 exfs:∀b∈X.ex,b∉X.fs
 funs:X.s₀.heap.FunFrames X.base X.outer
 frf:∀b∈X.fs,X.H₀ b=none
structure Inv (X:Cx) (pins:List (Addr×Obj)) (σ:List (Option V)) (H:Hp) (s:Shared):Prop where
 ok:X.Ok
 os:s.os=X.s₀.os
 bare:AllBare s.gens
 base:Un X.fs X.ex X.H₀ H X.s₀.heap s.heap
 loc:∃m,s.heap.Ns X.env.locals m∧∀(i:Nat) (x:Str) (v:V),X.N[i]? =some x→σ[i]? =some (some v)→Vis X.env.scope x→∃u,RelV v u∧Look X.env s.heap m x u
 cell:∀x c,X.env.cells.lookup x=some c→∃v,s.heap.IsCell c v
 free:H X.env.locals=none
 freeC:∀x c,X.env.cells.lookup x=some c→H c=none
 pin:∀p∈X.pn++pins,s.heap.get? p.1=some p.2∧H p.1=none∧p.1≠X.env.locals∧p.1∉X.fs∧∀v,p.2.data≠ .cell v
 hok:HOk X.prog X.w H s.heap
 len:σ.length=X.N.length
section
variable {X:Cx}{pins:List (Addr×Obj)}{σ:List (Option V)}{H H':Hp}{s:Shared}{h':Heap}
theorem Cx.Ok.nofr (ok:X.Ok) {b:Addr}{o:Obj} (e:X.base.get? b=some o):b∉X.fs:=fun hb=>by
 have:=(ok.funs.mem hb).1
 rw[e] at this;cases this
theorem Inv.bs (I:Inv X pins σ H s):∀b o,X.base.get? b=some o→s.heap.get? b=some o∧H b=none:=fun b o e=>
 ⟨I.base.keep b o (I.ok.bs b o e).1 (I.ok.bs b o e).2 (I.ok.nofr e) (I.ok.noex b o e),I.base.free b o (I.ok.bs b o e).1 (I.ok.bs b o e).2 (I.ok.noex b o e)⟩
theorem Inv.bk (I:Inv X pins σ H s):∀b o,X.base.get? b=some o→s.heap.get? b=some o:=fun b o e=>(I.bs b o e).1
theorem Inv.mod (I:Inv X pins σ H s):Mod X.K X.mg X.base:=I.ok.mod
theorem Inv.kIn (I:Inv X pins σ H s):X.K.In s.heap:=I.ok.mod.kin.keeps I.bk
theorem Inv.lt (I:Inv X pins σ H s):X.env.locals<s.heap.objs.size:=let ⟨_,hn,_⟩:=I.loc;hn.lt
theorem Inv.sz (I:Inv X pins σ H s):X.s₀.heap.objs.size≤s.heap.objs.size:=q0m I.ok.above (Nat.le_of_lt I.lt)
theorem Inv.nofs (I:Inv X pins σ H s) {a:Addr} (h:s.heap.objs.size≤a):a∉X.fs:=fun hb=>by
 obtain⟨_,o,ho,_⟩:=I.ok.funs.mem hb
 exact absurd (q0F (q0n ho) (q0m I.sz h)) (q1F _)
theorem Inv.cne (I:Inv X pins σ H s):∀x c,X.env.cells.lookup x=some c→c≠X.env.locals:=fun x c e z=>by
 obtain⟨v,o,ho,hd⟩:=I.cell x c e
 obtain⟨m,⟨o',es,ep,ho',hd',_⟩,_⟩:=I.loc
 rw[z,ho'] at ho;cases ho;rw[hd'] at hd;cases hd
theorem Inv.funs (I:Inv X pins σ H s):s.heap.FunFrames X.base X.outer:=by
 have all:∀(l:List Env),(∀b∈frs l,b∈X.fs)→X.s₀.heap.FunFrames X.base l→s.heap.FunFrames X.base l:=by
  intro l
  induction l with
  |nil=>intro _ _;trivial
  |cons env r ih=>
   intro hs hl
   obtain⟨hk,⟨L,o,hf,hn,ho,hd⟩,hr⟩:=hl
   have hL:L∈X.fs:=hs L (by unfold frs;rw[List.filterMap_cons,hf];exact List.mem_cons_self)
   obtain⟨sl,e⟩:=I.base.slot L o ho (I.ok.frf L hL) hL fun z=>I.ok.exfs L z hL
   exact⟨hk,⟨L,_,hf,hn,e,hd⟩,ih (fun b hb=>hs b (by unfold frs;rw[List.filterMap_cons,hf];exact List.mem_cons_of_mem _ hb)) hr⟩
 exact all X.outer (fun _ hb=>hb) I.ok.funs
theorem Inv.stack (I:Inv X pins σ H s):s.heap.FunFrames X.base X.stack:=by
 rcases I.ok.stk with e|⟨e,hf⟩
 ·rw[e];exact I.funs
 ·rw[e]
  obtain⟨m,hn,_⟩:=I.loc
  refine .cons (by rw[I.ok.kind];decide) hf hn ?_ I.funs
  exact Heap.get?_none_of_le (q0m I.ok.bsz I.ok.above)
theorem Inv.stkSub (I:Inv X pins σ H s):∀b∈frs X.stack,b∈X.env.locals::X.fs:=fun b hb=>by
 rcases I.ok.stk with e|⟨e,hf⟩
 ·rw[e] at hb;exact q0h _ hb
 ·rw[e] at hb
  unfold frs at hb
  rw[List.filterMap_cons,hf] at hb
  exact hb
theorem Inv.stkFree (I:Inv X pins σ H s):∀b∈frs X.stack,H b=none:=fun b hb=>by
 rcases q0t.mp (I.stkSub b hb) with e|hb
 ·rw[e];exact I.free
 ·obtain⟨_,o,ho,_⟩:=I.ok.funs.mem hb
  exact I.base.free b o ho (I.ok.frf b hb) fun z=>I.ok.exfs b z hb
theorem Inv.step {g':Array GenState}{t':Nat}{d':Drawn}{ch:List Addr} (I:Inv X pins σ H s)
 (hch:∀b∈ch,(b∈X.ex∨X.s₀.heap.objs.size≤b)∧b≠X.env.locals∧(∀x c,X.env.cells.lookup x=some c→c≠b)∧∀p∈X.pn++pins,p.1≠b)
 (keep:∀b o,b≠X.env.locals→b∉X.fs→b∉ch→s.heap.get? b=some o→H b=none→h'.get? b=some o)
 (slot:∀b o,b≠X.env.locals→b∈X.fs→b∉ch→s.heap.get? b=some o→H b=none→∃sl,h'.get? b=some {o with slots:=sl}) (free:∀b o,b∉ch→s.heap.get? b=some o→H b=none→H' b=none)
 (there:∀b o,b∉ch→s.heap.get? b=some o→∃o',h'.get? b=some o')
 (tups:∀b xs,H b=some (.tup xs)→H' b=some (.tup xs)) (frzs:∀b o u,H b=some (.frz o u)→H' b=some (.frz o u)) (tbls:∀b ps,H b=some (.tbl ps)→∃more,H' b=some (.tbl (ps++more)))
 (ns:∀m,s.heap.Ns X.env.locals m→h'.Ns X.env.locals m) (hok:HOk X.prog X.w H' h') (hg:AllBare g'):
 Inv X pins σ H' {s with heap:=h',gens:=g',drawn:=d',toks:=t'}:=by
 have neL:∀b o,X.s₀.heap.get? b=some o→b≠X.env.locals:=fun b o e=>q0v (q0F (q0n e) I.ok.above)
 have neC:∀b o,X.s₀.heap.get? b=some o→b∉X.ex→b∉ch:=fun b o e hx hb=>by
  rcases (hch b hb).1 with z|z
  ·exact hx z
  ·exact absurd (q0F (q0n e) z) (q1F _)
 have cellK:∀x c,X.env.cells.lookup x=some c→∀v,s.heap.IsCell c v→h'.IsCell c v:=fun x c e v ⟨o,ho,hd⟩=>by
  have nch:c∉ch:=fun z=>(hch c z).2.2.1 x c e rfl
  by_cases hc:c∈X.fs
  ·obtain⟨sl,q⟩:=slot c o (I.cne x c e) hc nch ho (I.freeC x c e)
   exact⟨_,q,hd⟩
  ·exact⟨o,keep c o (I.cne x c e) hc nch ho (I.freeC x c e),hd⟩
 refine⟨I.ok,I.os,hg,⟨fun b o e n hb hx=>?_,fun b o e n hb hx=>?_,fun b o e n hx=>?_,fun b o e hx=>?_,fun b xs e=>tups b xs (I.base.tups b xs e),fun b o xs e=>frzs b o xs (I.base.frzs b o xs e),fun b ps e=>?_⟩,?_,fun x c e=>?_,?_,fun x c e=>?_,fun p hp=>?_,hok,I.len⟩
 ·exact keep b o (neL b o e) hb (neC b o e hx) (I.base.keep b o e n hb hx) (I.base.free b o e n hx)
 ·obtain⟨sl,e1⟩:=I.base.slot b o e n hb hx
  obtain⟨sl',e2⟩:=slot b _ (neL b o e) hb (neC b o e hx) e1 (I.base.free b o e n hx)
  exact⟨sl',e2⟩
 ·obtain⟨o',e1⟩:=I.base.there b o e hx
  exact free b o' (neC b o e hx) e1 (I.base.free b o e n hx)
 ·obtain⟨o',e1⟩:=I.base.there b o e hx
  exact there b o' (neC b o e hx) e1
 ·obtain⟨m1,e1⟩:=I.base.tbls b ps e
  obtain⟨m2,e2⟩:=tbls b _ e1
  exact⟨m1++m2,by rw[e2,Array.append_assoc]⟩
 ·obtain⟨m,hn,hl⟩:=I.loc
  refine⟨m,ns m hn,fun i x v e1 e2 e3=>?_⟩
  obtain⟨u,r,l⟩:=hl i x v e1 e2 e3
  refine⟨u,r,?_⟩
  rcases l with l|⟨k,c,e,z⟩
  ·exact .inl l
  ·exact .inr ⟨k,c,e,cellK x c e _ z⟩
 ·obtain⟨v,z⟩:=I.cell x c e
  exact⟨v,cellK x c e v z⟩
 ·obtain⟨m,⟨o,_,_,ho,_⟩,_⟩:=I.loc
  exact free _ o (fun z=>(hch _ z).2.1 rfl) ho I.free
 ·obtain⟨v,o,ho,hd⟩:=I.cell x c e
  exact free c o (fun z=>(hch c z).2.2.1 x c e rfl) ho (I.freeC x c e)
 ·obtain⟨e,n,ne,nf,d⟩:=I.pin p hp
  have nch:p.1∉ch:=fun z=>(hch p.1 z).2.2.2 p hp rfl
  exact⟨keep p.1 p.2 ne nf nch e n,free p.1 p.2 nch e n,ne,nf,d⟩
theorem Inv.un {t':Nat} (I:Inv X pins σ H s) (u:Un X.fs [] H H' s.heap h') (hok:HOk X.prog X.w H' h'):Inv X pins σ H' {s with heap:=h',toks:=t'}:=by
 obtain⟨m,⟨o,es,ep,ho,r⟩,_⟩:=id I.loc
 obtain⟨sl,hL⟩:=u.any ho I.free (by simp)
 exact I.step (g':=s.gens) (d':=s.drawn) (ch:=[]) (fun _ z=>nomatch z) (fun b o _ hb _ e n=>u.keep b o e n hb (by simp)) (fun b o _ hb _ e n=>u.slot b o e n hb (by simp)) (fun b o _ e n=>u.free b o e n (by simp)) (fun b o _ e=>u.there b o e (by simp)) u.tups u.frzs u.tbls (fun m' hm=>by
  obtain⟨o',es',ep',ho',r'⟩:=hm
  rw[ho] at ho';cases ho'
  exact⟨_,es',ep',hL,r'⟩) hok I.bare
theorem Inv.call {g':Array GenState}{t':Nat}{d':Drawn}{ch:List Addr} (I:Inv X pins σ H s) (u:Un (frs X.stack) ch H H' s.heap h') (hok:HOk X.prog X.w H' h') (hg:AllBare g')
 (hch:∀b∈ch,(b∈X.ex∨X.s₀.heap.objs.size≤b)∧b≠X.env.locals∧(∀x c,X.env.cells.lookup x=some c→c≠b)∧∀p∈X.pn++pins,p.1≠b):
 Inv X pins σ H' {s with heap:=h',gens:=g',drawn:=d',toks:=t'}:=by
 obtain⟨m,⟨o,es,ep,ho,r⟩,_⟩:=id I.loc
 obtain⟨sl,hL⟩:=u.any ho I.free fun z=>(hch _ z).2.1 rfl
 exact I.step (ch:=ch) hch (fun b o hL hb hc e n=>u.keep b o e n (fun z=>(q0t.mp (I.stkSub b z)).elim hL hb) hc) (fun b o _ _ hc e n=>u.any e n hc) (fun b o hc e n=>u.free b o e n hc) (fun b o hc e=>u.there b o e hc) u.tups u.frzs u.tbls (fun m' hm=>by
  obtain⟨o',es',ep',ho',r'⟩:=hm
  rw[ho] at ho';cases ho'
  exact⟨_,es',ep',hL,r'⟩) hok hg
theorem Inv.turned {t':Nat}{it:Addr} (I:Inv X pins σ H s) (k:∀b o,b≠it→s.heap.get? b=some o→h'.get? b=some o) (hn:H it=none) (hL:it≠X.env.locals)
 (h1:it∈X.ex∨X.s₀.heap.objs.size≤it) (h2:∀x c,X.env.cells.lookup x=some c→c≠it) (h3:∀p∈X.pn++pins,p.1≠it):Inv X pins σ H {s with heap:=h',toks:=t'}:=by
 have nit:∀b u,H b=some u→b≠it:=fun b u e z=>by rw[z,hn] at e;cases e
 refine I.step (g':=s.gens) (d':=s.drawn) (ch:=[it]) (fun b hb=>?_) (fun b o _ _ hc e _=>k b o (fun z=>hc (by simp[z])) e) (fun b o _ _ hc e _=>⟨o.slots,k b o (fun z=>hc (by simp[z])) e⟩) (fun _ _ _ _ n=>n)
  (fun b o hc e=>⟨o,k b o (fun z=>hc (by simp[z])) e⟩) (fun _ _ e=>e) (fun _ _ _ e=>e) (fun b ps e=>⟨#[],by rw[e];simp⟩) (fun m hm=>?_) (fun b u e=>?_) I.bare
 ·have e:b=it:=by simpa using hb
  subst e
  exact⟨h1,hL,h2,h3⟩
 ·obtain⟨o,es,ep,ho,r⟩:=hm
  exact⟨o,es,ep,k _ o (Ne.symm hL) ho,r⟩
 ·refine (I.hok b u e).stay (fun c v hc q=>k c v ?_ q) (fun _ q=>q) fun _ _ q=>q
  rcases hc with z|z
  ·rw[z];exact nit b u e
  ·exact nit c _ z
theorem Inv.tok (I:Inv X pins σ H s) (t:Nat):Inv X pins σ H {s with toks:=t}:=I.un (h':=s.heap) (t':=t) Un.refl I.hok
theorem Inv.kept {t':Nat} (I:Inv X pins σ H s) (k:∀b u,s.heap.get? b=some u→h'.get? b=some u):Inv X pins σ H {s with heap:=h',toks:=t'}:=I.un (Un.kept k) (I.hok.kept k)
theorem Inv.laid {a:Addr}{o:HO}{t':Nat} (I:Inv X pins σ H s) (k:∀b u,s.heap.get? b=some u→h'.get? b=some u) (hp:s.heap.objs.size≤a) (new:ObjOk X.prog X.w (upd H a o) h' a o):
 Inv X pins σ (upd H a o) {s with heap:=h',toks:=t'}:=I.un (Un.laid k hp (I.hok.fresh hp)) (I.hok.laid k hp new)
theorem Inv.write {x e:Addr}{o:HO}{t':Nat} (I:Inv X pins σ H s) (mu:Mut (H x)) (he:e=x∨H e=some (.own x)) (k:∀b u,b≠e→s.heap.get? b=some u→h'.get? b=some u) (heo:∃u,h'.get? e=some u)
 (new:ObjOk X.prog X.w (upd H x o) h' x o):Inv X pins σ (upd H x o) {s with heap:=h',toks:=t'}:=I.un (Un.write mu he k heo) (I.hok.write mu he k heo new)
theorem Inv.pins_of {pins':List (Addr×Obj)} (I:Inv X pins σ H s) (h:∀p∈pins',s.heap.get? p.1=some p.2∧H p.1=none∧p.1≠X.env.locals∧p.1∉X.fs∧∀v,p.2.data≠ .cell v):Inv X pins' σ H s:=
 ⟨I.ok,I.os,I.bare,I.base,I.loc,I.cell,I.free,I.freeC,fun p hp=>(q0D.mp hp).elim (fun z=>I.pin p (q0J _ z)) (h p),I.hok,I.len⟩
theorem z5Q {N:List Str} (hN:N.Nodup) {i j:Nat}{x:Str} (a:N[i]? =some x) (b:N[j]? =some x):i=j:=by
 obtain⟨h1,e1⟩:=q0y.mp a
 obtain⟨h2,e2⟩:=q0y.mp b
 exact (List.getElem_inj hN).mp (e1.trans e2.symm)
theorem z6u {M:Model}{A:Around}{E:Value→Shared→Prop}{i:Nat}{x:Str}{v:V}{u:Value}{Q:Unit→Shared→Prop} (I:Inv X pins σ H s) (hN:X.N.Nodup) (hi:X.N[i]? =some x) (hx:Loc X.env.scope x) (r:RelV v u)
 (h:∀s',Inv X pins (σ.set i (some v)) H s'→(∃a,Heap.SameBut a s.heap s'.heap∧(a=X.env.locals∨X.env.cells.lookup x=some a))→Q () s') (hf:X.fn x=true∨X.env.scope.names.lookup x=some .local :=by first|exact .inl rfl|exact .inr rfl|assumption):wpAny M A (storeName X.env x u) Q E s:=by
 obtain⟨m,hn,hl⟩:=id I.loc
 have hcls:(X.env.scope.kind== .class || (X.env.scope.kind== .module &&X.env.locals != X.env.globals))=false:=by rw[I.ok.kind];rfl
 have hiσ:i<σ.length:=by rw[I.len];exact (q0y.mp hi).1
 have cne:=I.cne
 have tracked:∀{a:Addr}{h':Heap},(∃o,s.heap.get? a=some o∧H a=none)→Heap.SameBut a s.heap h'→HOk X.prog X.w H h':=fun {a h'} ha hs b ob e=>by
  obtain⟨_,_,hfree⟩:=ha
  refine (I.hok b ob e).stay (fun c w' hc q=>(hs.2 c ?_).trans q) (fun _ q=>q) fun _ _ q=>q
  rintro rfl
  rcases hc with rfl|hc
  ·rw[hfree] at e;cases e
  ·rw[hfree] at hc;cases hc
 rcases hx with hk|hk
 ·refine wpAny_storeName_local hk hn (fun h' hn' hs=>?_) hcls
  obtain⟨oL,_,_,hoL,_⟩:=id hn
  refine h _ ⟨I.ok,I.os,I.bare,⟨fun b o e n hb hx=>?_,fun b o e n hb hx=>?_,I.base.free,fun b o e hx=>?_,I.base.tups,I.base.frzs,I.base.tbls⟩,⟨_,hn',fun j y v' e1 e2 e3=>?_⟩,fun y c e=>?_,I.free,I.freeC,fun p hp=>?_,tracked ⟨oL,hoL,I.free⟩ hs,by simpa using I.len⟩ ⟨_,hs,.inl rfl⟩
  ·exact (hs.2 b (q0v (q0F (q0n e) I.ok.above))).trans (I.base.keep b o e n hb hx)
  ·obtain⟨sl,e1⟩:=I.base.slot b o e n hb hx
   exact⟨sl,(hs.2 b (q0v (q0F (q0n e) I.ok.above))).trans e1⟩
  ·obtain⟨o',e1⟩:=I.base.there b o e hx
   exact⟨o',(hs.2 b (q0v (q0F (q0n e) I.ok.above))).trans e1⟩
  ·by_cases hj:j=i
   ·subst hj
    rw[hi] at e1;cases e1
    rw[q1L hiσ] at e2
    cases e2
    exact⟨u,r,.inl ⟨hk,by simp⟩⟩
   ·rw[q1E (Ne.symm hj)] at e2
    obtain⟨u',r',q⟩:=hl j y v' e1 e2 e3
    refine⟨u',r',?_⟩
    rcases q with⟨k,e⟩|⟨k,c,e,z⟩
    ·refine .inl ⟨k,?_⟩
     have:y≠x:=fun e=>hj (z5Q hN e1 (e▸hi))
     simp[this,e]
    ·exact .inr ⟨k,c,e,z.sameBut hs (cne y c e)⟩
  ·obtain⟨w',z⟩:=I.cell y c e
   exact⟨w',z.sameBut hs (cne y c e)⟩
  ·obtain⟨e,n,ne,nf,d⟩:=I.pin p hp
   exact⟨(hs.2 p.1 ne).trans e,n,ne,nf,d⟩
 ·have hfn:X.fn x=true:=by
   rcases hf with z|z
   ·exact z
   ·rw[z] at hk;cases hk
  obtain⟨c,hc⟩:=I.ok.has x (.inl hk)
  obtain⟨w',z⟩:=I.cell x c hc
  refine wpAny_storeName_cell I.ok.kind hk hc z (fun h' hc' hs=>?_)
  obtain⟨oc,hoc,hocd⟩:=id z
  refine h {s with heap:=h'} ⟨I.ok,I.os,I.bare,⟨fun b o e n hb hx=>?_,fun b o e n hb hx=>?_,I.base.free,fun b o e hx=>?_,I.base.tups,I.base.frzs,I.base.tbls⟩,⟨m,hn.sameBut hs (Ne.symm (cne x c hc)),fun j y v' e1 e2 e3=>?_⟩,fun y c' e=>?_,I.free,I.freeC,fun p hp=>?_,tracked ⟨oc,hoc,I.freeC x c hc⟩ hs,by simpa using I.len⟩ ⟨c,hs,.inr hc⟩
  ·exact (hs.2 b (q0v (q0F (q0n e) (I.ok.cab x c hfn hc)))).trans (I.base.keep b o e n hb hx)
  ·obtain⟨sl,e1⟩:=I.base.slot b o e n hb hx
   exact⟨sl,(hs.2 b (q0v (q0F (q0n e) (I.ok.cab x c hfn hc)))).trans e1⟩
  ·obtain⟨o',e1⟩:=I.base.there b o e hx
   exact⟨o',(hs.2 b (q0v (q0F (q0n e) (I.ok.cab x c hfn hc)))).trans e1⟩
  ·by_cases hj:j=i
   ·subst hj
    rw[hi] at e1;cases e1
    rw[q1L hiσ] at e2
    cases e2
    exact⟨u,r,.inr ⟨.inl hk,c,hc,hc'⟩⟩
   ·rw[q1E (Ne.symm hj)] at e2
    obtain⟨u',r',q⟩:=hl j y v' e1 e2 e3
    refine⟨u',r',?_⟩
    rcases q with q|⟨k,c',e,z'⟩
    ·exact .inl q
    ·refine .inr ⟨k,c',e,z'.sameBut hs ?_⟩
     rintro rfl
     exact hj (z5Q hN e1 (I.ok.inj _ _ _ e hc▸hi))
  ·by_cases hcc:c'=c
   ·subst hcc;exact⟨_,hc'⟩
   ·obtain⟨w2,z2⟩:=I.cell y c' e
    exact⟨w2,z2.sameBut hs hcc⟩
  ·obtain⟨e,n,ne,nf,d⟩:=I.pin p hp
   refine⟨(hs.2 p.1 ?_).trans e,n,ne,nf,d⟩
   intro q
   rw[q,hoc] at e
   have q':oc=p.2:=Option.some.inj e
   exact d w' (by rw[←q'];exact hocd)
theorem z2R {M:Model}{A:Around}{E:Value→Shared→Prop}{i:Nat}{x:Str}{v:V}{u:Value}{Q:Unit→Shared→Prop} (I:Inv X pins σ H s) (hN:X.N.Nodup) (hi:X.N[i]? =some x) (hx:Loc X.env.scope x) (r:RelV v u)
 (h:∀s',Inv X pins (σ.set i (some v)) H s'→Q () s') (hf:X.fn x=true∨X.env.scope.names.lookup x=some .local :=by first|exact .inl rfl|exact .inr rfl|assumption):wpAny M A (storeName X.env x u) Q E s:=
 z6u I hN hi hx r (fun s' I' _=>h s' I') hf
theorem Inv.call' {s':Shared}{ch:List Addr} (I:Inv X pins σ H s) (ho:s'.os=s.os) (u:Un (frs X.stack) ch H H' s.heap s'.heap) (hok:HOk X.prog X.w H' s'.heap) (hg:AllBare s'.gens)
 (hch:∀b∈ch,(b∈X.ex∨X.s₀.heap.objs.size≤b)∧b≠X.env.locals∧(∀x c,X.env.cells.lookup x=some c→c≠b)∧∀p∈X.pn++pins,p.1≠b):Inv X pins σ H' s':=by
 obtain⟨h',g',d',t',o'⟩:=s'
 have e:o'=s.os:=ho
 subst e
 exact I.call (g':=g') (t':=t') (d':=d') u hok hg hch
end
abbrev XK:=Value→Option Addr→Hp→Prop
abbrev St:=List (Option V)
abbrev VK:=V→Hp→Prop
abbrev TE:=St→Hp→VK→Prop
abbrev TT:=St→Hp→(Bool→Hp→Prop)→Prop
abbrev TA:=St→Hp→(List V→Hp→Prop)→Prop
structure y4w where
 nx:St→Hp→Prop
 rt:VK
 bk:St→Hp→Prop:=fun _ _=>False
 ct:St→Hp→Prop:=fun _ _=>False
abbrev TS:=y4w→St→Hp→Prop
def EP (X:Cx) (pins:List (Addr×Obj)) (σ:St) (Q:VK) (u:Value) (s':Shared):Prop:=∃v H',Inv X pins σ H' s'∧RelV v u∧Q v H'
def TP (X:Cx) (pins:List (Addr×Obj)) (σ:St) (Q:Bool→Hp→Prop) (b:Bool) (s':Shared):Prop:=∃H',Inv X pins σ H' s'∧Q b H'
def AP (X:Cx) (pins:List (Addr×Obj)) (σ:St) (Q:List V→Hp→Prop) (us:List Value) (s':Shared):Prop:=∃vs H',Inv X pins σ H' s'∧Vals vs us∧Q vs H'
def SP (X:Cx) (pins:List (Addr×Obj)) (D:y4w) (f:Flow) (s':Shared):Prop:=
 match f with
 | .next =>∃σ' H',Inv X pins σ' H' s'∧D.nx σ' H'
 | .brk =>∃σ' H',Inv X pins σ' H' s'∧D.bk σ' H'
 | .cont =>∃σ' H',Inv X pins σ' H' s'∧D.ct σ' H'
 | .ret u=>∃v σ' H',Inv X pins σ' H' s'∧RelV v u∧D.rt v H'
def PE (X:Cx) (e:Expr) (t:TE):Prop:=
 ∀(pins:List (Addr×Obj)) (s:Shared) (σ:St) (H:Hp) (Q:VK),Inv X pins σ H s→t σ H Q→wpAny (model X.prog X.w) X.A (eval e X.env) (EP X pins σ Q) X.xe s
def PT (X:Cx) (e:Expr) (t:TT):Prop:=
 ∀(pins:List (Addr×Obj)) (s:Shared) (σ:St) (H:Hp) (Q:Bool→Hp→Prop),Inv X pins σ H s→t σ H Q→wpAny (model X.prog X.w) X.A (isTrue e X.env (eval e X.env)) (TP X pins σ Q) X.xe s
def PW (X:Cx) (e:Expr) (t:TT):Prop:=
 ∀(whole:Sem Value) (pins:List (Addr×Obj)) (s:Shared) (σ:St) (H:Hp) (Q:Bool→Hp→Prop),Inv X pins σ H s→t σ H Q→wpAny (model X.prog X.w) X.A (isTrue e X.env whole) (TP X pins σ Q) X.xe s
theorem PW.pt {X:Cx}{e:Expr}{t:TT} (h:PW X e t):PT X e t:=h _
def PA (X:Cx) (es:List Expr) (t:TA):Prop:=
 ∀(pos:Pos) (pins:List (Addr×Obj)) (s:Shared) (σ:St) (H:Hp) (Q:List V→Hp→Prop),Inv X pins σ H s→t σ H Q→wpAny (model X.prog X.w) X.A (spliced (backTo pos (starEach es X.env))) (AP X pins σ Q) X.xe s
def PS (X:Cx) (st:Stmt) (t:TS):Prop:=
 ∀(pins:List (Addr×Obj)) (s:Shared) (σ:St) (H:Hp) (D:y4w),Inv X pins σ H s→t D σ H→wpAny (model X.prog X.w) X.A (exec st X.env) (SP X pins D) X.xe s
def PSs (X:Cx) (st:List Stmt) (t:TS):Prop:=
 ∀(pins:List (Addr×Obj)) (s:Shared) (σ:St) (H:Hp) (D:y4w),Inv X pins σ H s→t D σ H→wpAny (model X.prog X.w) X.A (execs st X.env) (SP X pins D) X.xe s
theorem thn {α:Type}{t:Sem α}{Q Q':α→Shared→Prop}{M:Model}{A:Around}{E:Value→Shared→Prop}{s:Shared} (h:wpAny M A t Q E s) (hQ:∀a s,Q a s→Q' a s):wpAny M A t Q' E s:=wpAny_mono h hQ fun _ _ x=>x
end L2
namespace L2
open PySem PySem.Spec PyProof.Rows
section
variable {X:Cx}
def tVar (i:Nat):TE:=fun σ H Q=>∃v,σ[i]? =some (some v)∧Q v H
def tC (v:V):TE:=fun _ H Q=>Q v H
theorem y6k {i:Nat}{x:Str}{pos:Pos} (hN:X.N[i]? =some x) (hv:Vis X.env.scope x) (hd:(x==("__debug__":Str))=false:=by decide) (hcd:(x==("__classdict__":Str))=false:=by decide):PE X (.Name x pos) (tVar i):=by
 intro pins s σ H Q I h
 obtain⟨v,e,h⟩:=h
 obtain⟨m,hn,hl⟩:=I.loc
 obtain⟨u,r,l⟩:=hl i x v hN e hv
 have fin:EP X pins σ Q u s:=⟨v,H,I,r,h⟩
 rcases l with⟨hk,hm⟩|⟨hk,c,hc,hcell⟩
 ·exact wpAny_Name (wpAny_loadName_local I.ok.kind hk hn hm fin) hd
 ·rcases hk with hk|hk
  ·exact wpAny_Name (wpAny_loadName_cell I.ok.kind hk hc hcell fin) hd
  ·exact wpAny_Name (wpAny_loadName_free I.ok.kind hk hc hcell fin hcd) hd
theorem z0f {i j pos}:PE X (.Constant (.int i) j pos) (tC (.int i)):=fun _ _ _ H _ I h=>wpAny_Constant_int ⟨.int i,H,I.tok _,⟨_,rfl⟩,h⟩
theorem z4I {b j pos}:PE X (.Constant (.bool b) j pos) (tC (.bl b)):=fun _ _ _ H _ I h=>Constant_bool ⟨.bl b,H,I,rfl,h⟩
theorem z5d {j pos}:PE X (.Constant .none j pos) (tC .non):=fun _ _ _ H _ I h=>Constant_none ⟨.non,H,I,rfl,h⟩
theorem y6l {x j pos}:PE X (.Constant (.str x) j pos) (tC (.str x)):=fun _ _ _ H _ I h=>Calls.Constant_str ⟨.str x,H,I.tok _,⟨_,rfl⟩,h⟩
def Gl (X:Cx) (x:Str):Prop:=X.env.kindOf x=some .globalImplicit
theorem z4q {E:Value→Shared→Prop}{pins:List (Addr×Obj)}{s:Shared}{σ:St}{H:Hp}{x:Str}{u:Value}{pos:Pos}{Q:Value→Shared→Prop} (I:Inv X pins σ H s) (hg:Gl X x) (hm:X.mg x=some u) (h:Q u s)
 (hd:(x==("__debug__":Str))=false:=by decide):wpAny (model X.prog X.w) X.A (eval (.Name x pos) X.env) Q E s:=
 Calls.Name_function_global I.ok.kind hg (Calls.loadGlobal_global (by rw[I.ok.glob];exact I.mod.glob.keeps I.bk) hm h) hd
theorem z3b {E:Value→Shared→Prop}{pins:List (Addr×Obj)}{s:Shared}{σ:St}{H:Hp}{x:Str}{u:Value}{pos:Pos}{Q:Value→Shared→Prop} (I:Inv X pins σ H s) (hg:Gl X x) (hm:X.mg x=none) (hv:bootBuiltins x=some u) (h:Q u s)
 (hn:x≠"__name__":=by decide) (hd:(x==("__debug__":Str))=false:=by decide):wpAny (model X.prog X.w) X.A (eval (.Name x pos) X.env) Q E s:=by
 obtain⟨mb,h1,h2⟩:=I.mod.blt
 exact Calls.Name_function_global I.ok.kind hg (Calls.loadGlobal_builtin (by rw[I.ok.glob];exact I.mod.glob.keeps I.bk) hm (by rw[I.ok.blt];exact h1.keeps I.bk) ((h2 x hn).trans hv) h) hd
theorem z2K {x:Str}{v:V}{u:Value}{pos:Pos} (hg:Gl X x) (hm:X.mg x=some u) (r:RelV v u) (hd:(x==("__debug__":Str))=false:=by decide):PE X (.Name x pos) (tC v):=
 fun _ _ _ H _ I h=>z4q I hg hm ⟨v,H,I,r,h⟩ hd
theorem z5K {x:Str}{v:V}{u:Value}{pos:Pos} (hg:Gl X x) (hm:X.mg x=none) (hv:bootBuiltins x=some u) (r:RelV v u) (hn:x≠"__name__":=by decide) (hd:(x==("__debug__":Str))=false:=by decide):PE X (.Name x pos) (tC v):=
 fun _ _ _ H _ I h=>z3b I hg hm hv ⟨v,H,I,r,h⟩ hn hd
variable {a b:Expr}{ta tb:TE}{pos:Pos}
def PC (X:Cx) (op:CmpOp) (a b:Expr) (t:TE):Prop:=
 ∀(pins:List (Addr×Obj)) (s:Shared) (σ:St) (H:Hp) (Q:VK),Inv X pins σ H s→t σ H Q→
  wpAny (model X.prog X.w) X.A (eval a X.env) (fun v s₁=>wpAny (model X.prog X.w) X.A (eval b X.env) (fun u s₂=>wpAny (model X.prog X.w) X.A (compareOp op v u) (EP X pins σ Q) X.xe s₂) X.xe s₁) X.xe s
theorem z8O (b:Expr) {op:CmpOp} (h:op≠ .In) (h2:op≠ .NotIn):behindInMarks op b=false:=by
 have e1:(op==CmpOp.In)=false:=by cases op<;>first|rfl|exact absurd rfl h
 have e2:(op==CmpOp.NotIn)=false:=by cases op<;>first|rfl|exact absurd rfl h2
 cases b<;>simp[behindInMarks,e1,e2]
def tIsN (ta:TE):TE:=fun σ H Q=>ta σ H fun x H1=>Q (.bl (decide (x= .non))) H1
def tNotN (ta:TE):TE:=fun σ H Q=>ta σ H fun x H1=>Q (.bl (!decide (x= .non))) H1
theorem RelV.none_iff {x:V}{v:Value} (r:RelV x v):(v==Value.none)=decide (x= .non):=by
 cases x with
 |non=>cases r;rfl
 |bl _=>cases r;rfl
 |int _=>obtain⟨t,rfl⟩:=r;rfl
 |str _=>obtain⟨t,rfl⟩:=r;rfl
 |byt _=>obtain⟨t,rfl⟩:=r;rfl
 |flt _=>obtain⟨t,rfl⟩:=r;rfl
 |ref _=>cases r;rfl
 |ty _=>cases r;rfl
theorem z8K {j pos'} (ha:PE X a ta):PC X .Is a (.Constant .none j pos') (tIsN ta):=by
 intro pins s σ H Q I h
 refine thn (ha pins s σ H _ I h) fun v s1 ⟨x,H1,I1,r1,q1⟩=>?_
 exact Constant_none (is_none_gen ⟨.bl _,H1,I1,by rw[r1.none_iff];rfl,q1⟩)
theorem z7L {j pos'} (ha:PE X a ta):PC X .IsNot a (.Constant .none j pos') (tNotN ta):=by
 intro pins s σ H Q I h
 refine thn (ha pins s σ H _ I h) fun v s1 ⟨x,H1,I1,r1,q1⟩=>?_
 exact Constant_none (isnot_none_gen ⟨.bl _,H1,I1,by rw[r1.none_iff];rfl,q1⟩)
def tB (t:TE):TT:=fun σ H Q=>t σ H fun x H1=>∃c,x= .bl c∧Q c H1
theorem y6n {op:CmpOp}{t:TE} (h:PC X op a b t) (h1:behindInMarks op b=false:=by first|exact z8O _ (by decide) (by decide)|rfl):PE X (.Compare a [op] [b] pos) t:=fun pins s σ H Q I hw=>wpAny_Compare1 (h pins s σ H Q I hw) h1
theorem z5a {op:CmpOp}{t:TE} (h:PC X op a b t) (h1:behindInMarks op b=false:=by first|exact z8O _ (by decide) (by decide)|rfl):PT X (.Compare a [op] [b] pos) (tB t):=by
 intro pins s σ H Q I hw
 refine wpAny_isTrue_Compare1 (thn (h pins s σ H _ I hw) fun v s1 h1=>thn h1 fun u s2 h2=>thn h2 fun c s3 ⟨x,H1,I1,r1,q1⟩=>?_) h1
 obtain⟨d,rfl,q⟩:=q1
 cases r1
 exact wpAny_truthy_bool ⟨H1,I1,q⟩
theorem z2V {e:Expr}{t:TE} (h:PE X e t) (he:∀whole,isTrue e X.env whole=(do let v ←whole;standAt e.pos;holding [v] (truthy v)):=by intro _;rfl):PT X e (tB t):=by
 intro pins s σ H Q I hw
 refine isTrue_plain (thn (h pins s σ H _ I hw) fun v s1 ⟨x,H1,I1,r1,q1⟩=>?_) (he _)
 obtain⟨d,rfl,q⟩:=q1
 cases r1
 exact wpAny_truthy_bool ⟨H1,I1,q⟩
variable {tA tB':TT}{rest:List Expr}
def tAnd (t u:TT):TT:=fun σ H Q=>t σ H fun c H1=>if c=true then u σ H1 Q else Q false H1
def tOr (t u:TT):TT:=fun σ H Q=>t σ H fun c H1=>if c=true then Q true H1 else u σ H1 Q
def tNot (t:TT):TT:=fun σ H Q=>t σ H fun c H1=>Q (!c) H1
theorem y4U (ha:PT X a tA):PW X (.BoolOp .And [a] pos) tA:=by
 intro wh pins s σ H Q I h
 refine isTrue_and (thn (ha pins s σ H Q I h) fun c s1 e=>?_)
 cases c with
 |true=>exact isTrue_and_nil e
 |false=>exact e
theorem y3R (ha:PT X a tA):PW X (.BoolOp .Or [a] pos) tA:=by
 intro wh pins s σ H Q I h
 refine isTrue_or (thn (ha pins s σ H Q I h) fun c s1 e=>?_)
 cases c with
 |false=>exact isTrue_or_nil e
 |true=>exact e
theorem y6c (ha:PT X a tA) (hb:PW X (.BoolOp .And (b::rest) pos) tB'):PW X (.BoolOp .And (a::b::rest) pos) (tAnd tA tB'):=by
 intro wh pins s σ H Q I h
 refine isTrue_and (thn (ha pins s σ H _ I h) fun c s1 ⟨H1,I1,q1⟩=>?_)
 cases c with
 |true=>exact hb wh pins s1 σ H1 Q I1 q1
 |false=>exact⟨H1,I1,q1⟩
theorem y2X (ha:PT X a tA) (hb:PW X (.BoolOp .Or (b::rest) pos) tB'):PW X (.BoolOp .Or (a::b::rest) pos) (tOr tA tB'):=by
 intro wh pins s σ H Q I h
 refine isTrue_or (thn (ha pins s σ H _ I h) fun c s1 ⟨H1,I1,q1⟩=>?_)
 cases c with
 |true=>exact⟨H1,I1,q1⟩
 |false=>exact hb wh pins s1 σ H1 Q I1 q1
theorem z4Z (ha:PT X a tA):PT X (.UnaryOp .Not a pos) (tNot tA):=by
 intro pins s σ H Q I h
 exact isTrue_not (ha pins s σ H (fun c H1=>Q (!c) H1) I h)
def tAndV (ta tb:TE):TE:=fun σ H Q=>ta σ H fun x H1=>∃c,x= .bl c∧if c=true then tb σ H1 Q else Q (.bl false) H1
def tNotV (ta:TE):TE:=fun σ H Q=>ta σ H fun x H1=>∃c,x= .bl c∧Q (.bl (!c)) H1
theorem y1d {op}{t:TE} (h:PE X a t):PE X (.BoolOp op [a] pos) t:=fun pins s σ H Q I hw=>BoolOp_one (h pins s σ H Q I hw)
theorem y1g (ha:PE X a ta) (hb:PE X (.BoolOp .And (b::rest) pos) tb):PE X (.BoolOp .And (a::b::rest) pos) (tAndV ta tb):=by
 intro pins s σ H Q I h
 refine BoolOp_and (thn (ha pins s σ H _ I h) fun v s1 ⟨x,H1,I1,r1,q1⟩=>?_)
 obtain⟨c,rfl,q1⟩:=q1
 cases r1
 refine wpAny_truthy_bool ?_
 cases c with
 |true=>exact hb pins s1 σ H1 Q I1 q1
 |false=>exact⟨.bl false,H1,I1,rfl,q1⟩
theorem y6m (ha:PE X a ta):PE X (.UnaryOp .Not a pos) (tNotV ta):=by
 intro pins s σ H Q I h
 refine UnaryOp_ (thn (ha pins s σ H _ I h) fun v s1 ⟨x,H1,I1,r1,q1⟩=>?_)
 obtain⟨c,rfl,q1⟩:=q1
 cases r1
 exact not_of (wpAny_truthy_bool ⟨.bl (!c),H1,I1,rfl,q1⟩)
def tIf (t:TT) (ta tb:TE):TE:=fun σ H Q=>t σ H fun c H1=>if c=true then ta σ H1 Q else tb σ H1 Q
theorem z3I {c:Expr} (hc:PT X c tA) (ha:PE X a ta) (hb:PE X b tb):PE X (.IfExp c a b pos) (tIf tA ta tb):=by
 intro pins s σ H Q I h
 refine wpAny_IfExp (thn (hc pins s σ H _ I h) fun d s1 ⟨H1,I1,q1⟩=>?_)
 cases d with
 |true=>exact ha pins s1 σ H1 Q I1 q1
 |false=>exact hb pins s1 σ H1 Q I1 q1
end
end L2
namespace L2
open PySem PySem.Spec PyProof.Rows
def SqL (K:PySem.W.Frag) (H:Hp) (a:Addr) (xs:List V):Prop:=
 Rd H a (.lst xs)∨
    ∃(o:Obj) (its:Array Value) (n:Nat),K.lookup a=some o∧o.cls= .type "list"∧o.dict=none∧o.data= .seq its n∧its.size≤sizeLine∧Vals xs its.toList
def SqT (K:PySem.W.Frag) (H:Hp) (a:Addr) (xs:List V):Prop:=
 Rd H a (.tup xs)∨
    ∃(o:Obj) (its:Array Value) (n:Nat),K.lookup a=some o∧o.cls= .type "tuple"∧o.data= .seq its n∧its.size≤sizeLine∧Vals xs its.toList
def absV:Value→Option V
 | .none =>some .non
 | .bool b=>some (.bl b)
 | .int i _=>some (.int i)
 | .str x _=>some (.str x)
 | .bytes b _=>some (.byt b)
 | .float b _=>some (.flt b)
 | .ref a=>some (.ref a)
 | .type n=>some (.ty n)
 |_=>none
theorem RelV.abs {x:V}{u:Value} (r:RelV x u):absV u=some x:=by
 cases x with
 |non=>cases r;rfl
 |bl _=>cases r;rfl
 |int _=>obtain⟨t,rfl⟩:=r;rfl
 |str _=>obtain⟨t,rfl⟩:=r;rfl
 |byt _=>obtain⟨t,rfl⟩:=r;rfl
 |flt _=>obtain⟨t,rfl⟩:=r;rfl
 |ref _=>cases r;rfl
 |ty _=>cases r;rfl
theorem RelV.inj {x y:V}{u:Value} (r:RelV x u) (q:RelV y u):x=y:=Option.some.inj (r.abs.symm.trans q.abs)
theorem Vals.inj:∀{xs ys:List V}{us:List Value},Vals xs us→Vals ys us→xs=ys
 |_,_,_,.nil,.nil =>rfl
 |_,_,_,.cons r t,.cons r' t'=>by rw[r.inj r',Vals.inj t t']
section
variable {X:Cx}{pins:List (Addr×Obj)}{σ:St}{H:Hp}{s:Shared}{a:Addr}{xs ys:List V}
theorem SqL.of {K:PySem.W.Frag} (h:H a=some (.lst xs)):SqL K H a xs:= .inl (.inl h)
theorem SqT.of {K:PySem.W.Frag} (h:H a=some (.tup xs)):SqT K H a xs:= .inl (.inl h)
theorem Inv.list (I:Inv X pins σ H s) (h:SqL X.K H a xs):∃its:List Value,Vals xs its∧PlainL s.heap a its.toArray∧xs.length≤sizeLine:=by
 rcases h with h|⟨o,its,n,hk,hc,hd,hs,hz,r⟩
 ·obtain⟨z,its,n,r,e⟩:=h.ok I.hok
  exact⟨its,r,⟨_,n,e,rfl,rfl,rfl⟩,z⟩
 ·refine⟨its.toList,r,⟨o,n,I.kIn a o hk,hc,hd,by simpa using hs⟩,?_⟩
  have e:=r.length
  simp only[q0V] at e
  lia
theorem Inv.tuple (I:Inv X pins σ H s) (h:SqT X.K H a xs):∃its:List Value,Vals xs its∧IsTup s.heap a its.toArray∧xs.length≤sizeLine:=by
 rcases h with h|⟨o,its,n,hk,hc,hs,hz,r⟩
 ·obtain⟨z,its,r,p⟩:=h.ok I.hok
  exact⟨its,r,p,z⟩
 ·refine⟨its.toList,r,⟨o,I.kIn a o hk,hc,n,by simpa using hs⟩,?_⟩
  have e:=r.length
  simp only[q0V] at e
  lia
theorem Inv.list_inj (I:Inv X pins σ H s) (h:SqL X.K H a xs) (h':SqL X.K H a ys):xs=ys:=by
 obtain⟨its,r,⟨o,n,e,_,_,d⟩,_⟩:=I.list h
 obtain⟨its',r',⟨o',n',e',_,_,d'⟩,_⟩:=I.list h'
 rw[e] at e';cases e'
 rw[d] at d'
 injection d' with d1 _
 have:its=its':=by simpa using congrArg Array.toList d1
 subst this
 exact r.inj r'
theorem Inv.tuple_inj (I:Inv X pins σ H s) (h:SqT X.K H a xs) (h':SqT X.K H a ys):xs=ys:=by
 obtain⟨its,r,⟨o,e,_,n,d⟩,_⟩:=I.tuple h
 obtain⟨its',r',⟨o',e',_,n',d'⟩,_⟩:=I.tuple h'
 rw[e] at e';cases e'
 rw[d] at d'
 injection d' with d1 _
 have:its=its':=by simpa using congrArg Array.toList d1
 subst this
 exact r.inj r'
end
abbrev Cx.wish (X:Cx) (E:Value→Shared→Prop):Cx:={X with xe:=E}
abbrev Cx.nox (X:Cx):Cx:=X.wish fun _ _=>False
theorem Cx.Ok.wish {X:Cx} (ok:X.Ok) (E:Value→Shared→Prop):(X.wish E).Ok :=
 ⟨ok.mod,ok.kind,ok.glob,ok.blt,ok.above,ok.inj,ok.has,ok.cab,ok.hd,ok.frames,ok.stk,ok.exf,ok.bs,ok.bsz,ok.noex,ok.exfs,ok.funs,ok.frf⟩
theorem Cx.Ok.unwish {X:Cx}{E:Value→Shared→Prop} (ok:(X.wish E).Ok):X.Ok:=
 ⟨ok.mod,ok.kind,ok.glob,ok.blt,ok.above,ok.inj,ok.has,ok.cab,ok.hd,ok.frames,ok.stk,ok.exf,ok.bs,ok.bsz,ok.noex,ok.exfs,ok.funs,ok.frf⟩
section
variable {X:Cx}{pins:List (Addr×Obj)}{σ:St}{H:Hp}{s:Shared}{E:Value→Shared→Prop}
theorem Inv.wish (I:Inv X pins σ H s) (E:Value→Shared→Prop):Inv (X.wish E) pins σ H s:=⟨I.ok.wish E,I.os,I.bare,I.base,I.loc,I.cell,I.free,I.freeC,I.pin,I.hok,I.len⟩
theorem Inv.unwish (I:Inv (X.wish E) pins σ H s):Inv X pins σ H s:=⟨I.ok.unwish,I.os,I.bare,I.base,I.loc,I.cell,I.free,I.freeC,I.pin,I.hok,I.len⟩
theorem SP.unwish {D:y4w}{f:Flow}{s':Shared} (h:SP (X.wish E) pins D f s'):SP X pins D f s':=by
 cases f with
 |next=>obtain⟨σ',H',I,q⟩:=h;exact⟨σ',H',I.unwish,q⟩
 |brk=>obtain⟨σ',H',I,q⟩:=h;exact⟨σ',H',I.unwish,q⟩
 |cont=>obtain⟨σ',H',I,q⟩:=h;exact⟨σ',H',I.unwish,q⟩
 |ret u=>obtain⟨v,σ',H',I,r,q⟩:=h;exact⟨v,σ',H',I.unwish,r,q⟩
theorem PSs.nox {st:List Stmt}{t:TS} (h:PSs X.nox st t):PSs X st t:=fun pins s σ H D I hw=>
 wpAny_mono (h pins s σ H D (I.wish _) hw) (fun _ _ q=>q.unwish) fun _ _ z=>False.elim z
end
section
variable {X:Cx}{st:Stmt}{rest:List Stmt}{t u:TS}{e:Expr}{te:TE}{pos:Pos}
def tNext:TS:=fun D σ H=>D.nx σ H
def tSeq (t u:TS):TS:=fun D σ H=>t {D with nx:=u D} σ H
theorem z0y:PSs X [] tNext:=fun _ _ σ H _ I h=>wpAny_execs_nil ⟨σ,H,I,h⟩
theorem z0c (h1:PS X st t) (h2:PSs X rest u):PSs X (st::rest) (tSeq t u):=by
 intro pins s σ H D I h
 refine wpAny_execs_cons (thn (h1 pins s σ H {D with nx:=u D} I h) fun f s1 q=>?_)
 cases f with
 |next=>
  obtain⟨σ',H',I',q⟩:=q
  exact h2 pins s1 σ' H' D I' q
 |ret v=>exact q
 |brk=>exact q
 |cont=>exact q
theorem z0h (h1:PS X st t):PSs X [st] t:=by
 intro pins s σ H D I h
 refine wpAny_execs_cons (thn (h1 pins s σ H D I h) fun f s1 q=>?_)
 cases f with
 |next=>exact wpAny_execs_nil q
 |ret v=>exact q
 |brk=>exact q
 |cont=>exact q
theorem Inv.quiet {pins:List (Addr×Obj)}{σ:St}{H:Hp}{s:Shared} (I:Inv X pins σ H s):interactive X.env=false:=by simp[interactive,I.ok.kind]
def tDrop (te:TE):TS:=fun D σ H=>te σ H fun _ H1=>D.nx σ H1
theorem z1E (he:PE X e te) (hs:swapsWith e none pos.line X.env=pure false:=by rfl):PS X (.Expr e pos) (tDrop te):=by
 intro pins s σ H D I h
 exact wpAny_Expr_any (thn (he pins s σ H _ I h) fun v s1 ⟨x,H1,I1,r1,q1⟩=>⟨σ,H1,I1,q1⟩) I.quiet hs
def tRet (te:TE):TS:=fun D σ H=>te σ H D.rt
theorem z0t (he:PE X e te):PS X (.Return (some e) pos) (tRet te):=by
 intro pins s σ H D I h
 exact wpAny_Return_some (thn (he pins s σ H _ I h) fun v s1 ⟨x,H1,I1,r1,q1⟩=>⟨x,σ,H1,I1,r1,q1⟩)
def tIfS (c:TT) (t u:TS):TS:=fun D σ H=>c σ H fun b H1=>if b=true then t D σ H1 else u D σ H1
theorem z0S {c:Expr}{a b:List Stmt}{tc:TT} (hc:PT X c tc) (ha:PSs X a t) (hb:PSs X b u):PS X (.If c a b pos) (tIfS tc t u):=by
 intro pins s σ H D I h
 refine wpAny_If (thn (hc pins s σ H _ I h) fun d s1 ⟨H1,I1,q1⟩=>?_)
 cases d with
 |true=>exact ha pins s1 σ H1 D I1 q1
 |false=>exact hb pins s1 σ H1 D I1 q1
def y5O:TS:=fun _ _ _=>False
theorem z8H:PS X st y5O:=fun _ _ _ _ _ _ h=>h.elim
end
abbrev TG:=V→St→Hp→(St→Hp→Prop)→Prop
abbrev TGs:=List V→St→Hp→(St→Hp→Prop)→Prop
def PG (X:Cx) (target:Expr) (t:TG):Prop:=
 ∀(pins:List (Addr×Obj)) (s:Shared) (σ:St) (H:Hp) (v:V) (u:Value) (Q:St→Hp→Prop),Inv X pins σ H s→RelV v u→t v σ H Q→
  wpAny (model X.prog X.w) X.A (assign target X.env u) (fun _ s'=>∃σ' H',Inv X pins σ' H' s'∧Q σ' H') X.xe s
def PGs (X:Cx) (ts:List Expr) (t:TGs):Prop:=
 ∀(pins:List (Addr×Obj)) (s:Shared) (σ:St) (H:Hp) (vs:List V) (us:List Value) (Q:St→Hp→Prop),Inv X pins σ H s→Vals vs us→t vs σ H Q→
  wpAny (model X.prog X.w) X.A (assignInOrder ((assignEach ts X.env).map (·.2)) us) (fun _ s'=>∃σ' H',Inv X pins σ' H' s'∧Q σ' H') X.xe s
abbrev TSet:=V→V→V→Hp→(Hp→Prop)→Prop
def PSet (X:Cx) (t:TSet):Prop:=
 ∀(pins:List (Addr×Obj)) (s:Shared) (σ:St) (H:Hp) (o i v:V) (ov iv u:Value) (Q:Hp→Prop),Inv X pins σ H s→RelV o ov→RelV i iv→RelV v u→t o i v H Q→
  wpAny (model X.prog X.w) X.A (setItem ov iv u) (fun _ s'=>∃H',Inv X pins σ H' s'∧Q H') X.xe s
section
variable {X:Cx}{pos:Pos}
def z9Y (i:Nat):TG:=fun v σ H Q=>Q (σ.set i (some v)) H
theorem z0k {i:Nat}{x:Str} (hN:X.N.Nodup) (hi:X.N[i]? =some x) (hx:Loc X.env.scope x) (hf:X.fn x=true∨X.env.scope.names.lookup x=some .local :=by first|exact .inl rfl|exact .inr rfl|assumption):PG X (.Name x pos) (z9Y i):=by
 intro pins s σ H v u Q I r h
 exact wpAny_assign_Name (z2R I hN hi hx r (fun s' I'=>⟨_,H,I',h⟩) hf)
def gNil:TGs:=fun vs σ H Q=>vs=[]∧Q σ H
def gCons (t:TG) (u:TGs):TGs:=fun vs σ H Q=>∃v r,vs=v::r∧t v σ H fun σ' H'=>u r σ' H' Q
theorem z0Y:PGs X [] gNil:=by
 intro pins s σ H vs us Q I r h
 obtain⟨e,h⟩:=h
 subst e
 cases r
 exact assignInOrder_nil ⟨σ,H,I,h⟩
theorem z0u {e:Expr}{es:List Expr}{t:TG}{u:TGs} (h1:PG X e t) (h2:PGs X es u)
 (hs:(assignEach (e::es) X.env).map (·.2)=assign e X.env::(assignEach es X.env).map (·.2):=by rfl):PGs X (e::es) (gCons t u):=by
 intro pins s σ H vs us Q I r h
 obtain⟨v,vr,e1,h⟩:=h
 subst e1
 cases r with
 |cons r rr=>
  rw[hs]
  refine assignInOrder_cons (thn (h1 pins s σ H _ _ _ I r h) fun _ s1 ⟨σ1,H1,I1,q1⟩=>?_)
  exact h2 pins s1 σ1 H1 _ _ Q I1 rr q1
def gTup (K:PySem.W.Frag) (n:Nat) (t:TGs):TG:=fun v σ H Q=>∃a xs,v= .ref a∧SqT K H a xs∧xs.length=n∧t xs σ H Q
theorem y6i {es:List Expr}{k:Nat}{t:TGs}{n:Nat} (hc:X.calm=true) (h:PGs X es t)
 (hn:(assignEach es X.env).length =n:=by rfl) (hst:(assignEach es X.env).findIdx? (·.1)=none:=by rfl):PG X (.Tuple es k pos) (gTup X.K n t):=by
 intro pins s σ H v u Q I r hw
 obtain⟨a,xs,e1,hq,hl,hw⟩:=hw
 subst e1
 cases r
 obtain⟨its,rv,ht,hz⟩:=I.tuple hq
 refine assign_Tuple_tuple (I.ok.hd hc) ht (by simp[hn,←hl,rv.length]) hst fun h' hx=>?_
 have I1:Inv X pins σ H {s with heap:=h'}:=I.kept (t':=s.toks) fun b o e=>hx b o (q0v (q0n e)) e
 exact h pins _ σ H xs _ Q I1 (by simpa using rv) hw
def gSub (to ti:TE) (t:TSet):TG:=fun v σ H Q=>to σ H fun o H1=>ti σ H1 fun i H2=>t o i v H2 fun H3=>Q σ H3
theorem z3A {o i:Expr}{to ti:TE}{t:TSet} (ho:PE X o to) (hi:PE X i ti) (hs:PSet X t)
 (ha:∀v,assign (.Subscript o i pos) X.env v=(do
  let ov ←holding [v] (eval o X.env)
  let iv ←holding [v,ov] (eval i X.env)
  standAt pos
  holding [v,ov,iv] (setItem ov iv v)
  release [v,ov,iv] []):=by intro _;rfl):PG X (.Subscript o i pos) (gSub to ti t):=by
 intro pins s σ H v u Q I r h
 rw[ha]
 refine wpAny_bind (wpAny_holding (thn (ho pins s σ H _ I h) fun ov s1 ⟨x,H1,I1,r1,q1⟩=>?_))
 refine wpAny_bind (wpAny_holding (thn (hi pins s1 σ H1 _ I1 q1) fun iv s2 ⟨y,H2,I2,r2,q2⟩=>?_))
 refine wpAny_bind (wpAny_standAt (wpAny_bind (wpAny_holding (thn (hs pins s2 σ H2 x y v ov iv u _ I2 r1 r2 r q2) fun _ s3 ⟨H3,I3,q3⟩=>?_))))
 exact wpAny_release ⟨σ,H3,I3,q3⟩
def tAsg (te:TE) (g:TG):TS:=fun D σ H=>te σ H fun x H1=>g x σ H1 D.nx
theorem z2B {tg e:Expr}{te:TE}{g:TG} (he:PE X e te) (hg:PG X tg g) (hs:swapsWithSole [tg] e pos.line X.env=pure false:=by rfl) (hw:swappedStores [tg] e X.env=pure none:=by rfl)
 (h1:(assignEach [tg] X.env).map (·.2)=[assign tg X.env]:=by rfl):PS X (.Assign [tg] e pos) (tAsg te g):=by
 intro pins s σ H D I h
 refine wpAny_Assign_stores (thn (he pins s σ H _ I h) fun v s1 ⟨x,H1,I1,r1,q1⟩=>?_) hs hw
 rw[h1]
 exact thn (hg pins s1 σ H1 x v _ I1 r1 q1) fun _ s2 q=>q
theorem z0n {i:Nat}{x:Str}{e:Expr}{te:TE}{pos':Pos} (hN:X.N.Nodup) (hi:X.N[i]? =some x) (hx:Loc X.env.scope x) (he:PE X e te) (hs:swapsWith e (some (.Name x pos')) pos.line X.env=pure false:=by rfl) (hf:X.fn x=true∨X.env.scope.names.lookup x=some .local :=by first|exact .inl rfl|exact .inr rfl|assumption):
 PS X (.Assign [.Name x pos'] e pos) (tAsg te (z9Y i)):=by
 intro pins s σ H D I h
 refine wpAny_Assign_Name (thn (he pins s σ H _ I h) fun v s1 ⟨y,H1,I1,r1,q1⟩=>?_) hs
 exact z2R I1 hN hi hx r1 (fun s2 I2=>⟨_,H1,I2,q1⟩) hf
def tPar (i j:Nat) (ta:TA):TS:=fun D σ H=>ta σ H fun vs H1=>∃v w,vs=[v,w]∧D.nx ((σ.set i (some v)).set j (some w)) H1
theorem y6f {i j:Nat}{x y:Str}{a b:Expr}{ta:TA}{px py pt:Pos} {kt k2 pt2} (hc:X.calm=true) (hN:X.N.Nodup) (hi:X.N[i]? =some x) (hj:X.N[j]? =some y) (hij:i≠j)
 (hx:X.env.scope.names.lookup x=some .local) (hy:X.env.scope.names.lookup y=some .local) (ha:PA X [a,b] ta)
 (hw:swappedStores [.Tuple [.Name x px,.Name y py] kt pt] (.Tuple [a,b] k2 pt2) X.env=pure (some [x,y]))
 (hs:swapsWithSole [.Tuple [.Name x px,.Name y py] kt pt] (.Tuple [a,b] k2 pt2) pos.line X.env=pure false:=by rfl):
 PS X (.Assign [.Tuple [.Name x px,.Name y py] kt pt] (.Tuple [a,b] k2 pt2) pos) (tPar i j ta):=by
 intro pins s σ H D I h
 rw[exec_Assign_arm]
 refine wpAny_bind (wpAny_standAt ?_)
 rw[hs]
 refine wpAny_bind (wpAny_pure ?_)
 rw[if_neg (by decide)]
 refine wpAny_bind (Tuple_ (thn (ha _ pins s σ H _ I h) fun us s1 ⟨vs,H1,I1,r1,q1⟩=>?_))
 obtain⟨v,w,e1,q1⟩:=q1
 subst e1
 obtain⟨u1,u2,rfl,rv,rw'⟩:∃u1 u2,us=[u1,u2]∧RelV v u1∧RelV w u2:=by
  cases r1 with
  |cons p q=>
   cases q with
   |cons p' q'=>
    cases q'
    exact⟨_,_,rfl,p,p'⟩
 refine wpAny_newObj_type ?_ (by show 2≤sizeLine;decide)
 have I2:Inv X pins σ H1 {s1 with heap:=s1.heap.push {cls:= .type "tuple",data:= .seq [u1,u2].toArray}}:=I1.kept (t':=s1.toks) fun b o e=>q0d _ e
 rw[hw]
 refine wpAny_bind (wpAny_pure ?_)
 show wpAny (model X.prog X.w) X.A (do rule "assign.swapped-stores";let items ←unpackItems (.ref s1.heap.objs.size) 2 none;assignInOrder [fun v=>bindName X.env y v,fun v=>bindName X.env x v] items.reverse;pure Flow.next) _ _ _
 refine wpAny_bind (wpAny_rule (wpAny_bind (unpackItems_tuple (items:= #[u1,u2]) (I.ok.hd hc) (IsTup.new s1.heap _) fun h' hx'=>?_)))
 have I3:=I2.kept (h':=h') (t':=s1.toks) fun b o e=>hx' b o (q0v (q0n e)) e
 show wpAny _ _ (assignInOrder [fun v=>bindName X.env y v,fun v=>bindName X.env x v] [u2,u1]>>= fun _=>pure Flow.next) _ _ _
 refine wpAny_bind (assignInOrder_cons (wpAny_bindName (z2R I3 hN hj (.inl hy) rw' (fun s2 I4=>?_) (.inr hy))))
 refine assignInOrder_cons (wpAny_bindName (z2R I4 hN hi (.inl hx) rv (fun s3 I5=>assignInOrder_nil (wpAny_pure ?_)) (.inr hx)))
 rw[List.set_comm _ _ (Ne.symm hij)] at I5
 exact⟨_,H1,I5,q1⟩
end
section
variable {X:Cx}{pos:Pos}
def y3L (c:TT) (tb:TS):TS:=fun D σ H=>∃W:Nat→St→Hp→Prop,(∃m,W m σ H)∧∀m σ H,W m σ H→
 c σ H fun b H1=>if b=true then ∃N:St→Hp→Prop,(∀σ' H',N σ' H'→∃m',m'<m∧W m' σ' H')∧tb {D with nx:=N,ct:=N,bk:=D.nx} σ H1 else D.nx σ H1
theorem z8G {c:Expr}{body:List Stmt}{tc:TT}{tb:TS} (hp:PassesOwn (model X.prog X.w) X.A X.env X.xe) (hc:PT X c tc) (hb:PSs X body tb):PS X (.While c body [] pos) (y3L tc tb):=by
 intro pins s σ H D I h
 obtain⟨W,⟨m0,w0⟩,turn⟩:=h
 refine wpAny_While (codeAny_whileLoop (fun n s'=>∃σ' H',Inv X pins σ' H' s'∧W n σ' H') ?_ m0 ⟨σ,H,I,w0⟩)
 rintro n s1 ⟨σ1,H1,I1,w1⟩
 refine wpAny_passesOwn hp (thn (hc pins s1 σ1 H1 _ I1 (turn n σ1 H1 w1)) fun b s2 ⟨H2,I2,q2⟩=>?_)
 cases b with
 |true=>
  obtain⟨N,hN,q2⟩:=q2
  rw[if_pos rfl]
  refine wpAny_passesOwn hp (thn (hb pins s2 σ1 H2 _ I2 q2) fun f s3 q3=>?_)
  cases f with
  |next=>
   obtain⟨σ3,H3,I3,n3⟩:=q3
   obtain⟨m',hm,w3⟩:=hN σ3 H3 n3
   exact⟨m',hm,σ3,H3,I3,w3⟩
  |cont=>
   obtain⟨σ3,H3,I3,n3⟩:=q3
   obtain⟨m',hm,w3⟩:=hN σ3 H3 n3
   exact⟨m',hm,σ3,H3,I3,w3⟩
  |brk=>exact q3
  |ret v=>exact q3
 |false=>
  rw[if_neg q0z]
  exact wpAny_execs_nil ⟨σ1,H2,I2,q2⟩
end
structure It where
 go:Nat→Hp→Prop
 yld:Nat→Hp→V→Hp→Prop
 stop:Nat→Hp→Prop
def y2G (X:Cx) (pins:List (Addr×Obj)) (H:Hp) (b:Addr):Prop:=
 H b=none∧b≠X.env.locals∧b∉X.fs∧(b∈X.ex∨X.s₀.heap.objs.size≤b)∧(∀x c,X.env.cells.lookup x=some c→c≠b)∧∀p∈X.pn++pins,p.1≠b
theorem Inv.fpOk {X:Cx}{pins:List (Addr×Obj)}{σ:St}{H H':Hp}{s:Shared}{b:Addr} (I:Inv X pins σ H s) (hb:s.heap.objs.size≤b) (hn:H' b=none):y2G X pins H' b:=by
 refine⟨hn,Nat.ne_of_gt (q0F I.lt hb),I.nofs hb,.inr (q0m I.sz hb),fun x c e z=>?_,fun p hp z=>?_⟩
 ·obtain⟨v,q⟩:=I.cell x c e
  exact absurd (q0F q.lt (by rw[z];exact hb)) (q1F _)
 ·exact absurd (q0F (q0n (I.pin p hp).1) (by rw[z];exact hb)) (q1F _)
structure y4t (P:Program) (w:World) (K:PySem.W.Frag) (tg:Expr) (J:It) (fp:List Addr) (it:Addr) (tn:Nat→Heap→Prop):Prop where
 mem:it∈fp
 obj:∀i h,tn i h→∀b∈fp,∃o,h.get? b=some o∧∀v,o.data≠ .cell v
 keep:∀i h h',tn i h→(∀b∈fp,∀o,h.get? b=some o→h'.get? b=some o)→tn i h'
 item:∀(X:Cx),X.prog=P→X.w=w→X.K=K→X.calm=true→∀(i:Nat) (pins:List (Addr×Obj)) (s:Shared) (σ:St) (H:Hp) (E:Value→Shared→Prop),Inv X pins σ H s→(∀b∈fp,y2G X pins H b)→tn i s.heap→J.go i H→
  wpAny (model P w) X.A (pyNext (.ref it)) (fun r s1=>∃u,r=some u∧
   wpAny (model P w) X.A (letOwnedTupleGo tg (.ref it) u) (fun _ s2=>∃x H',Inv X pins σ H' s2∧RelV x u∧J.yld i H x H'∧tn (i+1) s2.heap∧∀b∈fp,H' b=none) E s1) E s
 done:∀(X:Cx),X.prog=P→X.w=w→X.K=K→X.calm=true→∀(i:Nat) (pins:List (Addr×Obj)) (s:Shared) (σ:St) (H:Hp) (E:Value→Shared→Prop),Inv X pins σ H s→(∀b∈fp,y2G X pins H b)→tn i s.heap→J.stop i H→
  wpAny (model P w) X.A (pyNext (.ref it)) (fun r s1=>r=none∧Inv X pins σ H s1) E s
 self:∀(A:Around) (i:Nat) (s:Shared) (Q:Value→Shared→Prop) (E:Value→Shared→Prop),tn i s.heap→Q (.ref it) s→wpAny (model P w) A (pyIter (.ref it)) Q E s
abbrev TI:=St→Hp→(It→Hp→Prop)→Prop
def PIE (X:Cx) (pins:List (Addr×Obj)) (σ:St) (tg:Expr) (R:It→Hp→Prop) (itv:Value) (s2:Shared):Prop:=
 ∃(it:Addr) (fp:List Addr) (tn:Nat→Heap→Prop) (J:It) (H':Hp),itv= .ref it∧Inv X pins σ H' s2∧y4t X.prog X.w X.K tg J fp it tn∧tn 0 s2.heap∧(∀b∈fp,y2G X pins H' b)∧R J H'
def PI (X:Cx) (tg iter:Expr) (wi:TI):Prop:=
 ∀(pins:List (Addr×Obj)) (s:Shared) (σ:St) (H:Hp) (R:It→Hp→Prop),Inv X pins σ H s→wi σ H R→
  wpAny (model X.prog X.w) X.A (eval iter X.env) (fun v s1=>wpAny (model X.prog X.w) X.A (pyIter v) (PIE X pins σ tg R) X.xe s1) X.xe s
theorem y3v {M:Model}{A:Around}{E:Value→Shared→Prop}{s:Shared}{tg:Expr}{it:Addr}{u:Value}{o:Obj}{n:String}{vs:Array Value}{Q:Unit→Shared→Prop} (ho:s.heap.get? it=some o) (hc:o.cls= .type n) (hd:o.data= .fields vs)
 (hn:["enumerate","zip","dict_itemiterator","dict_reverseitemiterator","odict_iterator","itertools.zip_longest","itertools.pairwise"].contains n=false) (hQ:Q () s):wpAny M A (letOwnedTupleGo tg (.ref it) u) Q E s:=by
 unfold letOwnedTupleGo
 cases tg<;>first
  |exact wpAny_pure hQ
  |(cases u<;>first
       |exact wpAny_pure hQ
       |(refine wpAny_bind (wpAny_load ho ?_)
         rw[hc,hd]
         show wpAny M A (if (["enumerate","zip","dict_itemiterator","dict_reverseitemiterator","odict_iterator","itertools.zip_longest","itertools.pairwise"].contains n&&vs[0]? ==some (rawInt _))=true then _ else _) Q E s
         rw[if_neg (by intro h;rw[hn,Bool.false_and] at h;cases h)]
         exact wpAny_pure hQ))
def Itl (K:PySem.W.Frag) (a:Addr):It:=
 ⟨fun i H=>∃xs x,SqL K H a xs∧xs[i]? =some x,fun i H x H'=>H'=H∧∀xs,SqL K H a xs→xs[i]? =some x,fun i H=>∃xs,SqL K H a xs∧xs.length≤i⟩
def Itt (K:PySem.W.Frag) (a:Addr):It:=
 ⟨fun i H=>∃xs x,SqT K H a xs∧xs[i]? =some x,fun i H x H'=>H'=H∧∀xs,SqT K H a xs→xs[i]? =some x,fun i H=>∃xs,SqT K H a xs∧xs.length≤i⟩
def Itr (lo:Int) (n:Nat):It:=⟨fun i _=>i<n,fun i H x H'=>H'=H∧x= .int (lo+i),fun i _=>n≤i⟩
theorem z6q {P:Program}{w:World}{K:PySem.W.Frag}{tg:Expr} (a it:Addr):y4t P w K tg (Itl K a) [it] it (fun i h=>h.IsListIter it a i) where
 mem:=by simp
 obj:=fun i h st b hb=>by
  have e:b=it:=by simpa using hb
  subst e
  obtain⟨o,e,c,d⟩:=st
  exact⟨o,e,fun v z=>by rw[d] at z;cases z⟩
 keep:=fun i h h' st k=>st.at fun o e=>k it (by simp) o e
 item:=by
  intro X hP hw hK hc i pins s σ H E I hf st hg
  subst hP hw hK
  obtain⟨xs,x,hq,hx⟩:=hg
  obtain⟨its,rv,p,hz⟩:=I.list hq
  obtain⟨u,hu,ru⟩:=rv.get hx
  obtain⟨f0,f1,f2,f3,f4,f5⟩:=hf it (by simp)
  refine wpAny_pyNext_list_item st p.isList (x:=u) (by simpa using hu) fun h' st' sb=>?_
  have I1:Inv X pins σ H {s with heap:=h'}:=I.turned (t':=s.toks) (fun b o hb e=>(sb.2 b hb).trans e) f0 f1 f3 f4 f5
  obtain⟨o,e,c,d⟩:=id st'
  exact⟨u,rfl,y3v (s:={s with heap:=h'}) e c d (by decide) ⟨x,H,I1,ru,⟨rfl,fun ys hy=>by rw[I.list_inj hy hq];exact hx⟩,st',fun b hb=>(hf b hb).1⟩⟩
 done:=by
  intro X hP hw hK hc i pins s σ H E I hf st hg
  subst hP hw hK
  obtain⟨xs,hq,hx⟩:=hg
  obtain⟨its,rv,p,hz⟩:=I.list hq
  obtain⟨f0,f1,f2,f3,f4,f5⟩:=hf it (by simp)
  have hl:=rv.length
  exact wpAny_pyNext_list_end (I.ok.hd hc) st p.isList (by simp;lia) fun h' eb=>⟨rfl,I.turned (t':=s.toks) (fun b o hb e=>eb b o hb e) f0 f1 f3 f4 f5⟩
 self:=fun _ _ _ _ _ st h=>wpAny_pyIter_listiter st h
theorem z4S {P:Program}{w:World}{K:PySem.W.Frag}{tg:Expr} (a it:Addr):y4t P w K tg (Itt K a) [it] it (fun i h=>h.IsTupleIter it a i) where
 mem:=by simp
 obj:=fun i h st b hb=>by
  have e:b=it:=by simpa using hb
  subst e
  obtain⟨o,e,c,d⟩:=st
  exact⟨o,e,fun v z=>by rw[d] at z;cases z⟩
 keep:=fun i h h' st k=>st.at fun o e=>k it (by simp) o e
 item:=by
  intro X hP hw hK hc i pins s σ H E I hf st hg
  subst hP hw hK
  obtain⟨xs,x,hq,hx⟩:=hg
  obtain⟨its,rv,p,hz⟩:=I.tuple hq
  obtain⟨u,hu,ru⟩:=rv.get hx
  obtain⟨f0,f1,f2,f3,f4,f5⟩:=hf it (by simp)
  refine wpAny_pyNext_tuple_item st (show s.heap.IsTuple a its.toArray from p) (x:=u) (by simpa using hu) fun h' st' sb=>?_
  have I1:Inv X pins σ H {s with heap:=h'}:=I.turned (t':=s.toks) (fun b o hb e=>(sb.2 b hb).trans e) f0 f1 f3 f4 f5
  obtain⟨o,e,c,d⟩:=id st'
  exact⟨u,rfl,y3v (s:={s with heap:=h'}) e c d (by decide) ⟨x,H,I1,ru,⟨rfl,fun ys hy=>by rw[I.tuple_inj hy hq];exact hx⟩,st',fun b hb=>(hf b hb).1⟩⟩
 done:=by
  intro X hP hw hK hc i pins s σ H E I hf st hg
  subst hP hw hK
  obtain⟨xs,hq,hx⟩:=hg
  obtain⟨its,rv,p,hz⟩:=I.tuple hq
  obtain⟨f0,f1,f2,f3,f4,f5⟩:=hf it (by simp)
  have hl:=rv.length
  exact wpAny_pyNext_tuple_end (I.ok.hd hc) st (show s.heap.IsTuple a its.toArray from p) (by simp;lia) fun h' eb=>⟨rfl,I.turned (t':=s.toks) (fun b o hb e=>eb b o hb e) f0 f1 f3 f4 f5⟩
 self:=fun _ _ _ _ _ st h=>wpAny_pyIter_tupleiter st h
theorem z9u {P:Program}{w:World}{K:PySem.W.Frag}{tg:Expr} (it:Addr) (lo:Int) (n:Nat):y4t P w K tg (Itr lo n) [it] it (fun i h=>IsRangeIter h it (lo+(i:Nat)*1) ((n:Int) - (i:Nat)) 1) where
 mem:=by simp
 obj:=fun i h st b hb=>by
  have e:b=it:=by simpa using hb
  subst e
  exact⟨_,st,fun v z=>by
    have z':Data.fields _=Data.cell v:=z
    cases z'⟩
 keep:=fun i h h' st k=>k it (by simp) _ st
 item:=by
  intro X hP hw hK hc i pins s σ H E I hf st hg
  subst hP hw hK
  obtain⟨f0,f1,f2,f3,f4,f5⟩:=hf it (by simp)
  have W:=Walks.range (prog:=X.prog) (w:=X.w) (I.ok.hd hc) it lo 1 n
  refine W.item i s _ _ hg st fun v h' tk hv st' kk=>?_
  obtain⟨t,rfl⟩:=hv
  have I1:Inv X pins σ H {s with heap:=h',toks:=tk}:=I.turned (fun b o hb e=>kk b o (by simpa using hb) e) f0 f1 f3 f4 f5
  refine⟨_,rfl,y3v (s:={s with heap:=h',toks:=tk}) (n:="range_iterator") st' rfl rfl (by decide) ⟨.int (lo+i),H,I1,⟨t,?_⟩,⟨rfl,rfl⟩,st',fun b hb=>(hf b hb).1⟩⟩
  rw[Int.mul_one]
 done:=by
  intro X hP hw hK hc i pins s σ H E I hf st hg
  subst hP hw hK
  obtain⟨f0,f1,f2,f3,f4,f5⟩:=hf it (by simp)
  exact wpAny_pyNext_range_end (I.ok.hd hc) st (by have:n≤i:=hg;lia) fun h' eb=>⟨rfl,I.turned (t':=s.toks) (fun b o hb e=>eb b o hb e) f0 f1 f3 f4 f5⟩
 self:=fun _ _ _ _ _ st h=>wpAny_pyIter_rangeiter st h
end L2
namespace L2
open PySem PySem.Spec PyProof.Rows
section
variable {X:Cx}{tg:Expr}
def y6G (K:PySem.W.Frag) (tl:TE):TI:=fun σ H R=>tl σ H fun x H1=>∃a,x= .ref a∧(∃xs,SqL K H1 a xs)∧R (Itl K a) H1
def iTup (K:PySem.W.Frag) (tl:TE):TI:=fun σ H R=>tl σ H fun x H1=>∃a,x= .ref a∧(∃xs,SqT K H1 a xs)∧R (Itt K a) H1
theorem y4Y {l:Expr}{tl:TE} (hl:PE X l tl):PI X tg l (y6G X.K tl):=by
 intro pins s σ H R I h
 refine thn (hl pins s σ H _ I h) fun v s1 ⟨x,H1,I1,r1,q1⟩=>?_
 obtain⟨a,e,⟨xs,hq⟩,q⟩:=q1
 subst e
 cases r1
 obtain⟨its,rv,p,hz⟩:=I1.list hq
 refine wpAny_pyIter_list p.isList ?_
 refine⟨s1.heap.objs.size,[s1.heap.objs.size],_,_,H1,rfl,I1.kept (t':=s1.toks) fun b o e=>q0d _ e,z6q a _,⟨_,q0o _ rfl,rfl,rfl⟩,fun b hb=>?_,q⟩
 have e:b=s1.heap.objs.size:=by simpa using hb
 subst e
 exact I1.fpOk (q0k _) (I1.hok.fresh (q0k _))
theorem y6h {l:Expr}{tl:TE} (hl:PE X l tl):PI X tg l (iTup X.K tl):=by
 intro pins s σ H R I h
 refine thn (hl pins s σ H _ I h) fun v s1 ⟨x,H1,I1,r1,q1⟩=>?_
 obtain⟨a,e,⟨xs,hq⟩,q⟩:=q1
 subst e
 cases r1
 obtain⟨its,rv,p,hz⟩:=I1.tuple hq
 refine wpAny_pyIter_tuple (show s1.heap.IsTuple a its.toArray from p) ?_
 refine⟨s1.heap.objs.size,[s1.heap.objs.size],_,_,H1,rfl,I1.kept (t':=s1.toks) fun b o e=>q0d _ e,z4S a _,⟨_,q0o _ rfl,rfl,rfl⟩,fun b hb=>?_,q⟩
 have e:b=s1.heap.objs.size:=by simpa using hb
 subst e
 exact I1.fpOk (q0k _) (I1.hok.fresh (q0k _))
theorem y2W {pins:List (Addr×Obj)}{σ:St}{H:Hp}{s:Shared}{R:It→Hp→Prop}{E:Value→Shared→Prop}{lo hi:Int}{t u v:Tok}{tk:Nat} (I:Inv X pins σ H s) (h1: -(2^62)≤lo) (h2:lo<2^62) (h3: -(2^62)≤hi) (h4:hi<2^62)
 (q:R (Itr lo (hi - lo).toNat) H):wpAny (model X.prog X.w) X.A (pyIter (.ref s.heap.objs.size)) (PIE X pins σ tg R) E {s with heap:=s.heap.push {cls:= .type "range",data:= .fields #[.int lo t,.int hi u,.int 1 v]},toks:=tk}:=by
 refine wpAny_pyIter_range (IsRange.new ..) (small_one h1 h2 h3 h4) ?_
 have I1:Inv X pins σ H {s with heap:=s.heap.push {cls:= .type "range",data:= .fields #[.int lo t,.int hi u,.int 1 v]},toks:=tk}:=I.kept fun b o e=>q0d _ e
 refine⟨(s.heap.push {cls:= .type "range",data:= .fields #[.int lo t,.int hi u,.int 1 v]}).objs.size,[(s.heap.push {cls:= .type "range",data:= .fields #[.int lo t,.int hi u,.int 1 v]}).objs.size],_,_,H,rfl,
  I1.kept (t':=tk) fun b o e=>q0d _ e,z9u _ lo (hi - lo).toNat,?_,fun b hb=>?_,q⟩
 ·have e1:lo+((0:Nat):Int)*1=lo:=by simp
  have e2:(((hi - lo).toNat :Nat):Int) - ((0:Nat):Int)=Builtin.Range.rangeSize lo hi 1:=by rw[rangeSize_one];split<;>lia
  show IsRangeIter _ _ (lo+((0:Nat):Int)*1) ((((hi - lo).toNat :Nat):Int) - ((0:Nat):Int)) 1
  rw[e1,e2]
  exact q0o _ rfl
 ·have e:b=(s.heap.push {cls:= .type "range",data:= .fields #[.int lo t,.int hi u,.int 1 v]}).objs.size :=by simpa using hb
  subst e
  exact I1.fpOk (q0k _) (I1.hok.fresh (q0k _))
def iRng1 (ta:TA):TI:=fun σ H R=>ta σ H fun vs H1=>∃j:Int,vs=[.int j]∧ -(2^62)≤j∧j<2^62∧R (Itr 0 j.toNat) H1
theorem z1N {a:Expr}{ta:TA}{p pos:Pos} (hg:Gl X "range") (hm:X.mg "range"=none) (ha:PA X [a] ta) (hs:starEach [a] X.env=[(false,eval a X.env)]:=by rfl):PI X tg (.Call (.Name "range" p) [a] [] pos) (iRng1 ta):=by
 intro pins s σ H R I h
 refine Call_ (z3b I hg hm boot_range (PyProof.Rows.callWith_type1 (thn (ha pos pins s σ H _ I h) fun us s1 ⟨vs,H1,I1,r1,q1⟩=>?_) hs rfl))
 obtain⟨j,e,q1,q2,q⟩:=q1
 subst e
 cases r1 with
 |cons r rr=>
  cases rr
  obtain⟨t,rfl⟩:=r
  exact call_range_1 (y2W I1 (by lia) (by lia) q1 q2 (by simpa using q))
def tFor (wi:TI) (g:TG) (tb:TS):TS:=fun D σ H=>wi σ H fun J H1=>∃W:Nat→Nat→St→Hp→Prop,(∃m,W 0 m σ H1)∧∀i m σ H,W i m σ H→
 (J.stop i H∧D.nx σ H)∨(J.go i H∧∃N:St→Hp→Prop,(∀σ' H',N σ' H'→∃m',m'<m∧W (i+1) m' σ' H')∧∀x H',J.yld i H x H'→g x σ H' fun σ2 H2=>tb {D with nx:=N,ct:=N,bk:=D.nx} σ2 H2)
def z5c (fp:List Addr) (h:Heap):List (Addr×Obj):=fp.filterMap fun b=>(h.get? b).map fun o=>(b,o)
theorem z1w {fp:List Addr}{h:Heap}{b:Addr}{o:Obj} (hb:b∈fp) (e:h.get? b=some o):(b,o)∈z5c fp h:=List.mem_filterMap.mpr ⟨b,hb,by rw[e];rfl⟩
theorem y1r {fp:List Addr}{h:Heap}{p:Addr×Obj} (hp:p∈z5c fp h):p.1∈fp∧h.get? p.1=some p.2:=by
 obtain⟨b,hb,e⟩:=List.mem_filterMap.mp hp
 cases q:h.get? b with
 |none=>rw[q] at e;cases e
 |some o=>
  rw[q] at e
  have e':(b,o)=p:=Option.some.inj e
  subst e'
  exact⟨hb,q⟩
theorem Inv.pinned {pins:List (Addr×Obj)}{σ:St}{H:Hp}{s:Shared}{fp:List Addr} (I:Inv X pins σ H s) (hf:∀b∈fp,y2G X pins H b) (ho:∀b∈fp,∃o,s.heap.get? b=some o∧∀v,o.data≠ .cell v):Inv X (pins++z5c fp s.heap) σ H s:=
 I.pins_of fun p hp=>(q0D.mp hp).elim (fun z=>I.pin p (q0M _ z)) fun z=>by
  obtain⟨hb,e⟩:=y1r z
  obtain⟨f0,f1,f2,_⟩:=hf p.1 hb
  obtain⟨o,e',d⟩:=ho p.1 hb
  rw[e] at e';cases e'
  exact⟨e,f0,f1,f2,d⟩
theorem Inv.unpinned {pins pl:List (Addr×Obj)}{σ:St}{H:Hp}{s:Shared} (I:Inv X (pins++pl) σ H s):Inv X pins σ H s:=I.pins_of fun p hp=>I.pin p (q0M _ (q0J _ hp))
theorem z1f {iter:Expr}{body:List Stmt}{wi:TI}{g:TG}{tb:TS}{pos:Pos} (hp:PassesOwn (model X.prog X.w) X.A X.env X.xe) (hc:X.calm=true) (hi:PI X tg iter wi) (hg:PG X tg g) (hb:PSs X body tb)
 (hs:∀x,foldedSetIterable iter X.env x=pure x:=by intro _;rfl):PS X (.For tg iter body [] pos) (tFor wi g tb):=by
 intro pins s σ H D I h
 refine wpAny_For (thn (hi pins s σ H _ I h) fun v s1 h1=>thn h1 fun itv s2 h2=>?_) hs
 obtain⟨it,fp,tn,J,H2,e,I2,T,st2,f2,W,⟨m0,w0⟩,turn⟩:=h2
 subst e
 have stat:∀{H':Hp},(∀b∈fp,H' b=none)→∀b∈fp,y2G X pins H' b:=fun hn b hb=>⟨hn b hb,(f2 b hb).2⟩
 refine codeAny_forLoop_any (fun n s'=>∃i σ' H',Inv X pins σ' H' s'∧tn i s'.heap∧(∀b∈fp,H' b=none)∧W i n σ' H') ?_ m0 ⟨0,σ,H2,I2,st2,fun b hb=>(f2 b hb).1,w0⟩
 rintro n s3 ⟨i,σ3,H3,I3,st3,fr3,w3⟩
 rcases turn i n σ3 H3 w3 with⟨stop,qn⟩|⟨go,N,hN,step⟩
 ·refine wpAny_passesOwn hp (thn (T.done X rfl rfl rfl hc i pins s3 σ3 H3 X.xe I3 (stat fr3) st3 stop) fun r s4 ⟨hr,I4⟩=>?_)
  subst hr
  exact wpAny_execs_nil ⟨σ3,H3,I4,qn⟩
 ·refine wpAny_passesOwn hp (thn (T.item X rfl rfl rfl hc i pins s3 σ3 H3 X.xe I3 (stat fr3) st3 go) fun r s4 ⟨u,hr,h4⟩=>?_)
  subst hr
  refine wpAny_passesOwn hp (thn h4 fun _ s5 ⟨x,H5,I5,r5,y5,st5,fr5⟩=>?_)
  have I5':=I5.pinned (stat fr5) (T.obj _ _ st5)
  refine wpAny_passesOwn hp (thn (hg _ s5 σ3 H5 x u _ I5' r5 (step x H5 y5)) fun _ s6 ⟨σ6,H6,I6,q6⟩=>?_)
  refine wpAny_passesOwn hp (thn (hb _ s6 σ6 H6 _ I6 q6) fun f s7 q7=>?_)
  have again:∀{σ7:St}{H7:Hp},Inv X (pins++z5c fp s5.heap) σ7 H7 s7→N σ7 H7→∃m,m<n∧∃i σ' H',Inv X pins σ' H' s7∧tn i s7.heap∧(∀b∈fp,H' b=none)∧W i m σ' H':=fun {σ7 H7} I7 n7=>by
   obtain⟨m',hm,w7⟩:=hN σ7 H7 n7
   refine⟨m',hm,i+1,σ7,H7,I7.unpinned,T.keep _ _ _ st5 fun b hb o e=>(I7.pin (b,o) (q0M _ (q0M _ (z1w hb e)))).1,fun b hb=>?_,w7⟩
   obtain⟨o,e,d⟩:=T.obj _ _ st5 b hb
   exact (I7.pin (b,o) (q0M _ (q0M _ (z1w hb e)))).2.1
  cases f with
  |next=>obtain⟨σ7,H7,I7,n7⟩:=q7;exact again I7 n7
  |cont=>obtain⟨σ7,H7,I7,n7⟩:=q7;exact again I7 n7
  |brk=>obtain⟨σ7,H7,I7,q7⟩:=q7;exact⟨σ7,H7,I7.unpinned,q7⟩
  |ret v=>obtain⟨x7,σ7,H7,I7,r7,q7⟩:=q7;exact⟨x7,σ7,H7,I7.unpinned,r7,q7⟩
end
theorem z8o {c:TT}{tb:TS}{D:y4w}{σ:St}{H:Hp} (Pv:St→Hp→Prop) (μ:St→Hp→Nat) (h0:Pv σ H)
 (hs:∀σ H,Pv σ H→c σ H fun b H1=>if b=true then tb {D with nx:=fun σ' H'=>Pv σ' H'∧μ σ' H'<μ σ H,ct:=fun σ' H'=>Pv σ' H'∧μ σ' H'<μ σ H,bk:=D.nx} σ H1 else D.nx σ H1)
 (mono:∀σ H Q Q',(∀b H1,Q b H1→Q' b H1)→c σ H Q→c σ H Q'):y3L c tb D σ H:=by
 refine⟨fun m σ H=>m=μ σ H∧Pv σ H,⟨_,rfl,h0⟩,?_⟩
 rintro m σ H ⟨rfl,p⟩
 refine mono σ H _ _ (fun b H1 q=>?_) (hs σ H p)
 cases b with
 |true=>exact⟨_,fun σ' H' ⟨p',l⟩=>⟨_,l,rfl,p'⟩,q⟩
 |false=>exact q
end L2
namespace L2
open PySem PySem.Spec PyProof.Rows
abbrev R2:=V→V→Hp→VK→Prop
def OpR (X:Cx) (f:Value→Value→Sem Value) (r:R2):Prop:=
 ∀(pins:List (Addr×Obj)) (s:Shared) (σ:St) (H:Hp) (x y:V) (v u:Value) (Q:VK),Inv X pins σ H s→RelV x v→RelV y u→r x y H Q→
  wpAny (model X.prog X.w) X.A (f v u) (EP X pins σ Q) X.xe s
def UnR (X:Cx) (f:Value→Sem Value) (r:V→Hp→VK→Prop):Prop:=
 ∀(pins:List (Addr×Obj)) (s:Shared) (σ:St) (H:Hp) (x:V) (v:Value) (Q:VK),Inv X pins σ H s→RelV x v→r x H Q→
  wpAny (model X.prog X.w) X.A (f v) (EP X pins σ Q) X.xe s
def z1x (X:Cx) (f:Value) (r:List V→Hp→VK→Prop):Prop:=
 ∀(pins:List (Addr×Obj)) (s:Shared) (σ:St) (H:Hp) (xs:List V) (us:List Value) (Q:VK),Inv X pins σ H s→Vals xs us→r xs H Q→
  wpAny (model X.prog X.w) X.A (call f us) (EP X pins σ Q) X.xe s
def tOp (r:R2) (ta tb:TE):TE:=fun σ H Q=>ta σ H fun x H1=>tb σ H1 fun y H2=>r x y H2 Q
def tUn (r:V→Hp→VK→Prop) (ta:TE):TE:=fun σ H Q=>ta σ H fun x H1=>r x H1 Q
def rI (C:Int→Int→Prop) (g:Int→Int→V):R2:=fun x y H Q=>∃i j,x= .int i∧y= .int j∧C i j∧Q (g i j) H
def rI0 (g:Int→Int→V):R2:=fun x y H Q=>∃i j,x= .int i∧y= .int j∧Q (g i j) H
def rU (g:Int→V):V→Hp→VK→Prop:=fun x H Q=>∃i,x= .int i∧Q (g i) H
section
variable {X:Cx}{a b c:Expr}{ta tb tc:TE}{pos:Pos}
theorem binT (ha:PE X a ta) (hb:PE X b tb) {pins:List (Addr×Obj)}{s:Shared}{σ:St}{H:Hp}{R:V→V→Hp→Prop} (I:Inv X pins σ H s)
 (h:ta σ H fun x H1=>tb σ H1 fun y H2=>R x y H2) {Q:Value→Shared→Prop}{f:Value→Value→Sem Value}
 (hf:∀v u s2 x y H2,Inv X pins σ H2 s2→RelV x v→RelV y u→R x y H2→wpAny (model X.prog X.w) X.A (f v u) Q X.xe s2):
 wpAny (model X.prog X.w) X.A (eval a X.env) (fun v s₁=>wpAny (model X.prog X.w) X.A (eval b X.env) (fun u s₂=>wpAny (model X.prog X.w) X.A (f v u) Q X.xe s₂) X.xe s₁) X.xe s:=by
 refine thn (ha pins s σ H _ I h) fun v s1 ⟨x,H1,I1,r1,q1⟩=>?_
 refine thn (hb pins s1 σ H1 _ I1 q1) fun u s2 ⟨y,H2,I2,r2,q2⟩=>?_
 exact hf v u s2 x y H2 I2 r1 r2 q2
theorem z0s {op:Operator}{r:R2} (ho:OpR X (binaryOp op) r) (ha:PE X a ta) (hb:PE X b tb):PE X (.BinOp a op b pos) (tOp r ta tb):=by
 intro pins s σ H Q I h
 exact wpAny_BinOp (binT ha hb I h fun v u s2 x y H2 I2 rx ry q=>ho pins s2 σ H2 x y v u Q I2 rx ry q)
theorem z1O {op:UnaryOp}{r:V→Hp→VK→Prop} (ho:UnR X (unaryOp op) r) (ha:PE X a ta):PE X (.UnaryOp op a pos) (tUn r ta):=by
 intro pins s σ H Q I h
 exact UnaryOp_ (thn (ha pins s σ H _ I h) fun v s1 ⟨x,H1,I1,r1,q1⟩=>ho pins s1 σ H1 x v Q I1 r1 q1)
theorem opI {f:Value→Value→Sem Value}{C:Int→Int→Prop}{g:Int→Int→Int}
 (rule:∀(i j:Int) (t u:Tok) (s:Shared) (Q:Value→Shared→Prop) (E:Value→Shared→Prop),C i j→Q (.int (g i j) s.toks) {s with toks:=s.toks+1}→wpAny (model X.prog X.w) X.A (f (.int i t) (.int j u)) Q E s):
 OpR X f (rI C fun i j=> .int (g i j)):=by
 intro pins s σ H x y v u Q I rx ry h
 obtain⟨i,j,rfl,rfl,hc,q⟩:=h
 obtain⟨t,rfl⟩:=rx
 obtain⟨t',rfl⟩:=ry
 exact rule i j t t' s _ _ hc ⟨.int (g i j),H,I.tok _,⟨_,rfl⟩,q⟩
theorem opI0 {f:Value→Value→Sem Value}{g:Int→Int→Int}
 (rule:∀(i j:Int) (t u:Tok) (s:Shared) (Q:Value→Shared→Prop) (E:Value→Shared→Prop),Q (.int (g i j) s.toks) {s with toks:=s.toks+1}→wpAny (model X.prog X.w) X.A (f (.int i t) (.int j u)) Q E s):
 OpR X f (rI0 fun i j=> .int (g i j)):=by
 intro pins s σ H x y v u Q I rx ry h
 obtain⟨i,j,rfl,rfl,q⟩:=h
 obtain⟨t,rfl⟩:=rx
 obtain⟨t',rfl⟩:=ry
 exact rule i j t t' s _ _ ⟨.int (g i j),H,I.tok _,⟨_,rfl⟩,q⟩
theorem opB0 {f:Value→Value→Sem Value}{g:Int→Int→Bool}
 (rule:∀(i j:Int) (t u:Tok) (s:Shared) (Q:Value→Shared→Prop) (E:Value→Shared→Prop),Q (.bool (g i j)) s→wpAny (model X.prog X.w) X.A (f (.int i t) (.int j u)) Q E s):
 OpR X f (rI0 fun i j=> .bl (g i j)):=by
 intro pins s σ H x y v u Q I rx ry h
 obtain⟨i,j,rfl,rfl,q⟩:=h
 obtain⟨t,rfl⟩:=rx
 obtain⟨t',rfl⟩:=ry
 exact rule i j t t' s _ _ ⟨.bl (g i j),H,I,rfl,q⟩
def CPow (i j:Int):Prop:=0≤j∧j≤1000000∧i.natAbs<2^64
theorem z1r:OpR X (binaryOp .Add) (rI0 fun i j=> .int (i+j)):=opI0 fun _ _ _ _ _ _ _ q=>add_int q
theorem z1P:OpR X (binaryOp .Sub) (rI0 fun i j=> .int (i - j)):=opI0 fun _ _ _ _ _ _ _ q=>sub_int q
theorem y6r:OpR X (binaryOp .Mod) (rI (fun _ j=>0<j) fun i j=> .int (i%j)):=opI fun i j _ _ _ _ _ hc q=>by
 have h1:(0:Int)<j:=hc
 exact mod_int' (by lia) (by rw[Int.fmod_eq_emod_of_nonneg i (by lia)];exact q)
theorem y5b:OpR X (binaryOp .Mod) (rI (fun _ j=>j≠0) fun i j=> .int (i.fmod j)):=opI fun _ _ _ _ _ _ _ hc q=>mod_int' hc q
theorem y6p:OpR X (binaryOp .Pow) (rI CPow fun i j=> .int (i^j.toNat)):=opI fun _ _ _ _ _ _ _ hc q=>pow_int_small hc.1 hc.2.1 hc.2.2 q
theorem unI {f:Value→Sem Value}{g:Int→Int}
 (rule:∀(i:Int) (t:Tok) (s:Shared) (Q:Value→Shared→Prop) (E:Value→Shared→Prop),Q (.int (g i) s.toks) {s with toks:=s.toks+1}→wpAny (model X.prog X.w) X.A (f (.int i t)) Q E s):
 UnR X f (rU fun i=> .int (g i)):=by
 intro pins s σ H x v Q I rx h
 obtain⟨i,rfl,q⟩:=h
 obtain⟨t,rfl⟩:=rx
 exact rule i t s _ _ ⟨.int (g i),H,I.tok _,⟨_,rfl⟩,q⟩
theorem z1d:UnR X (unaryOp .USub) (rU fun i=> .int (-i)):=unI fun _ _ _ _ _ q=>neg_int q
end
def scal:V→V→Bool
 | .non,.non =>true| .non,.int _=>true| .int _,.non =>true| .non,.bl _=>true| .bl _,.non =>true| .non,.str _=>true| .str _,.non =>true
 | .int _,.int _=>true| .bl _,.bl _=>true| .str _,.str _=>true| .byt _,.byt _=>true
 | .int _,.str _=>true| .str _,.int _=>true| .bl _,.str _=>true| .str _,.bl _=>true
 |_,_=>false
def rEq:R2:=fun x y H Q=>scal x y=true∧Q (.bl (decide (x=y))) H
def rNe:R2:=fun x y H Q=>scal x y=true∧Q (.bl (!decide (x=y))) H
theorem y2s {i j:Int}:decide (V.int i=V.int j)=(i==j):=by
 rw[q1v]
 simp
theorem y4l {i j:Bool}:decide (V.bl i=V.bl j)=(i==j):=by
 rw[q1v]
 simp
theorem y2r {i j:Str}:decide (V.str i=V.str j)=(i==j):=by
 rw[q1v]
 simp
theorem y2t {i j:Array UInt8}:decide (V.byt i=V.byt j)=(i.toList==j.toList):=by
 rw[q1v]
 cases i
 cases j
 simp
section
variable {X:Cx}{a b c:Expr}{ta tb tc:TE}{pos:Pos}
theorem z0K {pins:List (Addr×Obj)}{σ:St}{H:Hp}{s:Shared}{Q:VK}{k k':Bool} (I:Inv X pins σ H s) (q:Q (.bl k) H) (e:k=k'):EP X pins σ Q (.bool k') s:=by
 subst e
 exact⟨.bl k,H,I,rfl,q⟩
theorem z3q:OpR X (compareOp .Eq) rEq:=by
 intro pins s σ H x y v u Q I rx ry h
 obtain⟨hs,q⟩:=h
 cases x with
 |non=>
  cases rx
  cases y with
  |non=>cases ry;exact PySem.EqNone.eq_none_none (z0K I q (by simp))
  |bl j=>cases ry;exact PySem.EqNone.eq_none_bool (z0K I q (by simp))
  |int j=>obtain⟨t',rfl⟩:=ry;exact PySem.EqNone.eq_none_int (z0K I q (by simp))
  |str j=>obtain⟨t',rfl⟩:=ry;exact PySem.EqNone.eq_none_str (z0K I q (by simp))
  |_=>exact absurd (show false=true from hs) Bool.false_ne_true
 |bl i=>
  cases rx
  cases y with
  |non=>cases ry;exact PySem.EqNone.eq_bool_none (z0K I q (by simp))
  |bl j=>cases ry;exact eq_bool (z0K I q y4l)
  |str j=>obtain⟨t',rfl⟩:=ry;exact PySem.EqMixed.eq_bool_str (z0K I q (by simp))
  |_=>exact absurd (show false=true from hs) Bool.false_ne_true
 |int i=>
  obtain⟨t,rfl⟩:=rx
  cases y with
  |non=>cases ry;exact PySem.EqNone.eq_int_none (z0K I q (by simp))
  |int j=>obtain⟨t',rfl⟩:=ry;exact eq_int (z0K I q y2s)
  |str j=>obtain⟨t',rfl⟩:=ry;exact PySem.EqMixed.eq_int_str (z0K I q (by simp))
  |_=>exact absurd (show false=true from hs) Bool.false_ne_true
 |str i=>
  obtain⟨t,rfl⟩:=rx
  cases y with
  |non=>cases ry;exact PySem.EqNone.eq_str_none (z0K I q (by simp))
  |bl j=>cases ry;exact PySem.EqMixed.eq_str_bool (z0K I q (by simp))
  |int j=>obtain⟨t',rfl⟩:=ry;exact PySem.EqMixed.eq_str_int (z0K I q (by simp))
  |str j=>obtain⟨t',rfl⟩:=ry;exact eq_str (z0K I q y2r)
  |_=>exact absurd (show false=true from hs) Bool.false_ne_true
 |byt i=>
  obtain⟨t,rfl⟩:=rx
  cases y with
  |byt j=>obtain⟨t',rfl⟩:=ry;exact PySem.W.eq_bytes (z0K I q y2t)
  |_=>exact absurd (show false=true from hs) Bool.false_ne_true
 |_=>cases y<;>exact absurd (show false=true from hs) Bool.false_ne_true
theorem z6N:OpR X (compareOp .NotEq) rNe:=by
 intro pins s σ H x y v u Q I rx ry h
 obtain⟨hs,q⟩:=h
 cases x with
 |non=>
  cases rx
  cases y with
  |non=>cases ry;exact PySem.EqNone.ne_none_none (z0K I q (by simp))
  |bl j=>cases ry;exact PySem.EqNone.ne_none_bool (z0K I q (by simp))
  |int j=>obtain⟨t',rfl⟩:=ry;exact PySem.EqNone.ne_none_int (z0K I q (by simp))
  |str j=>obtain⟨t',rfl⟩:=ry;exact PySem.EqNone.ne_none_str (z0K I q (by simp))
  |_=>exact absurd (show false=true from hs) Bool.false_ne_true
 |bl i=>
  cases rx
  cases y with
  |non=>cases ry;exact PySem.EqNone.ne_bool_none (z0K I q (by simp))
  |bl j=>cases ry;exact ne_bool (z0K I q (congrArg not y4l))
  |str j=>obtain⟨t',rfl⟩:=ry;exact PySem.EqMixed.ne_bool_str (z0K I q (by simp))
  |_=>exact absurd (show false=true from hs) Bool.false_ne_true
 |int i=>
  obtain⟨t,rfl⟩:=rx
  cases y with
  |non=>cases ry;exact PySem.EqNone.ne_int_none (z0K I q (by simp))
  |int j=>obtain⟨t',rfl⟩:=ry;exact ne_int (z0K I q (congrArg not y2s))
  |str j=>obtain⟨t',rfl⟩:=ry;exact PySem.EqMixed.ne_int_str (z0K I q (by simp))
  |_=>exact absurd (show false=true from hs) Bool.false_ne_true
 |str i=>
  obtain⟨t,rfl⟩:=rx
  cases y with
  |non=>cases ry;exact PySem.EqNone.ne_str_none (z0K I q (by simp))
  |bl j=>cases ry;exact PySem.EqMixed.ne_str_bool (z0K I q (by simp))
  |int j=>obtain⟨t',rfl⟩:=ry;exact PySem.EqMixed.ne_str_int (z0K I q (by simp))
  |str j=>obtain⟨t',rfl⟩:=ry;exact ne_str (z0K I q (congrArg not y2r))
  |_=>exact absurd (show false=true from hs) Bool.false_ne_true
 |byt i=>
  obtain⟨t,rfl⟩:=rx
  cases y with
  |byt j=>obtain⟨t',rfl⟩:=ry;exact PySem.W.ne_bytes (z0K I q (congrArg not y2t))
  |_=>exact absurd (show false=true from hs) Bool.false_ne_true
 |_=>cases y<;>exact absurd (show false=true from hs) Bool.false_ne_true
theorem y5c:OpR X (compareOp .Lt) (rI0 fun i j=> .bl (decide (i<j))):=opB0 fun _ _ _ _ _ _ _ q=>lt_int q
theorem op_le:OpR X (compareOp .LtE) (rI0 fun i j=> .bl (decide (i≤j))):=opB0 fun _ _ _ _ _ _ _ q=>le_int q
theorem z7N:OpR X (compareOp .Gt) (rI0 fun i j=> .bl (decide (j<i))):=opB0 fun _ _ _ _ _ _ _ q=>gt_int q
theorem z0D (b:Expr) {op:CmpOp} (h:op≠ .In :=by decide) (h2:op≠ .NotIn :=by decide):behindInMarks op b=false:=by
 have e1:(op==CmpOp.In)=false:=by cases op<;>first|rfl|exact absurd rfl h
 have e2:(op==CmpOp.NotIn)=false:=by cases op<;>first|rfl|exact absurd rfl h2
 cases b<;>simp[behindInMarks,e1,e2]
theorem y5a {op:CmpOp}{r:R2} (ho:OpR X (compareOp op) r) (ha:PE X a ta) (hb:PE X b tb) (hm:behindInMarks op b=false):PE X (.Compare a [op] [b] pos) (tOp r ta tb):=by
 intro pins s σ H Q I h
 exact wpAny_Compare1 (binT ha hb I h fun v u s2 x y H2 I2 rx ry q=>ho pins s2 σ H2 x y v u Q I2 rx ry q) hm
def tTest (t:TE):TT:=fun σ H Q=>t σ H fun x H'=>∃k,x= .bl k∧Q k H'
theorem z0v {op:CmpOp}{r:R2} (ho:OpR X (compareOp op) r) (ha:PE X a ta) (hb:PE X b tb) (hm:behindInMarks op b=false):PT X (.Compare a [op] [b] pos) (tTest (tOp r ta tb)):=by
 intro pins s σ H Q I h
 refine wpAny_isTrue_Compare1 (thn (ha pins s σ H _ I h) fun v s1 ⟨x,H1,I1,r1,q1⟩=>thn (hb pins s1 σ H1 _ I1 q1) fun u s2 ⟨y,H2,I2,r2,q2⟩=>
  thn (ho pins s2 σ H2 x y v u _ I2 r1 r2 q2) fun c s3 ⟨z,H3,I3,r3,k,e,q3⟩=>?_) hm
 subst e
 cases r3
 exact wpAny_truthy_bool ⟨H3,I3,q3⟩
theorem z8U:(sizeLine:Nat)<2^63:=by rw[sizeLine_eq];decide
theorem z9t {x:V}{us:List Value} (r:Vals [x] us):∃u,us=[u]∧RelV x u:=by
 cases r with
 |cons r1 r2=>cases r2;exact⟨_,rfl,r1⟩
theorem z7r {x y:V}{us:List Value} (r:Vals [x,y] us):∃u w',us=[u,w']∧RelV x u∧RelV y w':=by
 cases r with
 |cons r1 r2=>
  cases r2 with
  |cons r3 r4=>cases r4;exact⟨_,_,rfl,r1,r3⟩
theorem z3Q:z1x X (.builtin "abs") (fun xs H Q=>∃i,xs=[.int i]∧Q (.int (if i<0 then -i else i)) H):=by
 intro pins s σ H xs us Q I r h
 obtain⟨i,rfl,q⟩:=h
 obtain⟨u,rfl,t,rfl⟩:=z9t r
 exact call_abs_int fun u tk=>⟨.int (if i<0 then -i else i),H,I.tok _,⟨_,rfl⟩,q⟩
theorem y2A (hc:X.calm=true):z1x X (.builtin "max") (fun xs H Q=>∃i j,xs=[.int i,.int j]∧Q (.int (if j>i then j else i)) H):=by
 intro pins s σ H xs us Q I r h
 obtain⟨i,j,rfl,q⟩:=h
 obtain⟨u,w',rfl,⟨t,rfl⟩,⟨t',rfl⟩⟩:=z7r r
 refine max_two_ints (I.ok.hd hc) fun h' tk k=>⟨_,H,I.kept k,?_,q⟩
 by_cases hj:j>i
 ·rw[if_pos hj,if_pos hj];exact⟨_,rfl⟩
 ·rw[if_neg hj,if_neg hj];exact⟨_,rfl⟩
theorem y2z (hc:X.calm=true):z1x X (.builtin "min") (fun xs H Q=>∃i j,xs=[.int i,.int j]∧Q (.int (if j<i then j else i)) H):=by
 intro pins s σ H xs us Q I r h
 obtain⟨i,j,rfl,q⟩:=h
 obtain⟨u,w',rfl,⟨t,rfl⟩,⟨t',rfl⟩⟩:=z7r r
 refine min_two_ints (I.ok.hd hc) fun h' tk k=>⟨_,H,I.kept k,?_,q⟩
 by_cases hj:j<i
 ·rw[if_pos hj,if_pos hj];exact⟨_,rfl⟩
 ·rw[if_neg hj,if_neg hj];exact⟨_,rfl⟩
end
end L2
namespace L2
open PySem PySem.Spec PyProof.Rows
structure ObjM (h:Heap) (x dx C:Addr) (mA:Str→Option Value):Prop where
 obj:h.get? x=some (PySem.W.instObj C dx)
 ns:h.Ns1 dx mA
 ne:dx≠x
theorem y1B {h:Heap}{dx:Addr}{mA:Str→Option Value} (n:h.Ns1 dx mA):∃od,h.get? dx=some od∧∀name,PySem.W.lookIn name od=some (mA name):=by
 obtain⟨o,es,ep,ho,hd,hk,_,hm⟩:=n
 refine⟨o,ho,fun name=>?_⟩
 have e:=hm name
 unfold nsFind findBy at e
 rw[←Array.find?_toList] at e
 unfold PySem.W.lookIn
 rw[hd]
 dsimp only
 split
 ·rename_i y q
  rw[q] at e
  exact congrArg some e
 ·rename_i q
  rw[q] at e
  have a:es.toList.any (·.refKey)=false:=by
   rw[List.any_eq_false]
   intro y hy
   obtain⟨z,t,hkey⟩:=hk y (Array.mem_toList_iff.mp hy)
   simp[DictEntry.refKey,hkey]
  have a':¬es.toList.any (·.refKey)=true:=by rw[a];exact q0z
  rw[if_neg a']
  exact congrArg some e
theorem ObjM.look {h:Heap}{x dx C:Addr}{mA:Str→Option Value} (I:ObjM h x dx C mA):∃od,PySem.W.InstAt h x (PySem.W.instObj C dx) C (some od)∧∀name,PySem.W.lookIn name od=some (mA name):=
 let ⟨od,ho,hl⟩:=y1B I.ns
 ⟨od,⟨I.obj,rfl,rfl,ho⟩,hl⟩
section
variable {prog:Program}{w:World}{A:Around}{E:Value→Shared→Prop}{s:Shared}{K:PySem.W.Frag}{x dx C f:Addr}{mA:Str→Option Value}{name:Str}{v:Value}
end
section
variable {P:Program}{w:World}{H H':Hp}{h h':Heap}{a C dx:Addr}{fs fs':List (Str×V)}
theorem y5q (hok:HOk P w H h) (e:H a=some (.ins C dx fs)):∃mA,ObjM h a dx C mA∧(∀f,RelO (fs.lookup f) (mA f))∧PySem.Within mA (fs.map (·.1))∧fs.length≤1000∧H dx=some (.own a):=by
 obtain⟨d,z,ne,ob,mA,n,r,q⟩:=(show ObjOk P w H h a (.ins C dx fs) from hok a _ e)
 exact⟨mA,⟨ob,n,ne⟩,r,q,z,d⟩
end
structure Cls (K:PySem.W.Frag) (C:Addr):Prop where
 pg:PySem.W.plainGet K C Str.empty=true
 hd:PySem.W.hasDictIn K C=true
 po:PySem.W.plainOver K C=true
 sa:PySem.W.findIn K (.ref C) "__setattr__"=some (some (.builtin "object.__setattr__"))
theorem Cls.get {K:PySem.W.Frag}{C:Addr} (c:Cls K C) (f:Str):PySem.W.plainGet K C f=true:=c.pg
section
variable {X:Cx}{pins:List (Addr×Obj)}{σ:St}{H:Hp}{s:Shared}{a C dx:Addr}{fs:List (Str×V)}{f:Str}{v:V}{A:Around}{E:Value→Shared→Prop}
end
section
variable {X:Cx}{o e value:Expr}{f:Str}{pos pos' tpos:Pos}{ta tv:TE}
end
section
variable {X:Cx}{pins:List (Addr×Obj)}{σ:St}{H:Hp}{s:Shared}{A:Around}{E:Value→Shared→Prop}{Q:Value→Shared→Prop}{c:Value}{b:Bool}
inductive y0j (K:PySem.W.Frag) (H:Hp):V→Value→Prop where
 |non:y0j K H .non (.type "NoneType")
 |bl (x:Bool):y0j K H (.bl x) (.type "bool")
 |int (i:Int):y0j K H (.int i) (.type "int")
 |str (x:Str):y0j K H (.str x) (.type "str")
 |flt (x:UInt64):y0j K H (.flt x) (.type "float")
 |lst {a:Addr}{xs:List V} (e:H a=some (.lst xs)):y0j K H (.ref a) (.type "list")
 |frz {a:Addr}{o:Obj}{xs:List V} (e:H a=some (.frz o (.lst xs))):y0j K H (.ref a) (.type "list")
 |tup {a:Addr}{xs:List V} (e:H a=some (.tup xs)):y0j K H (.ref a) (.type "tuple")
 |dK {a:Addr}{kvs:List (Key×V)} (e:H a=some (.dK kvs)):y0j K H (.ref a) (.type "dict")
 |dT {a:Addr}{kvs:List (List Key×V)} (e:H a=some (.dT kvs)):y0j K H (.ref a) (.type "dict")
 |ins {a C dx:Addr}{fs:List (Str×V)} (e:H a=some (.ins C dx fs)) (cl:Cls K C) (ha:PySem.W.findIn K (.ref C) "__class__"=some (some (.builtin "object.__class__")))
  (hn:PySem.W.specialIn K (.builtin "object.__class__") "__get__"=some (some (.builtin "getset_descriptor.__get__"))) (htk:PySem.W.takesIn K (.builtin "object.__class__")=some true)
  (hm:PySem.W.mroIn K C (.type "object")=some true):y0j K H (.ref a) (.ref C)
theorem y1O {x:V}{u t:Value} (I:Inv X pins σ H s) (rx:RelV x u) (ty:y0j X.K H x t) (e:PySem.W.kitOne X.K t c=some b) (h:∀tk,Q (.bool b) {s with toks:=tk}):
 wpAny (model X.prog X.w) A (call (.builtin "isinstance") [u,c]) Q E s:=by
 cases ty with
 |non=>cases (show u=Value.none from rx);exact PySem.W.kia_one PySem.W.kitx_none I.kIn True.intro e (fun z=>nomatch z) h
 |bl y=>cases (show u=Value.bool y from rx);exact PySem.W.kia_one PySem.W.kitx_bool I.kIn True.intro e (fun z=>nomatch z) h
 |int i=>obtain⟨t,q⟩:=(show ∃t,u=Value.int i t from rx);cases q;exact PySem.W.kia_one PySem.W.kitx_int I.kIn True.intro e (fun z=>nomatch z) h
 |str y=>obtain⟨t,q⟩:=(show ∃t,u=Value.str y t from rx);cases q;exact PySem.W.kia_one PySem.W.kitx_str I.kIn True.intro e (fun z=>nomatch z) h
 |flt y=>obtain⟨t,q⟩:=(show ∃t,u=Value.float y t from rx);cases q;exact PySem.W.kia_one PySem.W.kitx_float I.kIn True.intro e (fun z=>nomatch z) h
 | @lst a xs ea=>
   cases (show u=Value.ref a from rx)
   obtain⟨_,_,n,_,h1⟩:=(show ObjOk X.prog X.w H s.heap a (.lst xs) from I.hok a _ ea)
   exact q1l PySem.W.kitx_list I.kIn ⟨_,h1,rfl⟩ e (fun z=>nomatch z) h
 | @frz a ob xs ea=>
   cases (show u=Value.ref a from rx)
   obtain⟨_,_,_,n,_,h1⟩:=(show ObjOk X.prog X.w H s.heap a (.frz ob (.lst xs)) from I.hok a _ ea)
   exact q1l PySem.W.kitx_list I.kIn ⟨_,h1,rfl⟩ e (fun z=>nomatch z) h
 | @tup a xs ea=>
   cases (show u=Value.ref a from rx)
   obtain⟨_,_,_,p⟩:=(show ObjOk X.prog X.w H s.heap a (.tup xs) from I.hok a _ ea)
   obtain⟨o,h1,h2,_⟩:=p
   exact q1l PySem.W.kitx_tuple I.kIn ⟨o,h1,h2⟩ e (fun z=>nomatch z) h
 | @dK a kvs ea=>
   cases (show u=Value.ref a from rx)
   obtain⟨_,_,vs,_,p⟩:=(show ObjOk X.prog X.w H s.heap a (.dK kvs) from I.hok a _ ea)
   obtain⟨o,es,ep,h1,h2,_⟩:=p
   exact q1l PySem.W.kitx_dict I.kIn ⟨o,h1,h2.1⟩ e (fun z=>nomatch z) h
 | @dT a kvs ea=>
   cases (show u=Value.ref a from rx)
   obtain⟨_,_,xs,_,o,es,ep,h1,h2,_⟩:=(show ObjOk X.prog X.w H s.heap a (.dT kvs) from I.hok a _ ea)
   exact q1l PySem.W.kitx_dict I.kIn ⟨o,h1,h2.1⟩ e (fun z=>nomatch z) h
 | @ins a C dx fs ea cl ha hn htk hm=>
   cases (show u=Value.ref a from rx)
   obtain⟨mA,O,_⟩:=y5q I.hok ea
   obtain⟨od,J,_⟩:=O.look
   exact q1l (PySem.W.kitx_own (cl.get _) cl.hd ha hn htk hm) I.kIn J e (fun z=>nomatch z) h
end
end L2
namespace L2
open PySem PySem.Spec PyProof.Rows
structure Room (k:Nat) (A:Around):Prop where
 hd:A.handled=none
 dp:A.depth+3*k+5<recursionLimit
 un:A.units+16*k+200<cLine
theorem Room.mono {j k:Nat}{A:Around} (r:Room k A) (h:j≤k):Room j A:=⟨r.hd,by have:=r.dp;lia,by have:=r.un;lia⟩
theorem Room.deeper {k:Nat}{A:Around} (r:Room (k+1) A) (env:Env):Room k (A.deeper env):=
 ⟨r.hd,by have:=r.dp;show A.depth+1+3*k+5<_;lia,by have:=r.un;show A.units+3+16*k+200<_;lia⟩
theorem Room.in1 {k:Nat}{A:Around} (r:Room (k+1) A):Room k A.in1:=
 ⟨r.hd,by have:=r.dp;show A.depth+3*k+5<_;lia,by have:=r.un;show A.units+1+16*k+200<_;lia⟩
theorem Room.depth {k:Nat}{A:Around} (r:Room k A):A.depth<recursionLimit:=by have:=r.dp;lia
theorem Room.units {k:Nat}{A:Around} (r:Room k A):A.units+64<cLine:=by have:=r.un;lia
def tNil:TA:=fun _ H Q=>Q [] H
def y2Q (ta:TE) (tr:TA):TA:=fun σ H Q=>ta σ H fun x H1=>tr σ H1 fun xs H2=>Q (x::xs) H2
section
variable {X:Cx}{e:Expr}{es:List Expr}{te:TE}{t:TA}{pos:Pos}
theorem z0d:PA X [] tNil:=fun _ _ _ _ H Q I h=>Calls.spliced_nil ⟨[],H,I,.nil,h⟩
theorem z0a (ha:PE X e te) (hr:PA X es t) (hs:starEach (e::es) X.env=(false,eval e X.env)::starEach es X.env:=by rfl):PA X (e::es) (y2Q te t):=by
 intro pos pins s σ H Q I h
 rw[hs]
 show wpAny _ _ (spliced ((false,eval e X.env)::backTo pos (starEach es X.env))) _ _ s
 refine Calls.spliced_cons (thn (ha pins s σ H _ I h) fun u s1 ⟨x,H1,I1,r1,q1⟩=>?_)
 exact thn (hr pos pins s1 σ H1 _ I1 q1) fun us s2 ⟨xs,H2,I2,r2,q2⟩=>⟨x::xs,H2,I2,.cons r1 r2,q2⟩
def tTup (t:TA):TE:=fun σ H Q=>t σ H fun xs H1=>xs.length≤sizeLine∧∀p,H1 p=none→Q (.ref p) (upd H1 p (.tup xs))
def tLst (t:TA):TE:=fun σ H Q=>t σ H fun xs H1=>xs.length≤sizeLine∧∀p,H1 p=none→Q (.ref p) (upd H1 p (.lst xs))
theorem z2e {x1} (h:PA X es t):PE X (.Tuple es x1 pos) (tTup t):=by
 intro pins s σ H Q I hq
 refine wpAny_Tuple_spliced (thn (h pos pins s σ H _ I hq) fun us s1 ⟨xs,H1,I1,r,z,q⟩=>⟨by rw[←r.length];exact z,?_⟩)
 have hf:H1 s1.heap.objs.size=none:=I1.hok.fresh (q0k _)
 refine⟨.ref s1.heap.objs.size,upd H1 s1.heap.objs.size (.tup xs),I1.laid (t':=s1.toks) (fun b u e=>q0d _ e) (q0k _) ?_,rfl,q _ hf⟩
 exact⟨z,us,r,⟨_,q0o _ rfl,rfl,_,rfl⟩⟩
theorem z0U (h:PA X es t):PE X (.List es pos) (tLst t):=by
 intro pins s σ H Q I hq
 refine wpAny_List_spliced (thn (h pos pins s σ H _ I hq) fun us s1 ⟨xs,H1,I1,r,z,q⟩=>⟨by rw[←r.length];exact z,?_⟩)
 have hf:H1 s1.heap.objs.size=none:=I1.hok.fresh (q0k _)
 refine⟨.ref s1.heap.objs.size,upd H1 s1.heap.objs.size (.lst xs),I1.laid (t':=s1.toks) (fun b u e=>q0d _ e) (q0k _) ?_,rfl,q _ hf⟩
 exact⟨z,us,0,r,q0o _ rfl⟩
end
abbrev Sp:=List V→Hp→VK→XK→Prop
abbrev CXT:=List Env→Hp→Shared→XK→Value→Shared→Prop
structure Env0 (P:Program) (w:World) (K:PySem.W.Frag) (mg:Str→Option Value) (base:Heap) (A:Around) (outer:List Env) (s:Shared) (H:Hp):Prop where
 frames:A.frames=some outer
 mod:Mod K mg base
 bs:∀b o,base.get? b=some o→s.heap.get? b=some o∧H b=none
 bsz:base.objs.size≤s.heap.objs.size
 funs:s.heap.FunFrames base outer
 frf:∀b∈frs outer,H b=none
 hok:HOk P w H s.heap
 bare:AllBare s.gens
def CE (outer:List Env) (P:Program) (w:World) (H:Hp) (s:Shared) (Q:VK) (u:Value) (s':Shared):Prop:=
 ∃v H',s'.os=s.os∧AllBare s'.gens∧Un (frs outer) [] H H' s.heap s'.heap∧HOk P w H' s'.heap∧RelV v u∧Q v H'
def CR (CX:CXT) (outer:List Env) (P:Program) (w:World) (H:Hp) (s:Shared) (Q:VK) (E:XK) (r:Result) (s':Shared):Prop:=
 match r with
 | .ok (.ret u)=>CE outer P w H s Q u s'
 | .ok _=>False
 | .error e=>CX outer H s E e s'
structure FnOk (P:Program) (w:World) (K:PySem.W.Frag) (mg:Str→Option Value) (base:Heap) (CX:CXT) (k:Nat) (f:Addr) (fd:FuncData) (ps:List Str) (sp:Sp):Prop where
 len:∀vs H Q E,sp vs H Q E→vs.length=ps.length
 run:∀(A:Around) (outer:List Env) (s:Shared) (H:Hp) (args:Args) (us:List Value) (vs:List V) (Q:VK) (E:XK),Room k A→Env0 P w K mg base A outer s H→BindsTo s fd args (ps.zip us)→Vals vs us→sp vs H Q E→
  codeAny (model P w) A (.call (.ref f) args) (CR CX outer P w H s Q E) s
theorem FnOk.mono {P:Program}{w:World}{K:PySem.W.Frag}{mg:Str→Option Value}{base:Heap}{CX:CXT}{j k:Nat}{f:Addr}{fd:FuncData}{ps:List Str}{sp:Sp} (F:FnOk P w K mg base CX j f fd ps sp) (h:j≤k):
 FnOk P w K mg base CX k f fd ps sp:=⟨F.len,fun A outer s H args us vs Q E hr=>F.run A outer s H args us vs Q E (hr.mono h)⟩
theorem FnOk.imp {P:Program}{w:World}{K:PySem.W.Frag}{mg:Str→Option Value}{base:Heap}{CX:CXT}{k:Nat}{f:Addr}{fd:FuncData}{ps:List Str}{sp sp':Sp} (F:FnOk P w K mg base CX k f fd ps sp)
 (h:∀vs H Q E,sp' vs H Q E→sp vs H Q E):FnOk P w K mg base CX k f fd ps sp':=
 ⟨fun vs H Q E q=>F.len vs H Q E (h _ _ _ _ q),fun A outer s H args us vs Q E hr he hb hv hs=>F.run A outer s H args us vs Q E hr he hb hv (h _ _ _ _ hs)⟩
theorem Env0.in1 {P:Program}{w:World}{K:PySem.W.Frag}{mg:Str→Option Value}{base:Heap}{A:Around}{outer:List Env}{s:Shared}{H:Hp} (e:Env0 P w K mg base A outer s H):
 Env0 P w K mg base A.in1 outer s H:=⟨e.frames,e.mod,e.bs,e.bsz,e.funs,e.frf,e.hok,e.bare⟩
section
variable {X:Cx}{pins:List (Addr×Obj)}{σ:St}{H:Hp}{s s':Shared}
theorem Inv.env0 (I:Inv X pins σ H s):Env0 X.prog X.w X.K X.mg X.base X.A X.stack s H:=
 ⟨I.ok.frames,I.ok.mod,I.bs,q0m I.ok.bsz I.sz,I.stack,I.stkFree,I.hok,I.bare⟩
theorem Inv.after {Q:VK}{u:Value} (I:Inv X pins σ H s) (h:CE X.stack X.prog X.w H s Q u s'):EP X pins σ Q u s':=by
 obtain⟨v,H',os,bare,un,hok,r,q⟩:=h
 obtain⟨hh,g,d,t,os'⟩:=s'
 obtain rfl:os'=s.os:=os
 exact⟨v,H',I.call (h':=hh) (g':=g) (d':=d) (t':=t) (ch:=[]) un hok bare (fun b z=>absurd z (by simp)),r,q⟩
end
def y4J (sp:Sp) (dvs:List V) (E:XK) (t:TA):TE:=fun σ H Q=>t σ H fun vs H1=>sp (vs++dvs) H1 Q E
def Binds (K:PySem.W.Frag) (fd:FuncData) (ps:List Str) (ds:List Value):Prop:=
 ∀(s:Shared) (us:List Value),K.In s.heap→(us++ds).length =ps.length→BindsTo s fd ⟨us,[]⟩ (ps.zip (us++ds))
theorem Binds.all {K:PySem.W.Frag}{fd:FuncData}{ps:List Str} (h:∀us:List Value,us.length=ps.length→bindArgs fd ⟨us,[]⟩=pure (ps.zip us)):Binds K fd ps []:=fun s us _ hl=>by
 rw[q2c] at hl ⊢
 exact .of_eq (h us hl)
def z7o (CX:CXT) (X:Cx) (E:XK):Prop:=∀(pins:List (Addr×Obj)) (σ:St) (H:Hp) (s:Shared) (e:Value) (s':Shared),Inv X pins σ H s→CX X.stack H s E e s'→X.xe e s'
section
variable {X:Cx}{CX:CXT}{k:Nat}{f C:Addr}{fd:FuncData}{ps:List Str}{sp:Sp}{dvs:List V}{ds:List Value}{E:XK}{x m:Str}{p pos apos:Pos}{e o:Expr}{es:List Expr}{ta:TE}{t:TA}
theorem y5Z {pins:List (Addr×Obj)}{σ:St}{H:Hp}{s:Shared}{Q:VK}{us:List Value}{vs:List V} (F:FnOk X.prog X.w X.K X.mg X.base CX k f fd ps sp) (hr:Room k X.A) (hb:Binds X.K fd ps ds) (hd:Vals dvs ds) (hx:z7o CX X E)
 (I:Inv X pins σ H s) (r:Vals vs us) (h:sp (vs++dvs) H Q E):wpAny (model X.prog X.w) X.A (call (.ref f) us) (EP X pins σ Q) X.xe s:=by
 have r2:Vals (vs++dvs) (us++ds):=r.append hd
 have hl:(us++ds).length =ps.length:=by rw[←r2.length];exact F.len _ _ _ _ h
 refine wpAny_call (codeAny_mono (F.run X.A X.stack s H ⟨us,[]⟩ (us++ds) (vs++dvs) Q E hr I.env0 (hb s us I.kIn hl) r2 h) fun r s' hq=>?_)
 cases r with
 |error e=>exact hx pins σ H s e s' I hq
 |ok fl=>
  cases fl with
  |ret u=>exact I.after hq
  |next=>exact False.elim hq
  |brk=>exact False.elim hq
  |cont=>exact False.elim hq
theorem y1e (F:FnOk X.prog X.w X.K X.mg X.base CX k f fd ps sp) (hr:Room k X.A) (hg:Gl X x) (hm:X.mg x=some (.ref f)) (hk:PySem.W.keepIn X.K (.ref f)=true) (hb:Binds X.K fd ps ds) (hd:Vals dvs ds) (hx:z7o CX X E)
 (ha:PA X (e::es) t) (hdb:(x==("__debug__":Str))=false:=by decide) (he:starEach (e::es) X.env=(false,eval e X.env)::starEach es X.env:=by rfl) (hpl:(backTo pos (starEach es X.env)).any (·.1)=false:=by rfl):
 PE X (.Call (.Name x p) (e::es) [] pos) (y4J sp dvs E t):=by
 intro pins s σ H Q I h
 refine wpAny_Call_Name_kw (z4q I hg hm ?_ hdb)
 refine PySem.W.callWith_K (h₀:=X.base) I.ok.mod.kin hk (thn (ha pos pins s σ H _ I h) fun us s1 ⟨vs,H1,I1,r,q⟩=>⟨I1.kIn,?_⟩) he hpl
 exact y5Z F hr hb hd hx I1 r q
end
def PK (X:Cx) (kws:List Keyword) (t:TA):Prop:=
 ∀(pos:Pos) (pins:List (Addr×Obj)) (s:Shared) (σ:St) (H:Hp) (Q:List V→Hp→Prop),Inv X pins σ H s→t σ H Q→wpAny (model X.prog X.w) X.A (evalAll ((backToKw pos (keywordEach kws X.env)).map (·.2))) (AP X pins σ Q) X.xe s
section
variable {X:Cx}{CX:CXT}{k:Nat}{f C:Addr}{fd:FuncData}{ps ks:List Str}{sp:Sp}{E:XK}{x m:Str}{p pos apos kpos:Pos}{e o:Expr}{es:List Expr}{kws:List Keyword}{te ta:TE}{t tk:TA}{nm:Option Str}
theorem y3S:PK X [] tNil:=fun _ _ _ _ H Q I h=>wpAny_evalAll_nil ⟨[],H,I,.nil,h⟩
theorem y1a (ha:PE X e te) (hr:PK X kws t):PK X (⟨nm,e,kpos⟩::kws) (y2Q te t):=by
 intro pos pins s σ H Q I h
 show wpAny _ _ (evalAll ((do let v ←eval e X.env;standAt pos;pure v)::(backToKw pos (keywordEach kws X.env)).map (·.2))) _ _ s
 refine wpAny_evalAll_cons (wpAny_bind (thn (ha pins s σ H _ I h) fun u s1 ⟨x,H1,I1,r1,q1⟩=>wpAny_bind (wpAny_standAt (wpAny_pure ?_))))
 exact thn (hr pos pins s1 σ H1 _ I1 q1) fun us s2 ⟨xs,H2,I2,r2,q2⟩=>⟨x::xs,H2,I2,.cons r1 r2,q2⟩
variable {g:List Value→List Value→List Value}{gV:List V→List V→List V}
end
structure z0r (N P:List Str) (sc:Scope):Prop where
 kind:sc.kind= .function
 co:sc.isCoroutine=false
 gen:sc.isGenerator=false
 nd:N.Nodup
 pre:N.take P.length=P
 par:∀x∈P,sc.names.lookup x=some .local ∨sc.names.lookup x=some .cell
 nofree:∀y∈sc.names,y.2≠ .free
theorem z7k {kindOf:Str→Option NameKind}{x:Str}:∀{binds:List (Str×Value)}{m:Str→Option Value},(∀v,(x,v)∉binds)→bindL kindOf binds m x=m x
 |[],_,_=>rfl
 |(n,v)::r,m,h=>by
  unfold bindL
  rw[z7k fun w hw=>h w (q0h _ hw)]
  split
  ·have:x≠n:=by rintro rfl;exact h v q0j
   simp[this]
  ·rfl
theorem z7m {kindOf:Str→Option NameKind}{x:Str}:∀{binds:List (Str×Value)}{m:Str→Option Value},(∀v,(x,v)∉binds)→bindC kindOf binds m x=m x
 |[],_,_=>rfl
 |(n,v)::r,m,h=>by
  unfold bindC
  rw[z7m fun w hw=>h w (q0h _ hw)]
  split
  ·rfl
  ·have:x≠n:=by rintro rfl;exact h v q0j
   simp[this]
theorem z7l {kindOf:Str→Option NameKind}{x:Str}{v:Value}:∀{P:List Str}{vs:List Value}{i:Nat}{m:Str→Option Value},P.Nodup→P[i]? =some x→vs[i]? =some v→kindOf x=some .local →
 bindL kindOf (P.zip vs) m x=some v
 |[],_,_,_,_,h,_,_=>by simp at h
 |_::_,[],_,_,_,_,h,_=>by simp at h
 |p::P,w::vs,0,m,nd,h1,h2,hk=>by
  simp at h1 h2;subst h1;subst h2
  show bindL kindOf ((p,w)::P.zip vs) m p=_
  unfold bindL
  rw[z7k fun v hv=>(List.nodup_cons.mp nd).1 (q1J hv).1,if_pos hk]
  simp
 |p::P,w::vs,i+1,m,nd,h1,h2,hk=>by
  show bindL kindOf ((p,w)::P.zip vs) m x=_
  unfold bindL
  exact z7l (i:=i) (List.nodup_cons.mp nd).2 (by simpa using h1) (by simpa using h2) hk
theorem z7n {kindOf:Str→Option NameKind}{x:Str}{v:Value}:∀{P:List Str}{vs:List Value}{i:Nat}{m:Str→Option Value},P.Nodup→P[i]? =some x→vs[i]? =some v→kindOf x≠some .local →
 bindC kindOf (P.zip vs) m x=some v
 |[],_,_,_,_,h,_,_=>by simp at h
 |_::_,[],_,_,_,_,h,_=>by simp at h
 |p::P,w::vs,0,m,nd,h1,h2,hk=>by
  simp at h1 h2;subst h1;subst h2
  show bindC kindOf ((p,w)::P.zip vs) m p=_
  unfold bindC
  rw[z7m fun v hv=>(List.nodup_cons.mp nd).1 (q1J hv).1,if_neg hk]
  simp
 |p::P,w::vs,i+1,m,nd,h1,h2,hk=>by
  show bindC kindOf ((p,w)::P.zip vs) m x=_
  unfold bindC
  exact z7n (i:=i) (List.nodup_cons.mp nd).2 (by simpa using h1) (by simpa using h2) hk
def start (N:List Str) (vs:List V):St:=vs.map some++List.replicate (N.length - vs.length) none
def y4p (CX:CXT) (P:Program) (w:World) (K:PySem.W.Frag) (mg:Str→Option Value) (base:Heap) (N:List Str) (qual:Str) (scope:Scope) (f:Addr) (cd:Value) (A:Around) (outer:List Env) (s:Shared) (H:Hp) (E:XK):Cx where
 prog:=P
 w:=w
 K:=K
 mg:=mg
 base:=base
 A:=A.deeper (envOfC qual scope s.heap.objs.size f cd)
 N:=N
 s₀:=s
 H₀:=H
 env:=envOfC qual scope s.heap.objs.size f cd
 outer:=outer
 stack:=envOfC qual scope s.heap.objs.size f cd::outer
 ex:=[]
 calm:=true
 fn:=fun _=>true
 pn:=[]
 xe:=fun e s'=>wpAny (model P w) (A.deeper (envOfC qual scope s.heap.objs.size f cd)) (leaving (envOfC qual scope s.heap.objs.size f cd) e) (fun _ s''=>CX outer H s E e s'') (fun e' s''=>CX outer H s E e' s'') s'
theorem z9o {sc:Scope}{n:Nat}{x:Str} (h:sc.names.lookup x=some .cell):∃c,(cellsFrom n sc.names []).lookup x=some c:=by
 have q:=PySem.W.cellsFrom_some sc.names n [] (.inl h)
 exact q2a.mp q
theorem y1P {CX:CXT}{P:Program}{w:World}{K:PySem.W.Frag}{mg:Str→Option Value}{base:Heap}{N ps:List Str}{qual:Str}{scope:Scope}{f:Addr}{cd:Value}{A:Around}{outer:List Env}{s s1:Shared}{H:Hp}{E:XK}{us:List Value}{vs:List V}
 (S:z0r N ps scope) (hd:A.handled=none) (e0:Env0 P w K mg base A outer s H) (hl:vs.length=ps.length) (r:Vals vs us)
 (x:InCallC s s.heap.objs.size (bindL (envOfC qual scope s.heap.objs.size f cd).kindOf (ps.zip us) fun _=>none) (cellsFrom (s.heap.objs.size+1) scope.names []) (bindC (envOfC qual scope s.heap.objs.size f cd).kindOf (ps.zip us) fun _=>none) s1):
 Inv (y4p CX P w K mg base N qual scope f cd A outer s H E) [] (start N vs) H s1:=by
 have hpl:ps.length≤N.length:=by have:=congrArg List.length S.pre;rw[q0q] at this;lia
 obtain⟨h1,tk,rfl,hk⟩:=x.done
 have noA:∀b:Addr,b∉(y4p CX P w K mg base N qual scope f cd A outer s H E).ex :=fun b z=>absurd (show b∈([]:List Addr) from z) (by simp)
 refine⟨⟨e0.mod,S.kind,rfl,rfl,q0k _,fun y z c h1 h2=>?_,fun y hy=>?_,fun y c _ h=>?_,fun _=>hd,Around.frames_deeper e0.frames,.inr ⟨rfl,rfl⟩,fun b z=>absurd z (noA b),e0.bs,e0.bsz,fun b _ _=>noA b,fun b z=>absurd z (noA b),e0.funs,e0.frf⟩,
  rfl,e0.bare,Un.kept hk,⟨_,x.toInCall.ns,fun i y v h1 h2 h3=>?_⟩,fun y c h=>⟨_,x.cell y c h⟩,e0.hok.fresh (q0k _),fun y c h=>?_,fun p hp=>absurd (show p∈([]:List (Addr×Obj)) from hp) (by simp),e0.hok.kept hk,?_⟩
 ·exact name_of_addr x.apart (PySem.mem_of_lookup h1) (PySem.mem_of_lookup h2)
 ·have hy:scope.names.lookup y=some .cell ∨scope.names.lookup y=some .free :=hy
  rcases hy with hy|hy
  ·exact z9o hy
  ·exact absurd rfl (S.nofree _ (PySem.mem_of_lookup hy))
 ·exact Nat.le_of_lt (x.above y c (PySem.mem_of_lookup h))
 ·have hi:i<vs.length:=by
   unfold start at h2
   by_cases hi:i<vs.length
   ·exact hi
   ·rw[q0R (by simpa using hi)] at h2
    rw[List.getElem?_replicate] at h2
    split at h2<;>cases h2
  have ha:vs[i]? =some v:=by
   unfold start at h2
   rw[q1e (by simpa using hi),q0g] at h2
   cases e:vs[i]? with
   |none=>rw[e] at h2;cases h2
   |some a=>rw[e] at h2;cases h2;rfl
  obtain⟨u,hu,rv⟩:=r.get ha
  have hp:ps[i]? =some y:=by
   rw[←S.pre,q1B (by lia)];exact h1
  have ndP:ps.Nodup:=by rw[←S.pre];exact S.nd.sublist (List.take_sublist _ _)
  refine⟨u,rv,?_⟩
  rcases S.par y (q0B hp) with k|k
  ·exact .inl ⟨k,z7l ndP hp hu k⟩
  ·obtain⟨c,e⟩:=z9o (n:=s.heap.objs.size+1) k
   refine .inr ⟨.inl k,c,e,?_⟩
   have q:=x.cell y c e
   rw[z7n ndP hp hu (by show scope.names.lookup y≠_;rw[k];decide)] at q
   exact q
 ·exact e0.hok.fresh (Nat.le_of_lt (x.above y c (PySem.mem_of_lookup h)))
 ·unfold start
  show _=N.length
  rw[q0l,q0a,List.length_replicate]
  lia
theorem y6M {CX:CXT}{P:Program}{w:World}{K:PySem.W.Frag}{mg:Str→Option Value}{base:Heap}{k:Nat}{f:Addr}{name qual:Str}{params:Arguments}{body:List Stmt}{scope:Scope}{dV kV doc pm cdv ct oc:Value}{an od:Option Addr}
 {osl:Array (Option Value)}{N ps:List Str}{sp:Sp} (lk:K.lookup f=some ⟨oc,od,.func (PySem.W.fnOf name qual params body scope dV kV doc pm an cdv ct),osl⟩) (hcd:PySem.W.codeIn K cdv qual=true) (S:z0r N ps scope)
 (len:∀vs H Q E,sp vs H Q E→vs.length=ps.length)
 (hbody:∀(A:Around) (outer:List Env) (s:Shared) (H:Hp) (vs:List V) (Q:VK) (E:XK),Room k (A.deeper (envOfC qual scope s.heap.objs.size f cdv))→sp vs H Q E→
  ∃t,PSs (y4p CX P w K mg base N qual scope f cdv A outer s H E) body t∧t {nx:=fun _ H'=>Q .non H',rt:=Q} (start N vs) H):
 FnOk P w K mg base CX (k+1) f (PySem.W.fnOf name qual params body scope dV kV doc pm an cdv ct) ps sp:=by
 refine⟨len,fun A outer s H args us vs Q E hr e0 hb r hsp=>?_⟩
 have hl:=len _ _ _ _ hsp
 have KX:K.In s.heap:=e0.mod.kin.keeps fun b o e=>(e0.bs b o e).1
 have lim:s.heap.NoLimit:=e0.mod.nolimit.keeps fun b o e=>(e0.bs b o e).1
 have hkind:∀y∈ps.zip us,scope.names.lookup y.1=some .local ∨(scope.names.lookup y.1=some .cell ∧((cellsFrom (s.heap.objs.size+1) scope.names []).lookup y.1).isSome =true):=fun⟨n,v⟩ hy=>by
  rcases S.par n (q1J hy).1 with q|q
  ·exact .inl q
  ·exact .inr ⟨q,PySem.W.cellsFrom_some _ _ _ (.inl q)⟩
 refine codeAny_call_function hr.depth (KX _ _ lk) rfl S.co S.gen rfl (PySem.W.codeRec_of KX hcd) (hb _ _ _ _ ?_)
 refine wpAny_newFunctionEnv_cells S.kind hkind fun env he s1 x=>?_
 subst he
 refine⟨lim.keeps x.toInCall.keep,codeAny_func ?_⟩
 obtain⟨t,ht,hq⟩:=hbody A outer s H vs Q E (hr.deeper _) hsp
 have I:Inv (y4p CX P w K mg base N qual scope f cdv A outer s H E) [] (start N vs) H s1:=y1P S hr.hd e0 hl r x
 refine wpAny_mono (ht [] s1 (start N vs) H _ I hq) (fun fl s' hs=>?_) fun e s' hs=>hs
 have fin:∀{σ':St}{H':Hp}{v:V}{u:Value},Inv (y4p CX P w K mg base N qual scope f cdv A outer s H E) [] σ' H' s'→RelV v u→Q v H'→CE outer P w H s Q u s':=
  fun {σ' H' v u} J rv q=>⟨v,H',J.os,J.bare,J.base,J.hok,rv,q⟩
 cases fl with
 |ret u=>
  obtain⟨v,σ',H',J,rv,q⟩:=hs
  exact fin J rv q
 |next=>
  obtain⟨σ',H',J,q⟩:=hs
  exact fin (v:=V.non) (u:=Value.none) J rfl q
 |brk=>
  obtain⟨_,_,_,q⟩:=hs
  exact False.elim q
 |cont=>
  obtain⟨_,_,_,q⟩:=hs
  exact False.elim q
end L2
namespace L2
open PySem PySem.Spec PyProof.Rows
section
variable {X:Cx}{x:Str}{p pos:Pos}{e:Expr}{es:List Expr}{t:TA}{id T:String}{r:List V→Hp→VK→Prop}
def tCB (r:List V→Hp→VK→Prop) (t:TA):TE:=fun σ H Q=>t σ H fun vs H1=>r vs H1 Q
theorem z0A (hc:z1x X (.builtin id) r) (hg:Gl X x) (hm:X.mg x=none) (hv:bootBuiltins x=some (.builtin id)) (ha:PA X (e::es) t) (hn:x≠"__name__":=by decide) (hdb:(x==("__debug__":Str))=false:=by decide)
 (he:starEach (e::es) X.env=(false,eval e X.env)::starEach es X.env:=by rfl) (hpl:(backTo pos (starEach es X.env)).any (·.1)=false:=by rfl):PE X (.Call (.Name x p) (e::es) [] pos) (tCB r t):=by
 intro pins s σ H Q I h
 refine wpAny_Call_Name_kw (z3b I hg hm hv ?_ hn hdb)
 exact PyProof.Rows.callWith_builtin1 (thn (ha pos pins s σ H _ I h) fun us s1 ⟨vs,H1,I1,r1,q1⟩=>hc pins s1 σ H1 vs us Q I1 r1 q1) he hpl
theorem z0J (hc:z1x X (.type T) r) (hg:Gl X x) (hm:X.mg x=none) (hv:bootBuiltins x=some (.type T)) (ha:PA X (e::es) t) (hn:x≠"__name__":=by decide) (hdb:(x==("__debug__":Str))=false:=by decide)
 (he:starEach (e::es) X.env=(false,eval e X.env)::starEach es X.env:=by rfl) (hpl:(backTo pos (starEach es X.env)).any (·.1)=false:=by rfl):PE X (.Call (.Name x p) (e::es) [] pos) (tCB r t):=by
 intro pins s σ H Q I h
 refine wpAny_Call_Name_kw (z3b I hg hm hv ?_ hn hdb)
 exact PyProof.Rows.callWith_type1 (thn (ha pos pins s σ H _ I h) fun us s1 ⟨vs,H1,I1,r1,q1⟩=>hc pins s1 σ H1 vs us Q I1 r1 q1) he hpl
end
end L2
namespace HT
open PySem PyProof.Rows
section
open PySem.SeqAt
open PySem.AutoSeq1 (wpAny_loadPart')
open PySem.MeetsSeq PySem.MeetsSeq2 PySem.MeetsSeq3
end
section
variable {prog:Program}{w:World}{A:Around}{E:Value→Shared→Prop}{s:Shared}
theorem cat_tup {t b:Addr}{vs ws:List Value}{Q:Value→Shared→Prop} (ht:IsTup s.heap t vs.toArray) (hb:IsTup s.heap b ws.toArray) (hv:vs≠[])
 (h1:ws=[]→Q (.ref t) s) (h2:ws≠[]→Q (.ref s.heap.objs.size) {s with heap:=s.heap.push {cls:= .type "tuple",data:= .seq (vs++ws).toArray}})
 (hsz:vs.length+ws.length≤sizeLine):wpAny (model prog w) A (binaryOp .Add (.ref t) (.ref b)) Q E s:=by
 obtain⟨⟨cls,dd,data,sl⟩,ho,hc,n,hd⟩:=id ht
 obtain⟨⟨cls2,dd2,data2,sl2⟩,ho2,hc2,n2,hd2⟩:=id hb
 simp only at hc hd hc2 hd2
 subst hc hd hc2 hd2
 have e:vs.toArray++ws.toArray=(vs++ws).toArray :=by simp
 by_cases hw:ws=[]
 ·exact concat_meets ⟨_,ho,rfl⟩ ⟨_,ho2,rfl⟩ noFill_tuple_add seq_tuple_add PySem.F.slot_tuple_add PySem.F.entry_tuple_add (PySem.F.args_tuple_add_2 _ _)
   (tuple_addW1 t b vs.toArray ws.toArray n n2 dd dd2 sl sl2 (by simpa using hv) (by simp[hw])) ⟨ho,ho2,h1 hw⟩
 ·refine concat_meets ⟨_,ho,rfl⟩ ⟨_,ho2,rfl⟩ noFill_tuple_add seq_tuple_add PySem.F.slot_tuple_add PySem.F.entry_tuple_add (PySem.F.args_tuple_add_2 _ _)
   (tuple_addW2 t b vs.toArray ws.toArray n n2 dd dd2 sl sl2 (by simpa using hv) (by simpa using hw) (by rw[q0e,q0e];exact hsz)) ⟨ho,ho2,?_⟩
  rw[e]
  exact h2 hw
def sIx (n d:Nat):Option Int→Nat
 |none=>d
 |some v=>if v<0 then (v+(n:Int)).toNat else min v.toNat n
theorem sIx_none (n d:Nat):sIx n d none=d:=rfl
theorem y5Y (n d:Nat) (hd:d≤n) (o:Option Int):sIx n d o≤n:=by
 cases o with
 |none=>exact hd
 |some v=>
  show (if v<0 then (v+(n:Int)).toNat else min v.toNat n)≤n
  by_cases hv:v<0
  ·rw[if_pos hv];lia
  ·rw[if_neg hv];exact Nat.min_le_right _ _
theorem y2x (v:Int) (n d:Nat):(if v<0 then max (v+(n:Int)) 0 else min v (n:Int))=((sIx n d (some v):Nat):Int):=by
 show (if v<0 then max (v+(n:Int)) 0 else min v (n:Int))=(((if v<0 then (v+(n:Int)).toNat else min v.toNat n):Nat):Int)
 by_cases hv:v<0
 ·simp only[if_pos hv];lia
 ·simp only[if_neg hv];lia
theorem y0i (lo hi:Option Int) (n:Nat):Builtin.Slice.sliceAdjust lo hi 1 (n:Int)=(((sIx n 0 lo:Nat):Int),((sIx n n hi:Nat):Int)):=by
 have h1:¬((1:Int)<0):=by lia
 unfold Builtin.Slice.sliceAdjust
 simp only[h1,if_false]
 refine Prod.ext ?_ ?_
 ·cases lo with
  |none=>rfl
  |some v=>exact y2x v n 0
 ·cases hi with
  |none=>rfl
  |some v=>exact y2x v n n
theorem z9I (i j:Nat):Builtin.Slice.slicePlaces (i:Int) (j:Int) 1=j - i:=by
 unfold Builtin.Slice.slicePlaces
 have h1:(1:Int)>0:=by lia
 simp only[h1,if_true,Int.ediv_one]
 split<;>lia
theorem z4Y {v:Value}{o:Option Int}{Q:Option Int→Shared→Prop} (p:IsPart v o) (h:Q o s):wpAny (model prog w) A (Builtin.Slice.slicePartIndex v) Q E s:=by
 cases p with
 |none=>exact slicePart_none h
 |int i t=>exact slicePart_int h
theorem z3D {sl:Addr}{vl vu:Value}{lo hi:Option Int}{n:Nat}{Q:Int×Int×Nat→Shared→Prop} (hs:s.heap.IsSliceOf sl vl vu .none) (pl:IsPart vl lo) (pu:IsPart vu hi)
 (h:Q (((sIx n 0 lo:Nat):Int),1,sIx n n hi - sIx n 0 lo) s):wpAny (model prog w) A (Builtin.Slice.sliceApplied (.ref sl) (pure (n:Int))) Q E s:=by
 obtain⟨os,hos,hcs,hds⟩:=id hs
 unfold Builtin.Slice.sliceApplied Builtin.Slice.sliceFields
 refine wpAny_bind (wpAny_bind (wpAny_field hos hds (x:=vl) rfl (wpAny_bind (wpAny_field hos hds (x:=vu) rfl (wpAny_bind (wpAny_field hos hds (x:= .none) rfl (wpAny_pure ?_)))))))
 refine wpAny_bind (slicePart_none ?_)
 show wpAny _ _ (if ((1:Int)==0)=true then _ else _) _ _ s
 rw[if_neg (by decide)]
 refine wpAny_bind (z4Y pl (wpAny_bind (z4Y pu (wpAny_bind (wpAny_pure ?_)))))
 show wpAny _ _ (match Builtin.Slice.sliceAdjust lo hi 1 (n:Int) with|(lo,hi)=>pure (lo,(1:Int),Builtin.Slice.slicePlaces lo hi 1)) _ _ s
 rw[y0i lo hi n]
 show wpAny _ _ (pure (((sIx n 0 lo:Nat):Int),(1:Int),Builtin.Slice.slicePlaces ((sIx n 0 lo:Nat):Int) ((sIx n n hi:Nat):Int) 1)) _ _ s
 rw[z9I]
 exact wpAny_pure h
theorem y3e (xs:Array Value) (i k:Nat):((List.range k).filterMap fun (m:Nat)=>xs[((i:Int)+(m:Int)*1).toNat]?).toArray =((xs.toList.drop i).take k).toArray :=by
 have e:(fun (m:Nat)=>xs[((i:Int)+(m:Int)*1).toNat]?)=fun m=>xs[i+m]? :=by
  funext m
  have:((i:Int)+(m:Int)*1).toNat =i+m:=by lia
  rw[this]
 rw[e]
 have:=pick_run xs i k
 rw[List.filterMap_map] at this
 have e2:((fun x=>xs[x]?)∘fun x=>i+x)=fun m=>xs[i+m]? :=rfl
 rw[e2] at this
 rw[this]
theorem getItem_tuple_cut {t sl:Addr}{items:Array Value}{vl vu:Value}{lo hi:Option Int}{Q:Value→Shared→Prop} (ht:IsTup s.heap t items) (hs:s.heap.IsSliceOf sl vl vu .none) (pl:IsPart vl lo) (pu:IsPart vu hi)
 (hw:¬(sIx items.size 0 lo=0∧sIx items.size items.size hi=items.size))
 (h:Q (.ref s.heap.objs.size) {s with heap:=s.heap.push {cls:= .type "tuple",data:= .seq ((items.toList.drop (sIx items.size 0 lo)).take (sIx items.size items.size hi - sIx items.size 0 lo)).toArray}})
 (hsz:items.size≤sizeLine):wpAny (model prog w) A (getItem (.ref t) (.ref sl)) Q E s:=by
 have htake:sizeOk (.seq ((items.toList.drop (sIx items.size 0 lo)).take (sIx items.size items.size hi - sIx items.size 0 lo)).toArray):=by
  show ((items.toList.drop (sIx items.size 0 lo)).take (sIx items.size items.size hi - sIx items.size 0 lo)).toArray.size ≤sizeLine
  rw[q0e,q0q,q2f,q0V]
  lia
 have hj:sIx items.size items.size hi≤items.size:=y5Y _ _ (q0k _) hi
 obtain⟨os,hos,hcs,hds⟩:=id hs
 have hTs:s.TypeIs (.ref sl) "slice":=⟨os,hos,hcs⟩
 unfold getItem
 try with_reducible refine wpAny_holding ?_
 first|refine wpAny_bind (wpAny_pure ?_)|skip
 refine wpAny_bind (wpAny_sequenceKey ht.typeIs (by decide) ?_)
 refine wpAny_bind (wpAny_callSpecial?_slot (name:=Str.ofString "__getitem__") ht.typeIs PyProof.Rows.slot_tuple_getitem
  (wpAny_call_entry PyProof.Rows.slot_tuple_getitem ht.typeIs entry_tuple_getitem ?_ (args_tuple_getitem _ _)))
 show wpAny _ _ (Builtin.Tuple.tupleItemsOf (.ref t)>>= _) _ _ s
 refine wpAny_bind (tupleItemsOf_ ht ?_)
 refine wpAny_bind (wpAny_typeOf hTs ?_)
 rw[if_pos (by decide)]
 refine wpAny_bind (z3D hs pl pu ?_)
 have hno:¬((((sIx items.size 0 lo:Nat):Int)==0&&(1:Int)==1&&(sIx items.size items.size hi - sIx items.size 0 lo)==items.size)=true):=by
  intro q
  rw[q1g,q1g] at q
  have q1:((sIx items.size 0 lo:Nat):Int)=0:=eq_of_beq q.1.1
  have q2:sIx items.size items.size hi - sIx items.size 0 lo=items.size:=eq_of_beq q.2
  exact hw ⟨by lia,by lia⟩
 show wpAny _ _ (if (((sIx items.size 0 lo:Nat):Int)==0&&(1:Int)==1&&(sIx items.size items.size hi - sIx items.size 0 lo)==items.size)=true then _ else _) _ _ s
 rw[if_neg hno,y3e]
 first
  |exact wpAny_bind (m:=Builtin.Tuple.tupleExact _) (wpAny_newObj_type (wpAny_pure ⟨_,rfl,wpAny_pure h⟩) htake)
  |exact wpAny_bind (m:=Builtin.Tuple.tupleExact _) (wpAny_newObj_type (wpAny_bind (wpAny_pure (wpAny_pure ⟨_,rfl,wpAny_pure h⟩))) htake)
  |exact wpAny_bind (wpAny_bind (m:=Builtin.Tuple.tupleExact _) (wpAny_newObj_type (wpAny_pure (wpAny_pure ⟨_,rfl,wpAny_pure h⟩)) htake))
  |exact wpAny_bind (wpAny_bind (m:=Builtin.Tuple.tupleExact _) (wpAny_newObj_type (wpAny_pure ⟨_,rfl,wpAny_pure h⟩) htake))
end
end HT
namespace L2
open PySem PySem.Spec PyProof.Rows
abbrev TO:=St→Hp→(Option Int→Hp→Prop)→Prop
def PO (X:Cx) (e:Option Expr) (t:TO):Prop:=
 ∀(pins:List (Addr×Obj)) (s:Shared) (σ:St) (H:Hp) (Q:Option Int→Hp→Prop),Inv X pins σ H s→t σ H Q→
  wpAny (model X.prog X.w) X.A (evalPart e X.env) (fun u s'=>∃o H',Inv X pins σ H' s'∧IsPart u o∧Q o H') X.xe s
def y4I:TO:=fun _ H Q=>Q none H
def tPart (t:TE):TO:=fun σ H Q=>t σ H fun x H1=>∃i,x= .int i∧Q (some i) H1
section
variable {X:Cx}{e:Expr}{te:TE}{lo hi:Option Expr}{tl th:TO}{pos p2:Pos}
theorem z1G:PO X none y4I:=by
 intro pins s σ H Q I h
 rw[evalPart_none]
 exact wpAny_pure ⟨none,H,I,.none,h⟩
theorem z1F (h:PE X e te):PO X (some e) (tPart te):=by
 intro pins s σ H Q I hw
 rw[evalPart_some]
 refine thn (h pins s σ H _ I hw) fun u s1 ⟨x,H1,I1,r1,q1⟩=>?_
 obtain⟨i,rfl,q⟩:=q1
 obtain⟨t,rfl⟩:=r1
 exact⟨some i,H1,I1,.int i t,q⟩
def SlR (X:Cx) (r:V→Option Int→Option Int→Hp→VK→Prop):Prop:=
 ∀(pins:List (Addr×Obj)) (s:Shared) (σ:St) (H:Hp) (x:V) (v vl vu:Value) (lo hi:Option Int) (sl:Addr) (Q:VK),Inv X pins σ H s→RelV x v→s.heap.IsSliceOf sl vl vu .none →IsPart vl lo→IsPart vu hi→r x lo hi H Q→
  ∃T id,typeLookup (.type T) "__getitem__"=pure (some (.builtin id))∧s.TypeIs v T∧wpAny (model X.prog X.w) X.A (getItem v (.ref sl)) (EP X pins σ Q) X.xe s
theorem SlR.or {r r':V→Option Int→Option Int→Hp→VK→Prop} (h:SlR X r) (h':SlR X r'):SlR X (fun x lo hi H Q=>r x lo hi H Q∨r' x lo hi H Q):=by
 intro pins s σ H x v vl vu lo hi sl Q I rx hs pl pu q
 rcases q with q|q
 ·exact h pins s σ H x v vl vu lo hi sl Q I rx hs pl pu q
 ·exact h' pins s σ H x v vl vu lo hi sl Q I rx hs pl pu q
def tSl (r:V→Option Int→Option Int→Hp→VK→Prop) (te:TE) (tl th:TO):TE:=fun σ H Q=>te σ H fun x H1=>tl σ H1 fun l H2=>th σ H2 fun u H3=>r x l u H3 Q
theorem z1l {r:V→Option Int→Option Int→Hp→VK→Prop} (hr:SlR X r) (he:PE X e te) (hl:PO X lo tl) (hu:PO X hi th):PE X (.Subscript e (.Slice lo hi none p2) pos) (tSl r te tl th):=by
 intro pins s σ H Q I h
 refine Subscript_ (thn (he pins s σ H _ I h) fun v s1 ⟨x,H1,I1,r1,q1⟩=>?_)
 refine wpAny_Slice (thn (hl pins s1 σ H1 _ I1 q1) fun vl s2 ⟨l,H2,I2,pl,q2⟩=>thn (hu pins s2 σ H2 _ I2 q2) fun vu s3 ⟨u,H3,I3,pu,q3⟩=>?_)
 rw[evalPart_none]
 refine wpAny_pure ?_
 have I4:Inv X pins σ H3 {s3 with heap:=s3.heap.push {cls:= .type "slice",data:= .fields #[vl,vu,.none]}}:=I3.kept (t':=s3.toks) fun b ob q=>q0d _ q
 obtain⟨T,id,hT,ht,hg⟩:=hr pins {s3 with heap:=s3.heap.push {cls:= .type "slice",data:= .fields #[vl,vu,.none]}} σ H3 x v vl vu l u s3.heap.objs.size Q I4 r1 (Heap.IsSliceOf.new ..) pl pu q3
 show wpAny (model X.prog X.w) X.A (subscriptTail e (.Slice lo hi none p2) v (.ref s3.heap.objs.size)) (EP X pins σ Q) X.xe {s3 with heap:=s3.heap.push {cls:= .type "slice",data:= .fields #[vl,vu,.none]}}
 exact tail_any (ops:=[.ref s3.heap.objs.size,v]) ht hT hg (by with_unfolding_all rfl)
def y2J (xs:List V) (lo hi:Option Int):List V:=(xs.drop (HT.sIx xs.length 0 lo)).take (HT.sIx xs.length xs.length hi - HT.sIx xs.length 0 lo)
theorem z4B (xs:List V) (lo hi:Option Int):(y2J xs lo hi).length ≤xs.length:=by
 unfold y2J
 rw[q0q,q2f]
 lia
def rSlT (K:PySem.W.Frag):V→Option Int→Option Int→Hp→VK→Prop:=fun x lo hi H Q=>∃a xs,x= .ref a∧SqT K H a xs∧
 ¬(HT.sIx xs.length 0 lo=0∧HT.sIx xs.length xs.length hi=xs.length)∧∀p,H p=none→Q (.ref p) (upd H p (.tup (y2J xs lo hi)))
theorem y5V:SlR X (rSlT X.K):=by
 intro pins s σ H x v vl vu lo hi sl Q I rx hs pl pu h
 obtain⟨a,xs,rfl,hx,hw,q⟩:=h
 cases rx
 obtain⟨its,r,ht,hz⟩:=I.tuple hx
 have hlen:its.toArray.size=xs.length:=by rw[q0e];exact r.length.symm
 refine⟨"tuple",_,PyProof.Rows.slot_tuple_getitem.lookup,ht.typeIs,?_⟩
 refine HT.getItem_tuple_cut ht hs pl pu (by rw[hlen];exact hw) ?_ (by rw[hlen];exact hz)
 rw[hlen]
 refine⟨.ref s.heap.objs.size,_,I.laid (t':=s.toks) (o:= .tup (y2J xs lo hi)) (fun b ob q=>q0d _ q) (q0k _) ?_,rfl,q _ (I.hok.fresh (q0k _))⟩
 exact⟨q0m (z4B xs lo hi) hz,_,(r.drop (HT.sIx xs.length 0 lo)).take (HT.sIx xs.length xs.length hi - HT.sIx xs.length 0 lo),IsTup.new _ _⟩
def rCatT (K:PySem.W.Frag):R2:=fun x y H Q=>∃a b xs ys,x= .ref a∧y= .ref b∧SqT K H a xs∧SqT K H b ys∧xs≠[]∧xs.length+ys.length≤sizeLine∧
 (ys=[]→Q (.ref a) H)∧(ys≠[]→∀p,H p=none→Q (.ref p) (upd H p (.tup (xs++ys))))
theorem Vals.nil_iff {xs:List V}{us:List Value} (r:Vals xs us):us=[]↔xs=[]:=by
 cases r with
 |nil=>simp
 |cons _ _=>simp
theorem y5f:OpR X (binaryOp .Add) (rCatT X.K):=by
 intro pins s σ H x y v u Q I rx ry h
 obtain⟨a,b,xs,ys,rfl,rfl,ha,hb,hx,hz,q1,q2⟩:=h
 cases rx
 cases ry
 obtain⟨its,r1,p1,_⟩:=I.tuple ha
 obtain⟨its2,r2,p2,_⟩:=I.tuple hb
 refine HT.cat_tup p1 p2 (fun z=>hx (r1.nil_iff.mp z)) (fun z=>⟨.ref a,H,I,rfl,q1 (r2.nil_iff.mp z)⟩) (fun z=>?_) (by rw[←r1.length,←r2.length];exact hz)
 refine⟨.ref s.heap.objs.size,_,I.laid (t':=s.toks) (o:= .tup (xs++ys)) (fun b ob q=>q0d _ q) (q0k _) ?_,rfl,q2 (fun w=>z (r2.nil_iff.mpr w)) _ (I.hok.fresh (q0k _))⟩
 exact⟨by rw[q0l];exact hz,_,r1.append r2,IsTup.new _ _⟩
end
end L2
namespace L2
open PySem PySem.Spec PyProof.Rows
def ixN (n:Nat) (i:Int):Option Nat:=if 0≤i then (if i<n then some i.toNat else none) else if -(n:Int)≤i then some (i+n).toNat else none
def atI {α:Type} (xs:List α) (i:Int):Option α:=(ixN xs.length i).bind fun j=>xs[j]?
theorem y1N {n:Nat}{i:Int}{j:Nat} (h:ixN n i=some j):seqIndex? i n=some j∧j<n∧ -(n:Int)≤i∧i<n:=by
 unfold ixN at h
 by_cases h0:0≤i
 ·rw[if_pos h0] at h
  by_cases h1:i<n
  ·rw[if_pos h1] at h
   have e:i.toNat=j:=Option.some.inj h
   exact⟨by rw[seqIndex_of h0 h1,e],by lia,by lia,h1⟩
  ·rw[if_neg h1] at h;cases h
 ·rw[if_neg h0] at h
  by_cases h1: -(n:Int)≤i
  ·rw[if_pos h1] at h
   have e:(i+n).toNat =j:=Option.some.inj h
   exact⟨by rw[seqIndex_neg (by lia) h1,e],by lia,h1,by lia⟩
  ·rw[if_neg h1] at h;cases h
theorem y2C {α:Type}{xs:List α}{i:Int}{v:α} (h:atI xs i=some v):∃j,seqIndex? i xs.length=some j∧xs[j]? =some v∧j<xs.length∧ -(xs.length:Int)≤i∧i<xs.length:=by
 unfold atI at h
 cases e:ixN xs.length i with
 |none=>rw[e] at h;cases h
 |some j=>
  rw[e] at h
  obtain⟨h1,h2,h3,h4⟩:=y1N e
  exact⟨j,h1,h,h2,h3,h4⟩
theorem z3y {α:Type}{xs:List α}{j:Nat}{v:α} (h:xs[j]? =some v):atI xs (j:Int)=some v:=by
 have hj:j<xs.length:=(q0y.mp h).1
 have e:ixN xs.length (j:Int)=some j:=by
  unfold ixN
  rw[if_pos (by lia),if_pos (by lia)];simp
 unfold atI;rw[e];exact h
theorem z2w {α:Type} (xs:List α) (v:α):atI (xs++[v]) (-1)=some v:=by
 have hl:(xs++[v]).length =xs.length+1:=by simp
 have e:ixN (xs++[v]).length (-1)=some xs.length:=by
  unfold ixN
  rw[hl,if_neg (by decide),if_pos (by lia)]
  congr 1
  lia
 unfold atI
 rw[e]
 show (xs++[v])[xs.length]? =some v
 simp
def y5C (b:Expr):Prop:=∀o i,subscripted b false o i=operate [o,i] (getItem o i)
def IxR (X:Cx) (r:R2):Prop:=
 ∀(value slice:Expr) (pins:List (Addr×Obj)) (s:Shared) (σ:St) (H:Hp) (x y:V) (v u:Value) (Q:VK),Inv X pins σ H s→RelV x v→RelV y u→r x y H Q→
  subscripted slice false v u=operate [v,u] (getItem v u)→wpAny (model X.prog X.w) X.A (subscriptTail value slice v u) (EP X pins σ Q) X.xe s
def MtR (X:Cx) (id:String) (r:V→List V→Hp→VK→Prop):Prop:=
 ∀(pins:List (Addr×Obj)) (s:Shared) (σ:St) (H:Hp) (x:V) (xs:List V) (v:Value) (us:List Value) (Q:VK),Inv X pins σ H s→RelV x v→Vals xs us→r x xs H Q→
  wpAny (model X.prog X.w) X.A (call (.builtin id) (v::us)) (EP X pins σ Q) X.xe s
section
variable {X:Cx}{a b:Expr}{ta tb:TE}{pos:Pos}
theorem IxR.or {r r':R2} (h:IxR X r) (h':IxR X r'):IxR X (fun x y H Q=>r x y H Q∨r' x y H Q):=by
 intro value slice pins s σ H x y v u Q I rx ry q hs
 rcases q with q|q
 ·exact h value slice pins s σ H x y v u Q I rx ry q hs
 ·exact h' value slice pins s σ H x y v u Q I rx ry q hs
theorem z0T {r:R2} (hr:IxR X r) (ha:PE X a ta) (hb:PE X b tb) (hs:y5C b):PE X (.Subscript a b pos) (tOp r ta tb):=by
 intro pins s σ H Q I h
 exact Subscript_ (binT ha hb I h fun v u s2 x y H2 I2 rx ry q=>hr a b pins s2 σ H2 x y v u Q I2 rx ry q (hs _ _))
def rIxL (K:PySem.W.Frag):R2:=fun x y H Q=>∃p xs i v,x= .ref p∧y= .int i∧SqL K H p xs∧atI xs i=some v∧Q v H
def rIxT (K:PySem.W.Frag):R2:=fun x y H Q=>∃p xs i v,x= .ref p∧y= .int i∧SqT K H p xs∧atI xs i=some v∧Q v H
theorem y1M:IxR X (rIxL X.K):=by
 intro value slice pins s σ H x y v u Q I rx ry h hs
 obtain⟨p,xs,i,z,rfl,rfl,hq,he,q⟩:=h
 cases rx
 obtain⟨t,rfl⟩:=ry
 obtain⟨its,r,pl,hz⟩:=I.list hq
 obtain⟨j,h1,h2,h3,h4,h5⟩:=y2C he
 obtain⟨w,ew,rw'⟩:=r.get h2
 have hl:=r.length
 have hn:=z8U
 have fin:EP X pins σ Q w s:=⟨z,H,I,rw',q⟩
 by_cases h0:0≤i
 ·have hj:i.toNat=j:=by
   rw[seqIndex_of h0 h5] at h1
   exact Option.some.inj h1
  exact item_listR pl.isList h0 (by lia) (by rw[hj];simpa using ew) fin hs
 ·have hj:(i+(its.toArray.size:Int)).toNat =j:=by
   rw[seqIndex_neg (by lia) h4] at h1
   rw[q0e,←hl]
   exact Option.some.inj h1
  exact subscriptTail_builtinR (x:=w) pl.isList.typeIs slot_list_getitem.lookup
   (wpAny_getItem_list_neg (Q:=fun r s'=>r=w∧EP X pins σ Q r s') pl.isList (by lia) (by rw[q0e]<;>lia) (by lia) (by rw[hj];simpa using ew) ⟨rfl,fin⟩) hs
theorem y4d:IxR X (rIxT X.K):=by
 intro value slice pins s σ H x y v u Q I rx ry h hs
 obtain⟨p,xs,i,z,rfl,rfl,hq,he,q⟩:=h
 cases rx
 obtain⟨t,rfl⟩:=ry
 obtain⟨its,r,pl,hz⟩:=I.tuple hq
 obtain⟨j,h1,h2,h3,h4,h5⟩:=y2C he
 obtain⟨w,ew,rw'⟩:=r.get h2
 have hl:=r.length
 have hn:=z8U
 have fin:EP X pins σ Q w s:=⟨z,H,I,rw',q⟩
 exact subscriptTail_builtinR (x:=w) pl.typeIs slot_tuple_getitem.lookup
  (getItem_tuple (j:=j) (Q:=fun r s'=>r=w∧EP X pins σ Q r s') pl (by lia) (by lia) (by rw[q0e,←hl];exact h1) (by simpa using ew) ⟨rfl,fin⟩) hs
theorem z9U (its:List Value) (n j:Nat) (u:Value):Obj.mapSeq (·.setIfInBounds j u) {cls:= .type "list",data:= .seq its.toArray n}={cls:= .type "list",data:= .seq (its.set j u).toArray n}:=by
 simp[Obj.mapSeq]
theorem Inv.lst {pins:List (Addr×Obj)}{σ:St}{H:Hp}{s:Shared}{p:Addr}{xs:List V} (I:Inv X pins σ H s) (h:H p=some (.lst xs)):
 ∃(its:List Value) (n:Nat),Vals xs its∧s.heap.get? p=some {cls:= .type "list",data:= .seq its.toArray n}∧xs.length≤sizeLine:=by
 obtain⟨z,its,n,r,e⟩:=I.hok p _ h
 exact⟨its,n,r,e,z⟩
theorem Inv.lstUpd {pins:List (Addr×Obj)}{σ:St}{H:Hp}{s:Shared}{p:Addr}{xs ys:List V}{its its':List Value}{n n':Nat}{f:Obj→Obj} (I:Inv X pins σ H s) (h:H p=some (.lst xs))
 (ho:s.heap.get? p=some {cls:= .type "list",data:= .seq its.toArray n}) (hf:f {cls:= .type "list",data:= .seq its.toArray n}={cls:= .type "list",data:= .seq its'.toArray n'}) (r:Vals ys its') (hz:ys.length≤sizeLine) (t:Nat):
 Inv X pins σ (upd H p (.lst ys)) {s with heap:=s.heap.update p f,toks:=t}:=by
 have e:(s.heap.update p f).get? p=some {cls:= .type "list",data:= .seq its'.toArray n'}:=by
  rw[q1S f ho (by rw[hf]<;>rfl),hf]
 refine I.write (x:=p) (e:=p) (by rw[h];trivial) (.inl rfl) (fun b u hb q=>(q0N _ _ (Ne.symm hb)).trans q) ⟨_,e⟩ ?_
 exact⟨hz,its',n',r,e⟩
def rSetL:V→V→V→Hp→(Hp→Prop)→Prop:=fun o i v H Q=>∃p xs k j,o= .ref p∧i= .int k∧H p=some (.lst xs)∧ixN xs.length k=some j∧Q (upd H p (.lst (xs.set j v)))
theorem z1A:PSet X rSetL:=by
 intro pins s σ H o i v ov iv u Q I ro ri rv h
 obtain⟨p,xs,k,j,rfl,rfl,hp,hj,q⟩:=h
 cases ro
 obtain⟨t,rfl⟩:=ri
 obtain⟨its,n,r,ho,hz⟩:=I.lst hp
 obtain⟨h1,h2,h3,h4⟩:=y1N hj
 have hl:=r.length
 have hn:=z8U
 have I':Inv X pins σ (upd H p (.lst (xs.set j v))) {s with heap:=s.heap.update p (Obj.mapSeq (·.setIfInBounds j u))}:=
  I.lstUpd hp ho (z9U its n j u) (r.set rv j) (by rw[q1K];exact hz) s.toks
 by_cases h0:0≤k
 ·have hk:k.toNat=j:=by
   rw[seqIndex_of h0 h4] at h1
   exact Option.some.inj h1
  exact PySem.W.ki_setAt ho h0 (by lia) (by rw[q0e,←hl];exact h4) (by rw[hk];exact⟨_,I',q⟩)
 ·have hk:(k+(its.toArray.size:Int)).toNat =j:=by
   rw[seqIndex_neg (by lia) h3] at h1
   rw[q0e,←hl]
   exact Option.some.inj h1
  exact PySem.W.ki_setBack ho (by lia) (by rw[q0e,←hl];exact h3) (by lia) (by rw[hk];exact⟨_,I',q⟩)
theorem z6B (lo hi:Option Int) (n:Nat):(sliceBounds lo hi none n).1 =((HT.sIx n 0 lo:Nat):Int)∧(sliceBounds lo hi none n).2.1 =((HT.sIx n n hi:Nat):Int)∧(sliceBounds lo hi none n).2.2 =1:=by
 refine⟨?_,?_,rfl⟩
 ·cases lo with
  |none=>simp[sliceBounds,HT.sIx]
  |some i=>
   simp only[sliceBounds,HT.sIx,Option.getD_none,show (1:Int)>0 by decide,if_true]
   by_cases h:i<0
   ·simp only[h,if_true]<;>lia
   ·simp only[h,if_false]<;>lia
 ·cases hi with
  |none=>simp[sliceBounds,HT.sIx]
  |some i=>
   simp only[sliceBounds,HT.sIx,Option.getD_none,show (1:Int)>0 by decide,if_true]
   by_cases h:i<0
   ·simp only[h,if_true]<;>lia
   ·simp only[h,if_false]<;>lia
theorem z5u (its:List Value) (lo hi:Option Int):slicePick its.toArray lo hi none=((its.drop (HT.sIx its.length 0 lo)).take (HT.sIx its.length its.length hi - HT.sIx its.length 0 lo)).toArray :=by
 obtain⟨h1,h2,h3⟩:=z6B lo hi its.toArray.size
 unfold slicePick
 rw[h1,h2,h3]
 simp only[sliceRange_one,pick_run,q0e]<;>rfl
def rSlL (K:PySem.W.Frag):V→Option Int→Option Int→Hp→VK→Prop:=fun x lo hi H Q=>∃a xs,x= .ref a∧SqL K H a xs∧∀p,H p=none→Q (.ref p) (upd H p (.lst (y2J xs lo hi)))
theorem y0G:SlR X (rSlL X.K):=by
 intro pins s σ H x v vl vu lo hi sl Q I rx hs pl pu h
 obtain⟨a,xs,rfl,hx,q⟩:=h
 cases rx
 obtain⟨its,r,ht,hz⟩:=I.list hx
 have hlen:=r.length
 refine⟨"list",_,slot_list_getitem.lookup,ht.isList.typeIs,?_⟩
 refine wpAny_getItem_list_slice ht.isList hs pl pu .none (by simp) ?_ (by rw[q0e]<;>lia)
 rw[z5u,←hlen]
 refine⟨.ref s.heap.objs.size,_,I.laid (t':=s.toks) (o:= .lst (y2J xs lo hi)) (fun b ob q=>q0d _ q) (q0k _) ?_,rfl,q _ (I.hok.fresh (q0k _))⟩
 exact⟨q0m (z4B xs lo hi) hz,_,0,(r.drop (HT.sIx xs.length 0 lo)).take (HT.sIx xs.length xs.length hi - HT.sIx xs.length 0 lo),q0o _ rfl⟩
def z4L:V→Bool
 | .non =>true
 | .bl _=>true
 | .int _=>true
 | .str _=>true
 |_=>false
def eqV:V→V→Bool
 | .non,.non =>true
 | .bl a,.bl b=>a==b
 | .bl a,.int b=>(if a then 1 else 0)==b
 | .int a,.bl b=>a==(if b then 1 else 0)
 | .int a,.int b=>a==b
 | .str a,.str b=>a==b
 |_,_=>false
theorem y6Q {A:Around}{s:Shared}{y x:V}{u v:Value} (ry:RelV y u) (rx:RelV x v) (fy:z4L y=true) (fx:z4L x=true):SeqAt.EqAt A s u v (eqV y x):=by
 cases y with
 |non=>
  cases ry
  cases x with
  |non=>cases rx;exact SeqAt.EqAt.same _
  |bl b=>cases rx;exact SeqAt.EqAt.none_bool b
  |int b=>obtain⟨t,rfl⟩:=rx;exact SeqAt.EqAt.none_int b t
  |str b=>obtain⟨t,rfl⟩:=rx;exact SeqAt.EqAt.none_str b t
  |_=>exact absurd (show false=true from fx) Bool.false_ne_true
 |bl a=>
  cases ry
  cases x with
  |non=>cases rx;exact SeqAt.EqAt.bool_none a
  |bl b=>cases rx;exact SeqAt.EqAt.bool_bool a b
  |int b=>obtain⟨t,rfl⟩:=rx;exact SeqAt.EqAt.bool_int a b t
  |str b=>obtain⟨t,rfl⟩:=rx;exact SeqAt.EqAt.bool_str a b t
  |_=>exact absurd (show false=true from fx) Bool.false_ne_true
 |int a=>
  obtain⟨t',rfl⟩:=ry
  cases x with
  |non=>cases rx;exact SeqAt.EqAt.int_none a t'
  |bl b=>cases rx;exact SeqAt.EqAt.int_bool a t' b
  |int b=>obtain⟨t,rfl⟩:=rx;exact SeqAt.EqAt.int_int a t' b t
  |str b=>obtain⟨t,rfl⟩:=rx;exact SeqAt.EqAt.int_str a t' b t
  |_=>exact absurd (show false=true from fx) Bool.false_ne_true
 |str a=>
  obtain⟨t',rfl⟩:=ry
  cases x with
  |non=>cases rx;exact SeqAt.EqAt.str_none a t'
  |bl b=>cases rx;exact SeqAt.EqAt.str_bool a t' b
  |int b=>obtain⟨t,rfl⟩:=rx;exact SeqAt.EqAt.str_int a t' b t
  |str b=>obtain⟨t,rfl⟩:=rx;exact SeqAt.EqAt.str_str a t' b t
  |_=>exact absurd (show false=true from fx) Bool.false_ne_true
 |_=>exact absurd (show false=true from fy) Bool.false_ne_true
def eqU (x:V) (u:Value):Bool:=match u with
 | .none =>eqV .non x
 | .bool b=>eqV (.bl b) x
 | .int i _=>eqV (.int i) x
 | .str z _=>eqV (.str z) x
 |_=>false
theorem y4k {x y:V}{u:Value} (r:RelV y u) (f:z4L y=true):eqU x u=eqV y x:=by
 cases y with
 |non=>cases r;rfl
 |bl b=>cases r;rfl
 |int i=>obtain⟨t,rfl⟩:=r;rfl
 |str z=>obtain⟨t,rfl⟩:=r;rfl
 |_=>exact absurd (show false=true from f) Bool.false_ne_true
theorem z4E {x:V}:∀{xs:List V}{us:List Value},Vals xs us→xs.all z4L=true→us.any (eqU x)=xs.any fun y=>eqV y x
 |_,_,.nil,_=>rfl
 |y::xs,u::us,.cons r t,f=>by
  rw[List.all_cons,q1g] at f
  rw[List.any_cons,List.any_cons,y4k r f.1,z4E t f.2]
theorem z3a {A:Around}{s:Shared}{x:V}{v:Value} (rx:RelV x v) (fx:z4L x=true):∀{xs:List V}{us:List Value},Vals xs us→xs.all z4L=true→∀u∈us,SeqAt.EqAt A s u v (eqU x u)
 |_,_,.nil,_=>fun u hu=>by cases hu
 |y::xs,u::us,.cons r t,f=>fun u' hu=>by
  rw[List.all_cons,q1g] at f
  rcases q0t.mp hu with rfl|hu
  ·rw[y4k r f.1];exact y6Q r rx f.1 fx
  ·exact z3a rx fx t f.2 u' hu
def inV (x:V) (xs:List V):Bool:=xs.any fun y=>eqV y x
def rIn (K:PySem.W.Frag) (neg:Bool):R2:=fun x y H Q=>∃p xs,y= .ref p∧(SqL K H p xs∨SqT K H p xs)∧z4L x=true∧xs.all z4L=true∧Q (.bl (if neg then !inV x xs else inV x xs)) H
theorem y1j:OpR X (compareOp .In) (rIn X.K false):=by
 intro pins s σ H x y v u Q I rx ry h
 obtain⟨p,xs,rfl,hq,fx,fs,q⟩:=h
 cases ry
 rcases hq with hq|hq
 ·obtain⟨its,r,pl,hz⟩:=I.list hq
  refine SeqAt.in_listAt (eqU x) pl.isList (fun w hw=>z3a rx fx r fs w (by simpa using hw)) ⟨.bl _,H,I,rfl,?_⟩
  rw[show its.toArray.any (eqU x)=its.any (eqU x) by simp,z4E r fs]
  exact q
 ·obtain⟨its,r,pl,hz⟩:=I.tuple hq
  refine SeqAt.in_tupleAt (eqU x) pl (fun w hw=>z3a rx fx r fs w (by simpa using hw)) ⟨.bl _,H,I,rfl,?_⟩
  rw[show its.toArray.any (eqU x)=its.any (eqU x) by simp,z4E r fs]
  exact q
theorem z6M:OpR X (compareOp .NotIn) (rIn X.K true):=by
 intro pins s σ H x y v u Q I rx ry h
 obtain⟨p,xs,rfl,hq,fx,fs,q⟩:=h
 cases ry
 rcases hq with hq|hq
 ·obtain⟨its,r,pl,hz⟩:=I.list hq
  refine SeqAt.notIn_listAt (eqU x) pl.isList (fun w hw=>z3a rx fx r fs w (by simpa using hw)) ⟨.bl _,H,I,rfl,?_⟩
  rw[show its.toArray.any (eqU x)=its.any (eqU x) by simp,z4E r fs]
  exact q
 ·obtain⟨its,r,pl,hz⟩:=I.tuple hq
  refine SeqAt.notIn_tupleAt (eqU x) pl (fun w hw=>z3a rx fx r fs w (by simpa using hw)) ⟨.bl _,H,I,rfl,?_⟩
  rw[show its.toArray.any (eqU x)=its.any (eqU x) by simp,z4E r fs]
  exact q
theorem z7g:z1x X (.builtin "len") (fun xs H Q=>∃p ys,xs=[.ref p]∧(SqL X.K H p ys∨SqT X.K H p ys)∧Q (.int ys.length) H):=by
 intro pins s σ H xs us Q I r h
 obtain⟨p,ys,rfl,hq,q⟩:=h
 obtain⟨u,rfl,rx⟩:=z9t r
 cases rx
 have hn:=z8U
 rcases hq with hq|hq
 ·obtain⟨its,r',pl,hz⟩:=I.list hq
  have hlen:=r'.length
  exact Calls.call_len_list pl.isList (by simp only[q0e]<;>lia) ⟨.int ys.length,H,I.tok _,⟨s.toks+1,by rw[q0e,hlen]⟩,q⟩
 ·obtain⟨its,r',pl,hz⟩:=I.tuple hq
  have hlen:=r'.length
  exact len_tuple pl (by simp only[q0e]<;>lia) ⟨.int ys.length,H,I.tok _,⟨s.toks+1,by rw[q0e,hlen]⟩,q⟩
theorem z7f:z1x X (.type "list") (fun xs H Q=>∃p ys,xs=[.ref p]∧(SqL X.K H p ys∨SqT X.K H p ys)∧∀l,H l=none→Q (.ref l) (upd H l (.lst ys))):=by
 intro pins s σ H xs us Q I r h
 obtain⟨p,ys,rfl,hq,q⟩:=h
 obtain⟨u,rfl,rx⟩:=z9t r
 cases rx
 have fin:∀(its:List Value),Vals ys its→ys.length≤sizeLine→∀(h':Heap) (c':Nat),(∀b o',s.heap.get? b=some o'→h'.get? b=some o')→
  h'.get? s.heap.objs.size=some {cls:= .type "list",dict:=none,data:= .seq its.toArray c',slots:= #[]}→EP X pins σ Q (.ref s.heap.objs.size) {s with heap:=h'}:=fun its r' hz h' c' kp e=>
  ⟨.ref s.heap.objs.size,_,I.laid (t':=s.toks) kp (q0k _) (show ObjOk X.prog X.w _ h' _ (.lst ys) from⟨hz,its,c',r',e⟩),rfl,q _ (I.hok.fresh (q0k _))⟩
 rcases hq with hq|hq
 ·obtain⟨its,r',pl,hz⟩:=I.list hq
  have hlen:=r'.length
  obtain⟨o,ho,hc,n,hd⟩:=pl.isList
  exact call_list_seq p (.inl rfl) ho hc hd (fun h' c' kp e=>fin its r' hz h' c' kp e) (by simp only[q0e]<;>lia)
 ·obtain⟨its,r',pl,hz⟩:=I.tuple hq
  have hlen:=r'.length
  obtain⟨o,ho,hc,n,hd⟩:=pl
  exact call_list_seq p (.inr rfl) ho hc hd (fun h' c' kp e=>fin its r' hz h' c' kp e) (by simp only[q0e]<;>lia)
theorem z6i:z1x X (.type "tuple") (fun xs H Q=>∃p ys,xs=[.ref p]∧((SqL X.K H p ys∧∀l,H l=none→Q (.ref l) (upd H l (.tup ys)))∨(SqT X.K H p ys∧Q (.ref p) H))):=by
 intro pins s σ H xs us Q I r h
 obtain⟨p,ys,rfl,h⟩:=h
 obtain⟨u,rfl,rx⟩:=z9t r
 cases rx
 rcases h with⟨hq,q⟩|⟨hq,q⟩
 ·obtain⟨its,r',pl,hz⟩:=I.list hq
  have hlen:=r'.length
  refine call_tuple_list pl.isList (fun h' kp=>?_) (by simp only[q0e]<;>lia)
  have I1:Inv X pins σ H {s with heap:=h'}:=I.kept (t':=s.toks) kp
  have I2:Inv X pins σ (upd H h'.objs.size (.tup ys)) {s with heap:=h'.push {cls:= .type "tuple",data:= .seq its.toArray}}:=
   I1.laid (t':=s.toks) (fun b o e=>q0d _ e) (q0k _) (show ObjOk X.prog X.w _ _ _ (.tup ys) from⟨hz,its,r',IsTup.new _ _⟩)
  exact⟨.ref h'.objs.size,_,I2,rfl,q _ (I1.hok.fresh (q0k _))⟩
 ·obtain⟨its,r',pl,hz⟩:=I.tuple hq
  exact call_tuple_same pl ⟨.ref p,H,I,rfl,q⟩
def tyV (K:PySem.W.Frag) (T:String) (x:V) (H:Hp):Prop:=match x with
 | .str _=>T="str"
 | .int _=>T="int"
 | .ref p=>(T="list"∧∃xs,SqL K H p xs)∨(T="tuple"∧∃o,K.lookup p=some o∧o.cls= .type "tuple"∧o.dict=none)∨
  (T="dict"∧((∃kvs,H p=some (.dK kvs))∨∃kvs,H p=some (.dT kvs)))∨(T="set"∧∃S n,H p=some (.set S n))
 |_=>False
theorem y5J {pins:List (Addr×Obj)}{σ:St}{H:Hp}{s:Shared}{T:String}{x:V}{v:Value} (I:Inv X pins σ H s) (r:RelV x v) (ty:tyV X.K T x H):
 s.TypeIs v T∧∀a,v= .ref a→∃ob,s.heap.get? a=some ob∧ob.dict=none:=by
 cases x with
 |str z=>
  obtain⟨t,rfl⟩:=r
  cases (show T="str" from ty)
  exact⟨typeIs_str s z t,fun _ e=>nomatch e⟩
 |int i=>
  obtain⟨t,rfl⟩:=r
  cases (show T="int" from ty)
  exact⟨typeIs_int s i t,fun _ e=>nomatch e⟩
 |ref p=>
  cases r
  rcases ty with⟨rfl,xs,hq⟩|⟨rfl,o,hk,hc,hd⟩|⟨rfl,hk⟩|⟨rfl,S,n,hk⟩
  ·obtain⟨its,_,pl,_⟩:=I.list hq
   refine⟨pl.isList.typeIs,fun a e=>?_⟩
   cases e
   obtain⟨o,n,e,c,hd,_⟩:=pl
   exact⟨o,e,hd⟩
  ·refine⟨⟨o,I.kIn p o hk,hc⟩,fun a e=>?_⟩
   cases e
   exact⟨o,I.kIn _ o hk,hd⟩
  ·have z:∃o,s.heap.get? p=some o∧o.ExactDict:=by
      rcases hk with⟨kvs,hk⟩|⟨kvs,hk⟩
      ·obtain⟨_,_,_,_,o,_,_,e,ex,_⟩:=I.hok p _ hk
       exact⟨o,e,ex⟩
      ·obtain⟨_,_,_,_,o,_,_,e,ex,_⟩:=I.hok p _ hk
       exact⟨o,e,ex⟩
   obtain⟨o,e,ex⟩:=z
   refine⟨⟨o,e,ex.1⟩,fun a e2=>?_⟩
   cases e2
   exact⟨o,e,ex.2.1⟩
  ·obtain⟨o,_,_,_,e,ex,_⟩:=I.hok p _ hk
   refine⟨⟨o,e,ex.1⟩,fun a e2=>?_⟩
   cases e2
   exact⟨o,e,ex.2.1⟩
 |_=>exact False.elim ty
def tBM (K:PySem.W.Frag) (T:String) (r:V→List V→Hp→VK→Prop) (to:TE) (t:TA):TE:=fun σ H Q=>to σ H fun x H1=>tyV K T x H1∧t σ H1 fun xs H2=>r x xs H2 Q
variable {o e:Expr}{es:List Expr}{to:TE}{t:TA}{name:Str}{apos cpos:Pos}{T id:String}{r:V→List V→Hp→VK→Prop}
theorem z6K (pa:PlainAttrs T) (slot:Slot T name id) (hty:typeOf (.builtin id)=pure (.type "method_descriptor")) (hm:MtR X id r) (ho:PE X o to) (ha:PA X (e::es) t)
 (hbase:attributeBase o name X.env (eval o X.env)=eval o X.env:=by rfl)
 (hfew:((backTo cpos (starEach (e::es) X.env)).all (fun x=> !x.1)&&(backToKw cpos (keywordEach [] X.env)).all (fun x=>x.1.isSome)
  &&decide ((e::es).length +([]:List Keyword).length +(if ([]:List Keyword).isEmpty then 0 else 1)<30))=true:=by rfl)
 (hline:(apos.endLine==cpos.line)=true:=by rfl) (hs:starEach (e::es) X.env=(false,eval e X.env)::starEach es X.env:=by rfl) (hplain:(backTo cpos (starEach es X.env)).any (·.1)=false:=by rfl):
 PE X (.Call (.Attribute o name apos) (e::es) [] cpos) (tBM X.K T r to t):=by
 intro pins s σ H Q I h
 refine wpAny_Call_method_late hbase hfew hline rfl (thn (ho pins s σ H _ I h) fun v s1 ⟨x,H1,I1,r1,ty,q1⟩=>?_)
 obtain⟨h1,h2⟩:=y5J I1 r1 ty
 refine⟨T,id,pa,slot,hty,h1,h2,?_⟩
 have hA:=ha cpos pins s1 σ H1 _ I1 q1
 rw[hs] at hA ⊢
 refine Calls.callWith_builtin (by show (false || (backTo cpos (starEach es X.env)).any (·.1))=false;rw[hplain]<;>rfl) (Calls.evalArgs_plain ?_)
 exact thn hA fun us s2 ⟨vs,H2,I2,r2,q2⟩=>hm pins s2 σ H2 x vs v us Q I2 r1 r2 q2
end
end L2
namespace L2
open PySem PySem.Spec PyProof.Rows
def MtM (X:Cx) (id:String) (r:V→List V→Hp→VK→Prop):Prop:=
 ∀(pins:List (Addr×Obj)) (s:Shared) (σ:St) (H:Hp) (x:V) (xs:List V) (v:Value) (us:List Value) (Q:VK),Inv X pins σ H s→RelV x v→Vals xs us→r x xs H Q→
  wpAny (model X.prog X.w) X.A (call (.builtin id) (v::us)) (EP X pins σ Q) X.xe s
theorem Vals.one:∀{x:V}{us:List Value},Vals [x] us→∃u,us=[u]∧RelV x u
 |_,_,.cons r .nil =>⟨_,rfl,r⟩
theorem Vals.rep {xs:List V}{us:List Value} (h:Vals xs us):∀k:Nat,Vals (List.replicate k xs).flatten (List.replicate k us).flatten
 |0=> .nil
 |k+1=>by
  rw[q1p,q1p,List.flatten_cons,List.flatten_cons]
  exact Vals.append h (Vals.rep h k)
theorem z7a (its:List Value):∀(k:Nat) (acc:List Value),
 List.foldl (fun x1 x2=>x1++x2) acc.toArray (List.replicate k its.toArray)=(acc++(List.replicate k its).flatten).toArray
 |0,acc=>by simp
 |k+1,acc=>by
  have e:acc.toArray++its.toArray=(acc++its).toArray :=by simp
  have e2:(acc++its)++(List.replicate k its).flatten =acc++(List.replicate (k+1) its).flatten :=by
   rw[q1p,List.flatten_cons,q1h]
  rw[←e2,←z7a its k (acc++its),←e,q1p,q2b]
section
variable {X:Cx}{pins:List (Addr×Obj)}{σ:St}{H:Hp}{s:Shared}{l b:Addr}{xs ys zs:List V}
theorem Inv.lset {its its':List Value}{n:Nat}{f:Array Value→Array Value}{t':Nat} (I:Inv X pins σ H s) (hH:H l=some (.lst xs))
 (e:s.heap.get? l=some {cls:= .type "list",data:= .seq its.toArray n}) (hf:f its.toArray=its'.toArray) (hv:Vals ys its') (hz:ys.length≤sizeLine):
 Inv X pins σ (upd H l (.lst ys)) {s with heap:=s.heap.update l (Obj.mapSeq f),toks:=t'}:=by
 have q:=PySem.IsL.update e f
 rw[hf] at q
 refine I.write (x:=l) (e:=l) (by rw[hH];exact trivial) (.inl rfl) (fun b' u hb hu=>(q0N s.heap (Obj.mapSeq f) (Ne.symm hb)).trans hu) ⟨_,q⟩ ?_
 exact⟨hz,its',_,hv,q⟩
theorem Inv.lnew {its:List Value}{t':Nat} (I:Inv X pins σ H s) (hv:Vals ys its) (hz:ys.length≤sizeLine):
 Inv X pins σ (upd H s.heap.objs.size (.lst ys)) {s with heap:=s.heap.push {cls:= .type "list",data:= .seq its.toArray},toks:=t'}:=
 I.laid (fun _ _ q=>q0d _ q) (q0k _) ⟨hz,its,0,hv,q0o _ rfl⟩
theorem Inv.fresh (I:Inv X pins σ H s):H s.heap.objs.size=none:=I.hok.fresh (q0k _)
theorem Inv.lstM (I:Inv X pins σ H s) (hH:H l=some (.lst xs)):xs.length≤sizeLine∧∃(its:List Value) (n:Nat),Vals xs its∧xs.length=its.length∧s.heap.get? l=some {cls:= .type "list",data:= .seq its.toArray n}:=by
 obtain⟨z,its,n,r,e⟩:=I.hok l _ hH
 exact⟨z,its,n,r,r.length,e⟩
theorem z8N {n:Nat} (h:n≤sizeLine):Builtin.List.listTooLong n=false:=by
 unfold Builtin.List.listTooLong
 exact decide_eq_false (by lia)
end
section
variable {X:Cx}
def y4S:V→List V→Hp→VK→Prop:=fun x vs H Q=>∃l xs y,x= .ref l∧vs=[y]∧H l=some (.lst xs)∧xs.length<sizeLine∧Q .non (upd H l (.lst (xs++[y])))
theorem z1n:MtM X "list.append" y4S:=by
 intro pins s σ H x vs v us Q I rx rv h
 obtain⟨l,xs,y,rfl,rfl,hH,hz,q⟩:=h
 cases rx
 obtain⟨u,rfl,ru⟩:=rv.one
 obtain⟨z,its,n,r,hl,e⟩:=I.lstM hH
 refine call_meets F.slot_list_append ⟨_,e,rfl⟩ F.entry_list_append (F.args_list_append_2 _ _) (PySem.list_append l its.toArray n u (by rw[q0e];lia)) ⟨e,?_⟩
 refine⟨.non,_,I.lset (its':=its++[u]) hH e (by simp) (r.append (.cons ru .nil)) ?_,rfl,q⟩
 rw[q0l,q0T]
 lia
def y4R:V→List V→Hp→VK→Prop:=fun x vs H Q=>∃l b xs zs,x= .ref l∧vs=[.ref b]∧H l=some (.lst xs)∧H b=some (.lst zs)∧xs.length+zs.length≤sizeLine∧Q .non (upd H l (.lst (xs++zs)))
theorem y1v:MtM X "list.extend" y4R:=by
 intro pins s σ H x vs v us Q I rx rv h
 obtain⟨l,b,xs,zs,rfl,rfl,hH,hB,hz,q⟩:=h
 cases rx
 obtain⟨u,rfl,ru⟩:=rv.one
 cases ru
 obtain⟨z,its,n,r,hl,e⟩:=I.lstM hH
 obtain⟨z2,its2,n2,r2,hl2,e2⟩:=I.lstM hB
 have hsz:its.toArray.size+its2.toArray.size≤sizeLine:=by rw[q0e,q0e];lia
 have hlong:¬(!its.toArray.isEmpty&&Builtin.List.listTooLong (its.toArray.size+its2.toArray.size))=true:=by
  rw[z8N hsz,Bool.and_false]
  exact q0z
 refine call_meets F.slot_list_extend ⟨_,e,rfl⟩ F.entry_list_extend (F.args_list_extend_2 _ _)
  (AutoSeq1.list_extend_list_list_0 l its.toArray n b its2.toArray n2 hlong (by rw[q0e];lia) (by lia)) ⟨e,e2,?_⟩
 refine⟨.non,_,I.lset (its':=its++its2) hH e (by simp) (r.append r2) ?_,rfl,q⟩
 rw[q0l]
 lia
def rCat:R2:=fun x y H Q=>∃l b xs zs,x= .ref l∧y= .ref b∧H l=some (.lst xs)∧H b=some (.lst zs)∧xs.length+zs.length≤sizeLine∧∀p,H p=none→Q (.ref p) (upd H p (.lst (xs++zs)))
theorem z6O:OpR X (binaryOp .Add) rCat:=by
 intro pins s σ H x y v u Q I rx ry h
 obtain⟨l,b,xs,zs,rfl,rfl,hH,hB,hz,q⟩:=h
 cases rx
 cases ry
 obtain⟨z,its,n,r,hl,e⟩:=I.lstM hH
 obtain⟨z2,its2,n2,r2,hl2,e2⟩:=I.lstM hB
 refine PySem.P.add_list e e2 ?_ (by rw[q0e,q0e];lia)
 have ea:its.toArray++its2.toArray=(its++its2).toArray :=by simp
 rw[ea]
 exact⟨.ref _,_,I.lnew (t':=s.toks) (r.append r2) (by rw[q0l];lia),rfl,q _ I.fresh⟩
def rRep:R2:=fun x y H Q=>∃l k xs,x= .ref l∧y= .int k∧H l=some (.lst xs)∧ -(2^63)≤k∧k<2^63∧xs.length*k.toNat≤sizeLine∧
 ∀p,H p=none→Q (.ref p) (upd H p (.lst (List.replicate k.toNat xs).flatten))
theorem y5n {α:Type} (xs:List α) (k:Nat):(List.replicate k xs).flatten.length =k*xs.length:=by
 induction k with
 |zero=>simp
 |succ k ih=>rw[List.replicate_succ,List.flatten_cons,List.length_append,ih,Nat.succ_mul,Nat.add_comm]
theorem y1h:OpR X (binaryOp .Mult) rRep:=by
 intro pins s σ H x y v u Q I rx ry h
 obtain⟨l,k,xs,rfl,rfl,hH,h1,h2,hz,q⟩:=h
 cases rx
 obtain⟨t,rfl⟩:=ry
 obtain⟨z,its,n,r,hl,e⟩:=I.lstM hH
 have hlen:its.toArray.size*k.toNat≤sizeLine:=by rw[q0e,←hl];exact hz
 have hcap:¬its.toArray.size*k.toNat>(2^63 - 1)/8:=by
  have:(sizeLine:Nat)≤(2^63 - 1)/8:=by decide
  lia
 have hfit:¬(!Builtin.List.listFitsIndex k)=true:=by
  rw[fitsIndex_both h1 h2]
  exact q0z
 have hlong:¬Builtin.List.listTooLong (its.toArray.size*k.toNat)=true:=by
  rw[z8N hlen]
  exact q0z
 have hnew:List.foldl (fun x1 x2=>x1++x2) #[] (List.replicate (if its.toArray.isEmpty=true then 0 else k.toNat) its.toArray)=(List.replicate k.toNat its).flatten.toArray :=by
  have f0:∀m:Nat,List.foldl (fun x1 x2=>x1++x2) #[] (List.replicate m its.toArray)=(List.replicate m its).flatten.toArray :=fun m=>by
   have:=z7a its m []
   rw[List.nil_append] at this
   exact this
  rw[f0]
  cases its with
  |nil=>simp
  |cons a r'=>rw[if_neg (by simp)]
 refine wpAny_binaryOp_repeat_ref (T:="list") (U:="int") (by decide) ⟨_,e,rfl⟩ (fun s'=>typeIs_int s' k t) noFill_list_mul F.fills_int_mul F.slot_int_rmul repeat_list F.slot_int_index.lookup
  (call_meets F.slot_int_rmul (typeIs_int s k t) F.entry_int_rmul (F.args_int_rmul_2 _ _) (int___rmul___int_list k t l its.toArray n)
   ⟨e,rfl,⟨_,e,rfl⟩,call_meets F.slot_list_mul ⟨_,e,rfl⟩ F.entry_list_mul (F.args_list_mul_2 _ _) (AutoListH.list___mul___list_int_3 l its.toArray n k t hfit hcap hlong) ⟨e,?_⟩⟩)
 rw[hnew]
 exact⟨.ref _,_,I.lnew (t':=s.toks) (r.rep k.toNat) (by rw[y5n,Nat.mul_comm];exact hz),rfl,q _ I.fresh⟩
end
section
variable {prog:Program}{w:World}{A:Around}{E:Value→Shared→Prop}{s:Shared}
end
section
variable {X:Cx}
end
end L2
namespace Att
open PySem PySem.W PySem.Calls PyProof.Rows
theorem z4u {P:Params}{h:Heap}:∀(ns:List Int) (vs:List Value),WellAll P h vs (ns.map WData.int)→IntsAre vs ns:=by
 intro ns
 induction ns with
 |nil=>
  intro vs w
  rw[List.map_nil] at w
  cases w
  exact .nil
 |cons n ns ih=>
  intro vs w
  rw[q0L] at w
  cases w with
  |cons a b=>
   cases a
   exact .cons _ _ (ih _ b)
theorem y0H {l:OpenLaw}{n:Nat} (hn:l.most=some n) {P:Params}{h:Heap}{args:List WData}{vals:List Value}
 (hpre:l.row.toRowW.claim.pre args=true) (hwl:WellAll P h vals args):
 ∃a vs ns,vals=[Value.ref a]∧args=[WData.list (ns.map WData.int)]∧h.get? a=some {cls:= .type "list",data:= .seq vs.toArray}∧IntsAre vs ns∧ns.length≤n:=by
 have hsh:WShape.hasAll [] args [.list .int]=true:=(pre_splitW hpre).1
 have hc:l.pre.holds [] {args:=args}=true:=(pre_splitW hpre).2
 obtain⟨d,r,rfl,h1,h2⟩:=hasAllW_cons hsh
 obtain rfl:=hasAllW_nil h2
 obtain⟨xs,rfl,h3⟩:=hasW_list h1
 obtain⟨ns,rfl⟩:=items_int h3
 have hlen:ns.length≤n:=by
  unfold OpenLaw.pre at hc
  have h4:(WTm.not (.lt (.lit (.int (n:Int))) (.len (.arg 0)))).holds [] {args:=[.list (ns.map .int)]}=true:=by
   have h4:=(holds_andW hc).1
   rw[hn] at h4
   exact h4
  have h5:=condW_of h4 (w_not (w_lt w_lit (w_len_list (w_arg rfl))))
  rw[q0a] at h5
  refine Nat.le_of_not_lt fun q=>?_
  have q':(n:Int)<((ns.length:Nat):Int):=by lia
  first
   |(rw[decide_eq_true q'] at h5;exact absurd h5 (by decide))
   |(simp at h5;lia)
 cases hwl with
 |cons w1 w2=>
  cases w2
  cases w1 with
  |list ho hall=>exact⟨_,_,ns,rfl,rfl,ho,z4u ns _ hall,hlen⟩
theorem y0Y (l:OpenLaw) (args:List WData):l.row.toRowW.claim.post args (.bool true) args=true:=
 postW_of (r:=l.row.toRowW) (X:=(true==true))
  (show WShape.has [] (.bool true) .bool =true by first|rfl|decide|simp[WShape.has,WShape.arms,WShape.armsAll])
  (show (WTm.eq .res (.lit (.bool true))).value [] {args:=args,res:=some (.bool true),after:=args}=some (.bool (true==true)) from w_eq_bool (w_res rfl) w_lit) rfl
theorem attach_call {l:OpenLaw}{n:Nat}{q:Program}{loose:List Str}{XP:(Str→Option Value)→Heap→Prop}{YP:World→Heap→Prop}{d:DefRec}
 (hn:l.most=some n) (hdf:d.params.defaults=[])
 (call:∀(w:World) (s₀ s₁:Shared) (mg mb:Str→Option Value) (fa:Addr) (o:Obj) (pm cd doc:Value) (a:Addr) (vs:List Value) (ns:List Int),
  Ground q loose [] XP w s₀ mg mb s₁.heap→YP w s₁.heap→
  s₁.heap.get? fa=some o→o.data= .func (docDef d.name d.params d.body d.scope pm cd doc)→s₁.heap.CodeRec cd d.name→mg d.name=some (.ref fa)→
  s₁.heap.get? a=some {cls:= .type "list",data:= .seq vs.toArray}→IntsAre vs ns→ns.length≤n→s₁.gens= #[]→
  codeAny (model l.prog w) callerA (.call (.ref fa) ⟨[.ref a],[]⟩) (fun r s'=>r= .ok (.ret (.bool true))∧OldK s₁.heap s'.heap∧s'.os=s₁.os∧AllBare s'.gens) s₁):
 WalkO q loose XP YP l.row.toRowW d [] (fun f vs=>PySem.call f vs):=by
 intro w s₀ s₁ mg mb G Y fa o pm cd doc dV kV ho hd hcd hD hmg hg args vals as hpre hlay hrd hwl hlo
 obtain rfl:dV= .none :=Dflts.none hD hdf
 obtain rfl:kV= .none :=Dflts.noKw hD
 obtain⟨a,vs,ns,rfl,rfl,hobj,hints,hlen⟩:=y0H hn hpre hwl
 refine enter_call (codeAny_mono (call w s₀ s₁ mg mb fa o pm cd doc a vs ns G Y ho (fd_plain hd) hcd hmg hobj hints hlen hg) fun r s' hq=>?_)
 obtain⟨rfl,h2,h3,h4⟩:=hq
 exact⟨.inl ⟨.bool true,.bool true,[],rfl,fun _=>rfl,.bool true,y0Y l _,fun _=>⟨List.Pairwise.nil,fun _ hm=>(nomatch hm)⟩⟩,h2,h3,h4⟩
section
variable {prog:Program}{w:World}{A:Around}{E:Value→Shared→Prop}{s:Shared}{K:Frag}
end
end Att
namespace L2
open PySem PySem.Spec PyProof.Rows
theorem z6p:∀{vs:List Value}{ns:List Int},IntsAre vs ns→Vals (ns.map V.int) vs
 |_,_,.nil => .nil
 |_,_,.cons n t h=> .cons ⟨t,rfl⟩ (z6p h)
def Only (H:Hp):Prop:=∀b,H b=none∨∃o xs,H b=some (.frz o (.lst xs))
theorem y3r {P:Program}{w:World}{K:PySem.W.Frag}{mg mb:Str→Option Value}{CX:CXT}{k:Nat}{fa a:Addr}{fd:FuncData}{x:Str}{sp:Sp}{s₁:Shared}{vs:List Value}{ns:List Int}
 (KX:K.In s₁.heap) (hns:s₁.heap.Ns mainGlobals mg) (hb:s₁.heap.Ns builtinsNs mb) (hbb:∀x:Str,x≠"__name__"→mb x=bootBuiltins x) (hlim:s₁.heap.NoLimit) (hg:s₁.gens= #[])
 (ha:s₁.heap.get? a=some {cls:= .type "list",data:= .seq vs.toArray}) (hi:IntsAre vs ns) (hl:ns.length≤sizeLine) (hr:Room k callerA)
 (F:∀base:Heap,K.In base→base.Ns mainGlobals mg→FnOk P w K mg base CX k fa fd [x] sp) (hbind:∀(s:Shared) (u:Value),BindsTo s fd ⟨[u],[]⟩ [(x,u)])
 (hsp:∀H:Hp,Only H→SqL K H a (ns.map V.int)→sp [.ref a] H (fun v _=>v= .bl true) fun _ _ _=>False)
 (hCX:∀H e s',CX [] H s₁ (fun _ _ _=>False) e s'→False):
 codeAny (model P w) callerA (.call (.ref fa) ⟨[.ref a],[]⟩) (fun r s'=>r= .ok (.ret (.bool true))∧OldK s₁.heap s'.heap∧s'.os=s₁.os∧AllBare s'.gens) s₁:=by
 have rv:=z6p hi
 have lenV:=hi.length
 have core:∀H:Hp,Only H→SqL K H a (ns.map V.int)→HOk P w H s₁.heap→(∀b,H b≠none→b=a)→(H a≠none→K.lookup a=none)→
  codeAny (model P w) callerA (.call (.ref fa) ⟨[.ref a],[]⟩) (fun r s'=>r= .ok (.ret (.bool true))∧OldK s₁.heap s'.heap∧s'.os=s₁.os∧AllBare s'.gens) s₁:=by
  intro H hO hS hok hA hK
  have base_of:∀{b:Addr}{o:Obj},s₁.heap.get? b=some o→H b=none→(y3t s₁.heap H).get? b=some o:=fun e n=>y3s e n
  have noA:∀{b:Addr}{o:Obj}{es:Array DictEntry}{ep:Nat},s₁.heap.get? b=some o→o.data= .dict es ep→H b=none:=fun {b o es ep} e d=>by
   cases q:H b with
   |none=>rfl
   |some u=>
    have e':b=a:=hA b (by rw[q];simp)
    subst e'
    rw[ha] at e;cases e
    have d':Data.seq vs.toArray _=Data.dict es ep:=d
    cases d'
  have nsK:∀{b:Addr}{m:Str→Option Value},s₁.heap.Ns b m→(y3t s₁.heap H).Ns b m:=fun {b m} ⟨o,es,ep,e,d,r⟩=>⟨o,es,ep,base_of e (noA e d),d,r⟩
  have hKb:K.In (y3t s₁.heap H):=fun b o e=>base_of (KX b o e) (by
   cases q:H b with
   |none=>rfl
   |some u=>
    have e':b=a:=hA b (by rw[q];simp)
    subst e'
    rw[hK (by rw[q];simp)] at e;cases e)
  have hM:Mod K mg (y3t s₁.heap H):=⟨hKb,nsK hns,⟨mb,nsK hb,hbb⟩,let ⟨mc,h1,h2⟩:=hlim;⟨mc,nsK h1,h2⟩⟩
  have e0:Env0 P w K mg (y3t s₁.heap H) callerA [] s₁ H:=⟨rfl,hM,fun b o e=>y5i e,Nat.le_of_eq (y1U _ _),trivial,fun b hb=>absurd (show b∈([]:List Addr) from hb) (by simp),hok,.of_eq hg⟩
  refine codeAny_mono ((F _ hKb (nsK hns)).run callerA [] s₁ H ⟨[.ref a],[]⟩ [.ref a] [.ref a] _ _ hr e0 (hbind s₁ (.ref a)) (.cons rfl .nil) (hsp H hO hS)) fun r s' h=>?_
  cases r with
  |error e=>exact (hCX H e s' h).elim
  |ok fl=>
   cases fl with
   |next=>exact False.elim h
   |brk=>exact False.elim h
   |cont=>exact False.elim h
   |ret u=>
    obtain⟨v,H',os,bare,un,hok',r',q⟩:=h
    have q':v= .bl true:=q
    subst q'
    obtain rfl:u=Value.bool true:=r'
    refine⟨rfl,OldK.of_keep fun b o e=>?_,os,bare⟩
    cases q:H b with
    |none=>exact un.keep b o e q (by intro z;exact absurd (show b∈([]:List Addr) from z) (by simp)) (by simp)
    |some u=>
     rcases hO b with z|⟨ob,xs,z⟩
     ·rw[q] at z;cases z
     ·have z2:=un.frzs b ob _ z
      obtain⟨e1,_⟩:=hok b _ z
      obtain⟨e2,_⟩:=hok' b _ z2
      rw[e] at e1;cases e1
      exact e2
 cases hk:K.lookup a with
 |some o=>
  have e:=KX a o hk
  rw[ha] at e
  cases e
  refine core (fun _=>none) (fun _=> .inl rfl) (.inr ⟨_,vs.toArray,_,hk,rfl,rfl,rfl,by rw[q0e,lenV];exact hl,by simpa using rv⟩) (fun b u z=>by have z':(none:Option HO)=some u:=z;cases z') (fun b z=>absurd rfl z) fun z=>absurd rfl z
 |none=>
  refine core (fun b=>if b=a then some (.frz {cls:= .type "list",data:= .seq vs.toArray} (.lst (ns.map V.int))) else none) (fun b=>?_) (.inl (.inr ⟨{cls:= .type "list",data:= .seq vs.toArray},if_pos rfl⟩)) (fun b u z=>?_) (fun b z=>?_) fun _=>hk
  ·by_cases hb:b=a
   ·exact .inr ⟨_,_,if_pos hb⟩
   ·exact .inl (if_neg hb)
  ·by_cases hb:b=a
   ·have z':=(if_pos hb).symm.trans z
    cases z'
    subst hb
    exact⟨ha,by rw[q0a];exact hl,vs,_,rv,ha⟩
   ·have z':=(if_neg hb).symm.trans z
    cases z'
  ·by_cases hb:b=a
   ·exact hb
   ·exact absurd (if_neg hb) z
end L2
namespace L2
open PySem PySem.Spec PyProof.Rows
theorem walk_of {l:PySem.W.OpenLaw}{n k:Nat}{q:Program}{loose:List Str}{XP:(Str→Option Value)→Heap→Prop}{YP:World→Heap→Prop}{d:DefRec}{K:Params→PySem.W.Frag}{CX:World→CXT}{sp:World→Sp}{x:Str}
 (hn:l.most=some n) (hn2:n≤sizeLine) (hdf:d.params.defaults=[]) (hr:Room k callerA)
 (hY:∀(w:World) (h:Heap),YP w h→(K w.params).In h)
 (F:∀(w:World) (mg:Str→Option Value) (fa:Addr) (h:Heap),(K w.params).In h→h.Ns mainGlobals mg→mg d.name=some (.ref fa)→
  ∃fd:FuncData,(∀(s:Shared) (u:Value),BindsTo s fd ⟨[u],[]⟩ [(x,u)])∧
   ∀base:Heap,(K w.params).In base→base.Ns mainGlobals mg→FnOk l.prog w (K w.params) mg base (CX w) k fa fd [x] (sp w))
 (hsp:∀(w:World) (H:Hp) (a:Addr) (ns:List Int),ns.length≤n→Only H→SqL (K w.params) H a (ns.map V.int)→sp w [.ref a] H (fun v _=>v= .bl true) fun _ _ _=>False)
 (hCX:∀(w:World) (H:Hp) (s:Shared) (e:Value) (s':Shared),CX w [] H s (fun _ _ _=>False) e s'→False):
 PySem.W.WalkO q loose XP YP l.row.toRowW d [] (fun f vs=>PySem.call f vs):=by
 refine Att.attach_call hn hdf fun w s₀ s₁ mg mb fa o pm cd doc a vs ns G Y ho hd hcd hmg hobj hints hlen hg=>?_
 have KX:=hY w _ Y
 obtain⟨fd,hb,hF⟩:=F w mg fa _ KX G.T.g hmg
 exact y3r KX G.T.g G.T.b G.T.builtins G.T.nolimit hg hobj hints (q0m hlen hn2) hr hF hb (fun H hO hS=>hsp w H a ns hlen hO hS) fun H e s'=>hCX w H s₁ e s'
end L2
namespace L2
open PySem PySem.Spec PyProof.Rows
def z2M (s:Stmt):Arguments:=match s with
 | .FunctionDef _ a _ _ _ _ _ _ _ _=>a
 |_=>{posonlyargs:=[],args:=[],vararg:=none,kwonlyargs:=[],kw_defaults:=[],kwarg:=none,defaults:=[]}
def z2c (s:Stmt):List Stmt:=match s with
 | .FunctionDef _ _ b _ _ _ _ _ _ _=>b
 |_=>[]
def z0j (s:Stmt):Scope:=match s with
 | .FunctionDef _ _ _ _ _ _ sc _ _ _=>sc
 |_=>{kind:= .function,names:=[],isGenerator:=false,isCoroutine:=false}
abbrev CX0:CXT:=fun _ _ _ _ _ _=>False
abbrev E0:XK:=fun _ _ _=>False
theorem pass0 {X:Cx}:z7o CX0 X E0:=fun _ _ _ _ _ _ _ h=>h.elim
structure Fun (K:PySem.W.Frag) (x qual:Str) (st:Stmt) (f:Addr) (fd:FuncData):Prop where
 ex:∃(oc:Value) (od:Option Addr) (kV doc pm:Value) (an:Option Addr) (cdv ct:Value) (osl:Array (Option Value)),
  fd=PySem.W.fnOf x qual (z2M st) (z2c st) (z0j st) .none kV doc pm an cdv ct∧K.lookup f=some ⟨oc,od,.func fd,osl⟩∧PySem.W.codeIn K cdv qual=true
 kp:PySem.W.keepIn K (.ref f)=true
section
variable {P:Program}{w:World}{K:PySem.W.Frag}{mg:Str→Option Value}{base:Heap}
theorem Fun.ok {x qual:Str}{st:Stmt}{f:Addr}{fd:FuncData}{N ps:List Str}{k:Nat}{sp:Sp} (F:Fun K x qual st f fd) (S:z0r N ps (z0j st)) (len:∀vs H Q E,sp vs H Q E→vs.length=ps.length)
 (hbody:∀(cdv:Value) (A:Around) (outer:List Env) (s:Shared) (H:Hp) (vs:List V) (Q:VK) (E:XK),Room k (A.deeper (envOfC qual (z0j st) s.heap.objs.size f cdv))→sp vs H Q E→
  ∃t,PSs (y4p CX0 P w K mg base N qual (z0j st) f cdv A outer s H E).nox (z2c st) t∧t {nx:=fun _ H'=>Q .non H',rt:=Q} (start N vs) H):FnOk P w K mg base CX0 (k+1) f fd ps sp:=by
 obtain⟨oc,od,kV,doc,pm,an,cdv,ct,osl,rfl,lk,hcd⟩:=F.ex
 refine y6M lk hcd S len fun A outer s H vs Q E hr hsp=>?_
 obtain⟨t,h,q⟩:=hbody cdv A outer s H vs Q E hr hsp
 exact⟨t,h.nox,q⟩
theorem Fun.binds {x qual:Str}{st:Stmt}{f:Addr}{fd:FuncData}{ps:List Str} (F:Fun K x qual st f fd)
 (h:∀(kV doc pm:Value) (an:Option Addr) (cdv ct:Value) (us:List Value),us.length=ps.length→bindArgs (PySem.W.fnOf x qual (z2M st) (z2c st) (z0j st) .none kV doc pm an cdv ct) ⟨us,[]⟩=pure (ps.zip us)):Binds K fd ps []:=by
 obtain⟨oc,od,kV,doc,pm,an,cdv,ct,osl,rfl,lk,hcd⟩:=F.ex
 exact .all (h kV doc pm an cdv ct)
theorem y4j {x qual:Str}{st:Stmt}{f:Addr}{oc:Value}{od an:Option Addr}{osl:Array (Option Value)}{kV doc pm cdv ct:Value} (l:K.lookup f=some ⟨oc,od,.func (PySem.W.fnOf x qual (z2M st) (z2c st) (z0j st) .none kV doc pm an cdv ct),osl⟩)
 (c:PySem.W.codeIn K cdv qual=true) (k:PySem.W.keepIn K (.ref f)=true):Fun K x qual st f (PySem.W.fnOf x qual (z2M st) (z2c st) (z0j st) .none kV doc pm an cdv ct):=⟨⟨oc,od,kV,doc,pm,an,cdv,ct,osl,rfl,l,c⟩,k⟩
end
theorem hu_of {A:Around}{k:Nat} (hr:Room k A):A.units+1<cLine:=Nat.lt_of_le_of_lt (Nat.add_le_add_left (by decide:1≤64) _) hr.units
section
variable {X:Cx}
theorem pv (i:Nat) {x:Str}{pos:Pos} (hN:X.N[i]? =some x:=by rfl) (hv:Vis X.env.scope x:=by first|exact Or.inl rfl|exact Or.inr (Or.inl rfl)|exact Or.inr (Or.inr rfl)) (hd:(x==("__debug__":Str))=false:=by decide)
 (hcd:(x==("__classdict__":Str))=false:=by decide):PE X (.Name x pos) (tVar i):=y6k hN hv hd hcd
end
theorem z3t {A B:Prop} (h:B):if false=true then A else B:=by
 rw[if_neg q0z]
 exact h
theorem z5h {A B:Prop} (h:A):if true=true then A else B:=by
 rw[if_pos rfl]
 exact h
theorem z3f {c A B:Prop} [Decidable c] (h1:c→A) (h2:¬c→B):if c then A else B:=by
 by_cases h:c
 ·rw[if_pos h]
  exact h1 h
 ·rw[if_neg h]
  exact h2 h
def Same (H H':Hp):Prop:=∀b o,H b=some o→H' b=some o
theorem Same.refl (H:Hp):Same H H:=fun _ _ h=>h
theorem Same.trans {H H1 H2:Hp} (a:Same H H1) (b:Same H1 H2):Same H H2:=fun c o h=>b c o (a c o h)
theorem Same.free {H H':Hp} (e:Same H H') {l:Addr} (h:H' l=Option.none):H l=Option.none:=by
 cases q:H l with
 |none=>rfl
 |some o=>
  rw[e l o q] at h
  cases h
end L2
namespace L2
open PySem PySem.Spec PyProof.Rows
section
variable {X:Cx}{pins:List (Addr×Obj)}{σ:St}{H:Hp}{s:Shared}{h':Heap}
theorem Inv.turnedLaid {fp:List Addr}{a:Addr}{o:HO}{t':Nat} (I:Inv X pins σ H s) (hf:∀b∈fp,y2G X pins H b) (k:∀b ob,b∉fp→s.heap.get? b=some ob→h'.get? b=some ob)
 (hp:s.heap.objs.size≤a) (new:ObjOk X.prog X.w (upd H a o) h' a o):Inv X pins σ (upd H a o) {s with heap:=h',toks:=t'}:=by
 have hn:H a=none:=I.hok.fresh hp
 have nit:∀b u,H b=some u→b∉fp:=fun b u e z=>by rw[(hf b z).1] at e;cases e
 refine I.step (g':=s.gens) (d':=s.drawn) (ch:=fp) (fun b hb=>?_) (fun b ob _ _ hc e _=>k b ob hc e) (fun b ob _ _ hc e _=>⟨ob.slots,k b ob hc e⟩) (fun b ob hc e n=>?_)
  (fun b ob hc e=>⟨ob,k b ob hc e⟩) (fun b xs q=>by rw[z0i (z0g q hn)];exact q) (fun b u xs q=>by rw[z0i (z0g q hn)];exact q)
  (fun b ps q=>⟨#[],by rw[z0i (z0g q hn),q];simp⟩) (fun m hm=>?_) (fun b u e=>?_) I.bare
 ·obtain⟨f0,f1,f2,f3,f4,f5⟩:=hf b hb
  exact⟨f3,f1,f4,f5⟩
 ·rw[z0i (q0v (q0F (q0n e) hp))];exact n
 ·obtain⟨ob,es,ep,ho,r⟩:=hm
  exact⟨ob,es,ep,k _ ob (fun z=>(hf _ z).2.1 rfl) ho,r⟩
 ·by_cases hb:b=a
  ·subst hb;rw[z0b] at e;cases e;exact new
  ·rw[z0i hb] at e
   refine (I.hok b u e).stay (fun c v hc q=>k c v ?_ q) (fun c q=>by rw[z0i (z0g q hn)];exact q) fun c xs q=>by rw[z0i (z0g q hn)];exact q
   rcases hc with z|z
   ·rw[z];exact nit b u e
   ·exact nit c _ z
theorem Inv.turnedAll {fp:List Addr}{t':Nat} (I:Inv X pins σ H s) (hf:∀b∈fp,y2G X pins H b) (k:∀b ob,b∉fp→s.heap.get? b=some ob→h'.get? b=some ob):Inv X pins σ H {s with heap:=h',toks:=t'}:=by
 have nit:∀b u,H b=some u→b∉fp:=fun b u e z=>by rw[(hf b z).1] at e;cases e
 refine I.step (g':=s.gens) (d':=s.drawn) (ch:=fp) (fun b hb=>?_) (fun b ob _ _ hc e _=>k b ob hc e) (fun b ob _ _ hc e _=>⟨ob.slots,k b ob hc e⟩) (fun b ob hc e n=>n)
  (fun b ob hc e=>⟨ob,k b ob hc e⟩) (fun b xs q=>q) (fun b u xs q=>q) (fun b ps q=>⟨#[],by rw[q];simp⟩) (fun m hm=>?_) (fun b u e=>?_) I.bare
 ·obtain⟨f0,f1,f2,f3,f4,f5⟩:=hf b hb
  exact⟨f3,f1,f4,f5⟩
 ·obtain⟨ob,es,ep,ho,r⟩:=hm
  exact⟨ob,es,ep,k _ ob (fun z=>(hf _ z).2.1 rfl) ho,r⟩
 ·refine (I.hok b u e).stay (fun c v hc q=>k c v ?_ q) (fun c q=>q) fun c xs q=>q
  rcases hc with z|z
  ·rw[z];exact nit b u e
  ·exact nit c _ z
end
def Ite (K:PySem.W.Frag) (a:Addr):It:=
 ⟨fun i H=>∃xs x,SqL K H a xs∧xs[i]? =some x,
  fun i H x H'=>∃p v,x= .ref p∧H p=none∧(∀xs,SqL K H a xs→xs[i]? =some v)∧H'=upd H p (.tup [.int i,v]),
  fun i H=>∃xs,SqL K H a xs∧xs.length≤i⟩
theorem y0q {P:Program}{w:World}{K:PySem.W.Frag}{elts:List Expr}{k:Nat}{pos:Pos} (a e it:Addr) (hne:e≠it):
 y4t P w K (.Tuple elts k pos) (Ite K a) [e,it] e (fun i h=>(∃old,IsEnum h e it ((i:Nat):Int) old)∧h.IsListIter it a i) where
 mem:=by simp
 obj:=fun i h st b hb=>by
  obtain⟨⟨old,st1⟩,st2⟩:=st
  rcases q0t.mp hb with rfl|hb
  ·exact⟨_,st1,fun v z=>by
        have z':Data.fields _=Data.cell v:=z
        cases z'⟩
  ·have e':=q0i.mp hb
   subst e'
   obtain⟨o,q,c,d⟩:=st2
   exact⟨o,q,fun v z=>by rw[d] at z;cases z⟩
 keep:=fun i h h' st k=>⟨let ⟨old,q⟩:=st.1;⟨old,k e (by simp) _ q⟩,st.2.at fun o q=>k it (by simp) o q⟩
 item:=by
  intro X hP hw hK hc i pins s σ H E I hf st hg
  subst hP hw hK
  obtain⟨xs,x,hq,hx⟩:=hg
  obtain⟨its,rv,p,hz⟩:=I.list hq
  obtain⟨u,hu,ru⟩:=rv.get hx
  obtain⟨⟨old,st1⟩,st2⟩:=st
  have he:=hf e (by simp)
  have hi:=hf it (by simp)
  have hlt:e<s.heap.objs.size:=q0n st1
  have hlt2:it<s.heap.objs.size:=by obtain⟨o,q,_⟩:=st2;exact q0n q
  refine wpAny_pyNext_enum_item st1 st2 p.isList (x:=u) (by simpa using hu) hne fun h' ho' st' hT hsz kk=>?_
  refine⟨_,rfl,wpAny_letOwnedTupleGo_enum ho' fun h2 he2 hs2=>?_⟩
  have hT2:h2.get? s.heap.objs.size=some {cls:= .type "tuple",data:= .seq #[.int i s.toks,u]}:=hs2.extBut _ _ (Nat.ne_of_gt hlt) hT
  have I1:Inv X pins σ (upd H s.heap.objs.size (.tup [.int i,x])) {s with heap:=h2,toks:=s.toks+1}:=by
   refine I.turnedLaid (fp:=[e,it]) hf (fun b ob hb q=>?_) (q0k _) ?_
   ·have hb1:b≠e:=fun z=>hb (by simp[z])
    have hb2:b≠it:=fun z=>hb (by simp[z])
    exact hs2.extBut b ob hb1 (kk b ob hb1 hb2 q)
   ·exact⟨by show 2≤sizeLine;decide,[.int i s.toks,u],.cons ⟨_,rfl⟩ (.cons ru .nil),_,hT2,rfl,_,rfl⟩
  refine⟨.ref s.heap.objs.size,_,I1,rfl,⟨_,x,rfl,I.hok.fresh (q0k _),fun ys hy=>by rw[I.list_inj hy hq];exact hx,rfl⟩,⟨⟨_,by simpa using he2⟩,?_⟩,fun b hb=>?_⟩
  ·exact st'.at fun o q=>hs2.extBut it o (Ne.symm hne) q
  ·rcases q0t.mp hb with rfl|hb
   ·rw[z0i (q0v hlt)];exact he.1
   ·have e':=q0i.mp hb
    subst e'
    rw[z0i (q0v hlt2)];exact hi.1
 done:=by
  intro X hP hw hK hc i pins s σ H E I hf st hg
  subst hP hw hK
  obtain⟨xs,hq,hx⟩:=hg
  obtain⟨its,rv,p,hz⟩:=I.list hq
  obtain⟨⟨old,st1⟩,st2⟩:=st
  have hl:=rv.length
  refine wpAny_pyNext_enum_end (I.ok.hd hc) st1 st2 p.isList (by simp;lia) fun h' eb=>⟨rfl,?_⟩
  exact I.turnedAll (t':=s.toks) (fp:=[e,it]) hf fun b ob hb q=>eb b ob (fun z=>hb (by simp[z])) q
 self:=fun _ _ _ _ _ st h=>let ⟨_,q⟩:=st.1;wpAny_pyIter_enum q h
section
variable {X:Cx}
def iEnum (tl:TA):TI:=fun σ H R=>tl σ H fun vs H1=>∃a xs,vs=[.ref a]∧H1 a=some (.lst xs)∧R (Ite X.K a) H1
theorem y4Z {elts:List Expr}{k:Nat}{tpos:Pos}{l:Expr}{tl:TA}{p pos:Pos} (hg:Gl X "enumerate") (hm:X.mg "enumerate"=none) (ha:PA X [l] tl) (hs:starEach [l] X.env=[(false,eval l X.env)]:=by rfl):
 PI X (.Tuple elts k tpos) (.Call (.Name "enumerate" p) [l] [] pos) (iEnum (X:=X) tl):=by
 intro pins s σ H R I h
 refine Call_ (z3b I hg hm boot_enumerate (PyProof.Rows.callWith_type1 (thn (ha pos pins s σ H _ I h) fun us s1 ⟨vs,H1,I1,r1,q1⟩=>?_) hs rfl))
 obtain⟨a,xs,e,hq,q⟩:=q1
 subst e
 cases r1 with
 |cons r rr=>
  cases rr
  cases r
  obtain⟨hz,its,n,rv,hlen,ho⟩:=I1.lstM hq
  refine call_enumerate_1 ho fun h' he hit hsz kk=>wpAny_pyIter_enum he ?_
  have I2:Inv X pins σ H1 {s1 with heap:=h'}:=I1.kept (t':=s1.toks) kk
  refine⟨_,[s1.heap.objs.size+1,s1.heap.objs.size],_,_,H1,rfl,I2,y0q a _ _ (Nat.succ_ne_self _),⟨⟨_,he⟩,hit⟩,fun b hb=>?_,q⟩
  have fr:∀c,s1.heap.objs.size≤c→H1 c=none:=fun c hc=>I1.hok.fresh hc
  rcases q0t.mp hb with rfl|hb
  ·exact I1.fpOk (q1U _) (fr _ (q1U _))
  ·have e':=q0i.mp hb
   subst e'
   exact I1.fpOk (q0k _) (fr _ (q0k _))
end
end L2
namespace L2
open PySem PySem.Spec PyProof.Rows
open Builtin.Int (intBits)
section
variable {X:Cx}{a b c:Expr}{ta tb tc:TE}{pos:Pos}
theorem z0Z:OpR X (binaryOp .Mult) (rI IntMulOk fun i j=> .int (i*j)):=opI fun _ _ _ _ _ _ _ hc q=>mul_int q hc
def CFd (_ j:Int):Prop:=j≠0∧intBits j≤9000
theorem noPy {i j:Int} (h:CFd i j):Builtin.divisionGoesByPylong i j=false:=by
 refine PyProof.noPylong_of_log2 ?_
 have h1:=intBits_le_iff.mp h.2
 have h0:j.natAbs≠0:=by have:=h.1;lia
 exact (Nat.log2_lt h0).mpr h1
theorem z2X:OpR X (binaryOp .FloorDiv) (rI CFd fun i j=> .int (i.fdiv j)):=opI fun _ _ _ _ _ _ _ hc q=>floordiv_int hc.1 q (.inl (noPy hc))
def CFp (_ j:Int):Prop:=0<j∧intBits j≤9000
theorem z5M:OpR X (binaryOp .FloorDiv) (rI CFp fun i j=> .int (i/j)):=opI fun i j _ _ _ _ _ hc q=>by
 have h0:j≠0:=by have:=hc.1;lia
 refine floordiv_int h0 ?_ (.inl (noPy ⟨h0,hc.2⟩))
 rw[Int.fdiv_eq_ediv_of_nonneg i (q1G hc.1)]
 exact q
def CMod (_ j:Int):Prop:=0<j
theorem z0O:OpR X (binaryOp .Mod) (rI CMod fun i j=> .int (i%j)):=y6r
theorem cm {i j:Int} (h:decide (0<j)=true:=by rfl):CMod i j:=(show 0<j from of_decide_eq_true h)
theorem cf {i j:Int} (h:decide (0<j)=true:=by rfl) (h2:decide (intBits j≤9000)=true:=by rfl):CFp i j:=⟨(show 0<j from of_decide_eq_true h),(show intBits j≤9000 from of_decide_eq_true h2)⟩
theorem y1c {i j v:Int} (h:i^j.toNat=v) (ha:PE X a (tC (.int i))) (hb:PE X b (tC (.int j))) (hm:0≤j∧j≤1000000∧i.natAbs<2^64:=by decide):PE X (.BinOp a .Pow b pos) (tC (.int v)):=by
 subst h
 exact fun pins s σ H Q I q=>z0s y6p ha hb pins s σ H Q I ⟨i,j,rfl,rfl,hm,q⟩
theorem z2N:z1x X (.builtin "isinstance") (fun xs H Q=>∃x n t k,xs=[x,.ty n]∧y0j X.K H x t∧PySem.W.kitOne X.K t (.type n)=some k∧Q (.bl k) H):=by
 intro pins s σ H xs us Q I r h
 obtain⟨x,n,t,k,rfl,ty,e,q⟩:=h
 obtain⟨u,w',rfl,r1,r2⟩:=z7r r
 cases (show w'=Value.type n from r2)
 exact y1O I r1 ty e fun tk=>⟨.bl k,H,I.tok tk,rfl,q⟩
end
structure Cal (P:Program) (w:World) (K:PySem.W.Frag) (mg:Str→Option Value) (base:Heap) (n:Nat) (x:Str) (ps:List Str) (sp:Sp):Prop where
 ex:∃g gd,FnOk P w K mg base CX0 n g gd ps sp∧Binds K gd ps []∧PySem.W.keepIn K (.ref g)=true∧mg x=some (.ref g)
theorem Cal.mono {P:Program}{w:World}{K:PySem.W.Frag}{mg:Str→Option Value}{base:Heap}{n m:Nat}{x:Str}{ps:List Str}{sp:Sp} (c:Cal P w K mg base n x ps sp) (h:n≤m):Cal P w K mg base m x ps sp:=
 let ⟨g,gd,F,b,k,m⟩:=c.ex
 ⟨g,gd,F.mono h,b,k,m⟩
section
variable {X:Cx}{e:Expr}{es:List Expr}{t:TA}{p pos:Pos}
theorem z0q {n:Nat}{x:Str}{ps:List Str}{sp:Sp} (c:Cal X.prog X.w X.K X.mg X.base n x ps sp) (hr:Room n X.A) (hg:Gl X x) (ha:PA X (e::es) t) (hdb:(x==("__debug__":Str))=false:=by decide)
 (he:starEach (e::es) X.env=(false,eval e X.env)::starEach es X.env:=by rfl) (hpl:(backTo pos (starEach es X.env)).any (·.1)=false:=by rfl):PE X (.Call (.Name x p) (e::es) [] pos) (y4J sp [] E0 t):=by
 obtain⟨g,gd,F,b,k,m⟩:=c.ex
 exact y1e F hr hg m k b .nil pass0 ha hdb he hpl
end
theorem z0e {H:Hp}{p:Addr} (h:H p=none) (o:HO):Same H (upd H p o):=fun b u q=>by rw[z0i (z0g q h)];exact q
theorem Rd.same {H H':Hp}{a:Addr}{u:HO} (g:Same H H') (r:Rd H a u):Rd H' a u:=by
 rcases r with r|⟨o,r⟩
 ·exact .inl (g _ _ r)
 ·exact .inr ⟨o,g _ _ r⟩
theorem SqT.same {K:PySem.W.Frag}{H H':Hp}{a:Addr}{xs:List V} (g:Same H H') (h:SqT K H a xs):SqT K H' a xs:=by
 rcases h with h|h
 ·exact .inl (h.same g)
 ·exact .inr h
theorem SqL.same {K:PySem.W.Frag}{H H':Hp}{a:Addr}{xs:List V} (g:Same H H') (h:SqL K H a xs):SqL K H' a xs:=by
 rcases h with h|h
 ·exact .inl (h.same g)
 ·exact .inr h
theorem z2y {i j:Int}{m n:Nat} (hi:intBits i≤m) (hj:intBits j≤n) (h:m+n≤134217728:=by lia):IntMulOk i j:=IntMulOk.of_le hi hj h
end L2
namespace L2
open PySem PySem.Spec PySem.W PyProof.Rows
structure ExcK (K:Frag) (D:Addr):Prop where
 cls:(clsIn K D).isSome =true
 ga:findIn K (.ref D) "__getattribute__"=some (some (.builtin "BaseException.__getattribute__"))
 gx:findIn K (.ref D) "__getattr__"=some none
 ca:findIn K (.ref D) "__class__"=some (some (.builtin "object.__class__"))
 sp:specialIn K (.builtin "object.__class__") "__get__"=some (some (.builtin "getset_descriptor.__get__"))
 tk:takesIn K (.builtin "object.__class__")=some true
 mo:mroIn K D (.type "object")=some true
 sb:subIn K (.ref D) (.type "BaseException")=some true
section
variable {prog:Program}{w:World}{A:Around}{E:Value→Shared→Prop}{h:Heap}{gn:Array GenState}{dr:Drawn}{tt:Nat}{os:OsState}{K:Frag}{x D:Addr}{ox:Obj}{odo:Option Obj}{name:Str}
theorem y2i {nameV:Value}{Q:Unit→Shared→Prop} (X:K.In h) (I:InstAt h x ox D odo) (C:ExcK K D) (hq:Q () ⟨h,gn,dr,tt,os⟩):
 wpAny (model prog w) A (checkBuiltinCall "BaseException.__getattribute__" ⟨[.ref x,nameV],[]⟩) Q E ⟨h,gn,dr,tt,os⟩:=by
 have hk1:builtinKind "BaseException.__getattribute__"=some .slot :=by decide+kernel
 have hs1:splitId "BaseException.__getattribute__"=some ("BaseException","__getattribute__"):=by decide+kernel
 have L0:=I.type (M:=model prog w)
 have L1:=looks_subIn (M:=model prog w) X C.sb
 have ha:=F.args_bexc_ga (.ref x) nameV
 have LI:Looks (model prog w) h (isInstance (.ref x) (.type "BaseException")) true:=L0.andThen L1
 simp only[checkBuiltinCall,hk1,hs1]
 refine wpAny_bind (LI.at ?_)
 repeat (any_goals (first|assumption|wp_step))
theorem y2h {Q:Option Value→Shared→Prop} (X:K.In h) (I:InstAt h x ox D odo) (C:ExcK K D) (hq:Q (some (.ref D)) ⟨h,gn,dr,tt+1,os⟩):
 wpAny (model prog w) A (getAttr? (.ref x) "__class__") Q E ⟨h,gn,dr,tt,os⟩:=by
 have L0:=I.type (M:=model prog w)
 have L1:=looks_findIn (M:=model prog w) X C.ga
 have L2:=looks_findIn (M:=model prog w) X C.gx
 unfold getAttr? getAttrBy? getAttrBy
 refine wpAny_bind (wpAny_mkText (wpAny_bind (wpAny_attempt (wpAny_holding (wpAny_bind (L0.at (wpAny_bind (L1.at ?_))))))))
 have hx2:(Value.builtin "BaseException.__getattribute__"==Value.builtin "object.__getattribute__")=false:=by decide+kernel
 have f3:=F.excAttr_ValueError.ga.bind (.ref x)
 have hf:findObj K D odo "__class__"=some (.bind (.builtin "getset_descriptor.__get__") (.builtin "object.__class__")):=by
  obtain⟨cd,hc⟩:=q2a.mp C.cls
  unfold findObj
  rw[hc,Option.bind_some,C.ca,Option.bind_some]
  simp[C.sp,C.tk]
 have L3:=looks_find (M:=model prog w) X I hf
 dsimp only
 rw[hx2,Bool.and_false,if_neg q0z]
 unfold getAttrByItsOwn
 repeat (any_goals (first|assumption|(with_reducible refine L2.at ?_)|(with_reducible refine L0.at ?_)|wp_step))
 refine codeAny_call_builtin F.excAttr_ValueError.ga.plain F.entry_bexc_ga (y2i X I C ?_)
 repeat (any_goals (first|assumption|(with_reducible refine L3.at ?_)|(with_reducible refine L0.at ?_)|wp_step))
 refine class_get (s:=⟨h,gn,dr,tt+1,os⟩) X I C.mo ?_
 exact wpAny_pure (handed_on rfl (wpAny_pure hq))
theorem ExcK.there (C:ExcK K D):∃c0 d0 cd0 sl0,K.lookup D=some ⟨c0,d0,.cls cd0,sl0⟩:=by
 have q:=C.cls
 unfold clsIn at q
 split at q
 ·exact⟨_,_,_,_,by assumption⟩
 ·cases q
theorem z6a (C:ExcK K D):KitX K (.ref x) (.ref D) (fun h=>∃ox odo,InstAt h x ox D odo):=by
 obtain⟨c0,d0,cd0,sl0,lk⟩:=C.there
 refine⟨fun _ _ _ ⟨_,_,I⟩=>I.type,fun _ _ X _=>?_,fun hp a1 _ _ _ _ X z=>?_,fun {_ _ _ _ _ s1} X ⟨_,_,I⟩ k=>?_⟩
 ·intro A1 Q1 E1 s1 k1 q1
  exact wpAny_bind (wpAny_loadPart (k1 _ _ (X _ _ lk)) (wpAny_pure q1))
 ·by_cases e1:D=a1
  ·have:=(X _ _ lk).symm.trans (e1▸z)
   cases this
  ·simp[e1]
 ·obtain⟨h1,g1,d1,t1,o1⟩:=s1
  exact y2h X I C k
end
def Trc (h:Heap) (a:Addr) (vs:Array Value):Prop:=
 vs[1]? =some .none ∨∃T oT ts,vs[1]? =some (.ref T)∧T≠a∧h.get? T=some oT∧oT.data= .fields ts∧ts[3]? =some .none
structure Went (fs:List Addr) (a:Addr) (oe:Obj) (vs:Array Value) (h h':Heap):Prop where
 ex:∃vs' T oT ts,h'.get? a=some {oe with data:= .fields vs'}∧vs'.size=vs.size∧vs'[0]? =vs[0]? ∧vs'[1]? =some (.ref T)∧T≠a∧h.objs.size≤T∧h'.get? T=some oT∧oT.data= .fields ts∧ts[3]? =some .none
 keep:∀b o,b≠a→(∀T,vs[1]? =some (.ref T)→b≠T)→b∉fs→h.get? b=some o→h'.get? b=some o
 slot:∀b o,b≠a→(∀T,vs[1]? =some (.ref T)→b≠T)→h.get? b=some o→∃sl,h'.get? b=some {o with slots:=sl}
theorem z2l {o:Obj}{vs:Array Value} (hd:o.data= .fields vs) (f:Array Value→Array Value):o.mapFields f={o with data:= .fields (f vs)}:=by
 obtain⟨c,d,dt,sl⟩:=o
 subst hd
 rfl
section
variable {M:Model}{A:Around}{E:Value→Shared→Prop}{s:Shared}{base:Heap}{env:Env}{outer:List Env}{L a:Addr}{oe:Obj}{vs:Array Value}{Q:Unit→Shared→Prop}
theorem z7b {head:Value}{nx:Bool} (hfr:A.frames=some (env::outer)) (hl:s.heap.FunFrames base (env::outer)) (hf:env.frame=some L) (ha:s.heap.get? a=some oe) (hd:oe.data= .fields vs) (hz:1<vs.size)
 (h:∀h',(∃vs' T oT ts,h'.get? a=some {oe with data:= .fields vs'}∧vs'.size=vs.size∧vs'[0]? =vs[0]? ∧vs'[1]? =some (.ref T)∧T≠a∧s.heap.objs.size≤T∧h'.get? T=some oT∧oT.data= .fields ts∧ts[3]? =some .none)→
  (∀b o,b≠a→b∉frs (env::outer)→s.heap.get? b=some o→h'.get? b=some o)→(∀b o,b≠a→s.heap.get? b=some o→∃sl,h'.get? b=some {o with slots:=sl})→Q () {s with heap:=h'}):
 wpAny M A (do let fr ←frameOf env;let pl ←entryPlaceOf L nx;let b ←EntryCells.newEntry head fr .none (rawInt L) .none pl;setField (.ref a) 1 b) (fun _ s2=>wpAny M A (setFlight (.ref a) none) Q E s2) E s:=by
 have anot:a∉frs (env::outer):=fun hm=>by
  obtain⟨_,o,ho,hn⟩:=hl.mem hm
  rw[ha] at ho;cases ho
  exact hn vs hd
 refine wpAny_bind (wpAny_frameOf_fun hfr hl hf fun h1 so=>wpAny_bind (wpAny_entryPlaceOf fun pl hpl=>?_))
 have a1:h1.get? a=some oe:=(so.2.1 a anot).trans ha
 unfold EntryCells.newEntry newFields
 refine wpAny_bind (wpAny_newObj_type ?_ (hpl.sizeOk5 _ _ _ _ _))
 generalize hobj:({cls:= .type "traceback",dict:=none,data:= .fields ([head,.ref L,.none,rawInt L,.none]++(if pl.isEmpty then List.replicate 6 Value.none else pl)).toArray}:Obj)=tb
 have a2:(h1.push tb).get? a=some oe:=q0d _ a1
 refine wpAny_setField a2 hd hz ?_
 have Tn:h1.objs.size≠a:=Nat.ne_of_gt (q0n a1)
 have m1:=z2l hd (·.setIfInBounds 1 (Value.ref h1.objs.size))
 have a3:((h1.push tb).update a (Obj.mapFields (·.setIfInBounds 1 (Value.ref h1.objs.size)))).get? a=some {oe with data:= .fields (vs.setIfInBounds 1 (Value.ref h1.objs.size))}:=by
  have:=q1S (Obj.mapFields (·.setIfInBounds 1 (Value.ref h1.objs.size))) a2 (Obj.isFreed_of_fields (Obj.data_mapFields hd _))
  rw[m1] at this
  exact this
 have dtb:tb.data= .fields ([head,.ref L,.none,rawInt L,.none]++(if pl.isEmpty then List.replicate 6 Value.none else pl)).toArray :=by rw[←hobj]
 have T2:(h1.push tb).get? h1.objs.size=some tb:=q0o h1 (by rw[←hobj];rfl)
 have T3:((h1.push tb).update a (Obj.mapFields (·.setIfInBounds 1 (Value.ref h1.objs.size)))).get? h1.objs.size=some tb:=(q0N _ _ (Ne.symm Tn)).trans T2
 unfold setFlight
 refine wpAny_bind (wpAny_field a3 rfl (x:= .ref h1.objs.size) (by simp[hz]) ?_)
 rw[if_pos (show (Value.ref h1.objs.size != Value.none)=true from by simp)]
 refine wpAny_setField T3 dtb (by simp only[q0e,q0l,q0u,List.length_nil];lia) ?_
 have rest:∀b,b≠a→b≠h1.objs.size→(((h1.push tb).update a (Obj.mapFields (·.setIfInBounds 1 (Value.ref h1.objs.size)))).update h1.objs.size (Obj.mapFields (·.setIfInBounds 3 ((none:Option Addr).elim Value.none fun f=>rawInt f)))).get? b=(h1.push tb).get? b:=fun b hb hT=>by
  rw[q0N _ _ (Ne.symm hT),q0N _ _ (Ne.symm hb)]
 dsimp only
 refine h _ ⟨vs.setIfInBounds 1 (Value.ref h1.objs.size),h1.objs.size,_,_,?_,?_,?_,?_,Tn,by rw[so.1];exact q0k _,q1S _ T3 (Obj.isFreed_of_fields (Obj.data_mapFields dtb _)),Obj.data_mapFields dtb _,?_⟩ ?_ ?_
 ·rw[q0N _ _ Tn]
  exact a3
 ·simp
 ·simp
 ·simp[hz]
 ·first|(simp;done)|(rcases hpl with rfl|⟨_,_,_,_,_,_,_,rfl⟩<;>simp)
 ·intro b o hb hn e
  have e1:h1.get? b=some o:=(so.2.1 b hn).trans e
  exact (rest b hb (q0v (q0n e1))).trans (q0d _ e1)
 ·intro b o hb e
  obtain⟨sl,e1⟩:=so.2.2 b o e
  exact⟨sl,(rest b hb (q0v (q0n e1))).trans (q0d _ e1)⟩
theorem y6O (hfr:A.frames=some (env::outer)) (hl:s.heap.FunFrames base (env::outer)) (hf:env.frame=some L) (ha:s.heap.get? a=some oe) (hd:oe.data= .fields vs) (hz:1<vs.size) (tr:Trc s.heap a vs)
 (h:∀h',Went (frs (env::outer)) a oe vs s.heap h'→Q () {s with heap:=h'}):
 wpAny M A (noteFrame (.ref a) env) (fun _ s2=>wpAny M A (setFlight (.ref a) none) Q E s2) E s:=by
 unfold noteFrame
 simp only[hf]
 rcases tr with e1|⟨T,oT,ts,e1,Tn,hT,dT,e3⟩
 ·refine wpAny_bind (wpAny_field ha hd e1 ?_)
  rw[if_neg (by decide)]
  exact z7b hfr hl hf ha hd hz fun h' x k sl=>h h' ⟨x,fun b o hb _ hn e=>k b o hb hn e,fun b o hb _ e=>sl b o hb e⟩
 ·refine wpAny_bind (wpAny_field ha hd e1 ?_)
  rw[if_pos (show (Value.ref T != Value.none)=true from by simp)]
  refine wpAny_bind (wpAny_field hT dT e3 ?_)
  rw[if_neg (show ¬((Value.none==rawInt L)=true) from by simp[rawInt])]
  refine wpAny_bind (wpAny_setField hT dT (Array.getElem?_eq_some_iff.mp e3).1 ?_)
  have ot:∀b,b≠T→(s.heap.update T (Obj.mapFields (·.setIfInBounds 3 Value.none))).get? b=s.heap.get? b:=fun b hb=>q0N _ _ (Ne.symm hb)
  have nf:∀b o,s.heap.get? b=some o→(∀ws,o.data≠ .fields ws)→b≠T:=fun b o e n z=>by
   subst z
   rw[hT] at e;cases e
   exact n ts dT
  refine z7b (s:={s with heap:=s.heap.update T (Obj.mapFields (·.setIfInBounds 3 Value.none))}) hfr (hl.of_keeps fun b o e n=>⟨o,(ot b (nf b o e n)).trans e,rfl⟩) hf ((ot a (Ne.symm Tn)).trans ha) hd hz fun h' x k sl=>?_
  obtain⟨vs',T',oT',ts',x1,x2,x3,x4,x5,x6,x7⟩:=x
  refine h h' ⟨⟨vs',T',oT',ts',x1,x2,x3,x4,x5,by rw[Heap.size_update] at x6;exact x6,x7⟩,fun b o hb hT' hn e=>k b o hb hn ((ot b (hT' T e1)).trans e),fun b o hb hT' e=>sl b o hb ((ot b (hT' T e1)).trans e)⟩
end
end L2
namespace L2
open PySem PySem.Spec PySem.W PyProof.Rows
theorem ObjOk.there {P:Program}{w:World}{H:Hp}{h:Heap}{a:Addr}{o:HO} (x:ObjOk P w H h a o):∃ob,h.get? a=some ob:=by
 cases o with
 |lst xs=>obtain⟨_,_,_,_,e⟩:=x;exact⟨_,e⟩
 |tup xs=>obtain⟨_,_,_,_,e,_⟩:=x;exact⟨_,e⟩
 |dK kvs=>obtain⟨_,_,_,_,_,_,_,e,_⟩:=x;exact⟨_,e⟩
 |dT kvs=>obtain⟨_,_,_,_,_,_,_,e,_⟩:=x;exact⟨_,e⟩
 |set S n=>obtain⟨_,_,_,_,e,_⟩:=x;exact⟨_,e⟩
 |ins C dx fs=>obtain⟨_,_,_,e,_⟩:=x;exact⟨_,e⟩
 |own y=>exact x
 |xd fs=>obtain⟨_,⟨_,_,_,e,_⟩,_⟩:=x;exact⟨_,e⟩
 |rng lo hi=>obtain⟨_,_,_,e⟩:=x;exact⟨_,e⟩
 |frz ob u=>obtain⟨e,_⟩:=x;exact⟨_,e⟩
 |tbl ps=>exact⟨_,x⟩
 |met f y=>exact⟨_,x⟩
 |ext φ=>obtain⟨_,e,_⟩:=x;exact e
structure Flt (X:Cx) (pins:List (Addr×Obj)) (H:Hp) (s:Shared) (a:Addr) (cls:Value) (dx:Option Addr):Prop where
 ex:∃oe vs,s.heap.get? a=some oe∧oe.cls=cls∧oe.dict=dx∧oe.data= .fields vs∧1<vs.size∧Trc s.heap a vs∧∀T,vs[1]? =some (.ref T)→H T=none∧X.s₀.heap.get? T=none∧∀p∈X.pn++pins,p.1≠T
 hn:H a=none
 new:X.s₀.heap.get? a=none
 pn:∀p∈X.pn++pins,p.1≠a
section
variable {X:Cx}{pins:List (Addr×Obj)}{σ:St}{H:Hp}{s:Shared}{a:Addr}{cls:Value}{dx:Option Addr}
theorem Inv.went {oe:Obj}{vs:Array Value}{h':Heap} (I:Inv X pins σ H s) (hx:X.ex=[]) (ha:s.heap.get? a=some oe) (hd:oe.data= .fields vs) (tr:Trc s.heap a vs)
 (hT:∀T,vs[1]? =some (.ref T)→H T=none∧X.s₀.heap.get? T=none∧∀p∈X.pn++pins,p.1≠T) (hn:H a=none) (new:X.s₀.heap.get? a=none) (pn:∀p∈X.pn++pins,p.1≠a)
 (W:Went (frs X.stack) a oe vs s.heap h'):Inv X pins σ H {s with heap:=h'}:=by
 have dT:∀T o,vs[1]? =some (.ref T)→s.heap.get? T=some o→∃ts,o.data= .fields ts:=fun T o e1 e2=>by
  rcases tr with q|⟨T',oT,ts,q1,_,q2,q3,_⟩
  ·rw[q] at e1;cases e1
  ·rw[q1] at e1;cases e1
   rw[q2] at e2;cases e2
   exact⟨ts,q3⟩
 have nfa:∀b o,s.heap.get? b=some o→(∀ws,o.data≠ .fields ws)→b≠a∧∀T,vs[1]? =some (.ref T)→b≠T:=fun b o e n=>by
  refine⟨fun z=>?_,fun T q z=>?_⟩
  ·subst z;rw[ha] at e;cases e;exact n vs hd
  ·subst z
   obtain⟨ts,q2⟩:=dT b o q e
   exact n ts q2
 have old:∀b o,X.s₀.heap.get? b=some o→b≠a∧∀T,vs[1]? =some (.ref T)→b≠T:=fun b o e=>by
  refine⟨fun z=>?_,fun T q z=>?_⟩
  ·subst z;rw[new] at e;cases e
  ·subst z;rw[(hT b q).2.1] at e;cases e
 have trk:∀b u,H b=some u→b≠a∧(∀T,vs[1]? =some (.ref T)→b≠T)∧b∉frs X.stack:=fun b u e=>by
  refine⟨fun z=>?_,fun T q z=>?_,fun z=>?_⟩
  ·subst z;rw[hn] at e;cases e
  ·subst z;rw[(hT b q).1] at e;cases e
  ·rw[I.stkFree b z] at e;cases e
 have oldf:∀b o,X.s₀.heap.get? b=some o→b∉X.fs→b∉frs X.stack:=fun b o e nb z=>by
  rcases q0t.mp (I.stkSub b z) with q|q
  ·exact q0v (q0F (q0n e) I.ok.above) q
  ·exact nb q
 have ne:∀b,b∉X.ex:=fun b=>by rw[hx];simp
 refine⟨I.ok,I.os,I.bare,⟨fun b o e n hb _=>?_,fun b o e n hb _=>?_,I.base.free,fun b o e _=>?_,I.base.tups,I.base.frzs,I.base.tbls⟩,?_,fun x c e=>?_,I.free,I.freeC,fun p hp=>?_,fun b u e=>?_,I.len⟩
 ·obtain⟨z1,z2⟩:=old b o e
  exact W.keep b o z1 z2 (oldf b o e hb) (I.base.keep b o e n hb (ne b))
 ·obtain⟨z1,z2⟩:=old b o e
  obtain⟨sl,q⟩:=I.base.slot b o e n hb (ne b)
  obtain⟨sl',q'⟩:=W.slot b _ z1 z2 q
  exact⟨sl',q'⟩
 ·obtain⟨z1,z2⟩:=old b o e
  obtain⟨o',q⟩:=I.base.there b o e (ne b)
  obtain⟨sl',q'⟩:=W.slot b _ z1 z2 q
  exact⟨_,q'⟩
 ·obtain⟨m,⟨o,es,ep,ho,dd,rr⟩,hl⟩:=I.loc
  obtain⟨z1,z2⟩:=nfa _ o ho fun ws z=>by rw[dd] at z;cases z
  obtain⟨sl,q⟩:=W.slot _ o z1 z2 ho
  refine⟨m,⟨_,es,ep,q,dd,rr⟩,fun i x v e1 e2 e3=>?_⟩
  obtain⟨u,r,lk⟩:=hl i x v e1 e2 e3
  refine⟨u,r,?_⟩
  rcases lk with lk|⟨k,c,ec,oc,hoc,dc⟩
  ·exact .inl lk
  ·obtain⟨y1,y2⟩:=nfa c oc hoc fun ws z=>by rw[dc] at z;cases z
   obtain⟨sl2,q2⟩:=W.slot c oc y1 y2 hoc
   exact .inr ⟨k,c,ec,_,q2,dc⟩
 ·obtain⟨v,oc,hoc,dc⟩:=I.cell x c e
  obtain⟨y1,y2⟩:=nfa c oc hoc fun ws z=>by rw[dc] at z;cases z
  obtain⟨sl2,q2⟩:=W.slot c oc y1 y2 hoc
  exact⟨v,_,q2,dc⟩
 ·obtain⟨e,n,nl,nf,dd⟩:=I.pin p hp
  refine⟨W.keep p.1 p.2 (pn p hp) (fun T q=>(hT T q).2.2 p hp) (fun z=>?_) e,n,nl,nf,dd⟩
  rcases q0t.mp (I.stkSub _ z) with q|q
  ·exact nl q
  ·exact nf q
 ·refine (I.hok b u e).stay (fun c v hc q=>?_) (fun _ q=>q) fun _ _ q=>q
  rcases hc with z|z
  ·subst z
   obtain⟨y1,y2,y3⟩:=trk c u e
   exact W.keep c v y1 y2 y3 q
  ·obtain⟨y1,y2,y3⟩:=trk c _ z
   exact W.keep c v y1 y2 y3 q
theorem y2e {E:Value→Shared→Prop}{Q:Unit→Shared→Prop} (I:Inv X pins σ H s) (hx:X.ex=[]) (hs:X.stack=X.env::X.outer) (hf:X.env.frame=some X.env.locals) (F:Flt X pins H s a cls dx)
 (h:∀h' T,Inv X pins σ H {s with heap:=h'}→Flt X pins H {s with heap:=h'} a cls dx→(∃oe vs oT ts,h'.get? a=some oe∧oe.cls=cls∧oe.dict=dx∧oe.data= .fields vs∧1<vs.size∧vs[1]? =some (.ref T)∧T≠a∧h'.get? T=some oT∧oT.data= .fields ts∧ts[3]? =some .none)→
  H T=none→X.s₀.heap.get? T=none→Q () {s with heap:=h'}):
 wpAny (model X.prog X.w) X.A (noteFrame (.ref a) X.env) (fun _ s2=>wpAny (model X.prog X.w) X.A (setFlight (.ref a) none) Q E s2) E s:=by
 obtain⟨oe,vs,ha,hc,hdx,hd,hz,tr,hT⟩:=F.ex
 have hfr:X.A.frames=some (X.env::X.outer):=by rw[I.ok.frames,hs]
 have hl:s.heap.FunFrames X.base (X.env::X.outer):=by rw[←hs];exact I.stack
 refine y6O hfr hl hf ha hd hz tr fun h' W=>?_
 rw[←hs] at W
 have I':=I.went hx ha hd tr hT F.hn F.new F.pn W
 obtain⟨vs',T,oT,ts,e1,e2,e3,e4,e5,e6,e7,e8,e9⟩:=W.ex
 have Tn:H T=none:=I.hok.fresh e6
 have Ts:X.s₀.heap.get? T=none:=Heap.get?_none_of_le (q0m I.sz e6)
 have Tp:∀p∈X.pn++pins,p.1≠T:=fun p hp z=>by
  have:=q0n (I.pin p hp).1
  rw[z] at this
  exact absurd (q0F this e6) (q1F _)
 refine h h' T I' ⟨⟨_,vs',e1,hc,hdx,rfl,by lia,.inr ⟨T,oT,ts,e4,e5,e7,e8,e9⟩,fun T' q=>?_⟩,F.hn,F.new,F.pn⟩ ⟨_,vs',oT,ts,e1,hc,hdx,rfl,by lia,e4,e5,e7,e8,e9⟩ Tn Ts
 rw[e4] at q;cases q
 exact⟨Tn,Ts,Tp⟩
end
def CX1 (P:Program) (w:World) (base:Heap):CXT:=fun outer H s E e s'=>∃(a T:Addr) (cls:Value) (dx:Option Addr) (H':Hp),e= .ref a∧s'.os=s.os∧AllBare s'.gens∧Un (frs outer) [] H H' s.heap s'.heap∧HOk P w H' s'.heap∧
 (∃oe vs oT ts,s'.heap.get? a=some oe∧oe.cls=cls∧oe.dict=dx∧oe.data= .fields vs∧1<vs.size∧vs[1]? =some (.ref T)∧T≠a∧s'.heap.get? T=some oT∧oT.data= .fields ts∧ts[3]? =some .none)∧
 H' a=none∧H' T=none∧s.heap.get? a=none∧s.heap.get? T=none∧E cls dx H'
structure y3I (X:Cx) (E:XK):Prop where
 ex:X.ex=[]
 st:X.stack=X.env::X.outer
 fr:X.env.frame=some X.env.locals
 xe:X.xe=fun e s'=>wpAny (model X.prog X.w) X.A (leaving X.env e) (fun _ s''=>CX1 X.prog X.w X.base X.outer X.H₀ X.s₀ E e s'') (fun e' s''=>CX1 X.prog X.w X.base X.outer X.H₀ X.s₀ E e' s'') s'
section
variable {X:Cx}{pins:List (Addr×Obj)}{σ:St}{H:Hp}{s:Shared}{a:Addr}{cls:Value}{dx:Option Addr}{E:XK}
theorem y3X (B:y3I X E) (I:Inv X pins σ H s) (F:Flt X pins H s a cls dx) (h:E cls dx H):X.xe (.ref a) s:=by
 rw[B.xe]
 refine wpAny_bind (y2e I B.ex B.st B.fr F fun h' T I' _ fl Tn Ts=>?_)
 have b:=I'.base
 rw[B.ex] at b
 exact⟨a,T,cls,dx,H,rfl,I'.os,I'.bare,b,I'.hok,fl,F.hn,Tn,F.new,Ts,h⟩
theorem y6Y {E':XK}{e:Value}{s':Shared} (I:Inv X pins σ H s) (hx:X.ex=[]) (h:CX1 X.prog X.w X.base X.stack H s E' e s'):∃(a:Addr) (cls:Value) (dx:Option Addr) (H':Hp),e= .ref a∧Inv X pins σ H' s'∧Flt X pins H' s' a cls dx∧E' cls dx H':=by
 obtain⟨a,T,cls,dx,H',rfl,os,bare,un,hok,⟨oe,vs,oT,ts,f1,f2,f3,f4,f5,f6,f7,f8,f9,f10⟩,n1,n2,n3,n4,q⟩:=h
 have I':=I.call' os un hok bare fun b hb=>absurd hb (by simp)
 have ne:∀b,b∉X.ex:=fun b=>by rw[hx];simp
 have old:∀b,s.heap.get? b=none→X.s₀.heap.get? b=none:=fun b e=>by
  cases z:X.s₀.heap.get? b with
  |none=>rfl
  |some o=>
   obtain⟨o',e'⟩:=I.base.there b o z (ne b)
   rw[e] at e';cases e'
 have pin:∀b,s.heap.get? b=none→∀p∈X.pn++pins,p.1≠b:=fun b e p hp z=>by
  have:=(I.pin p hp).1
  rw[z,e] at this;cases this
 refine⟨a,cls,dx,H',rfl,I',⟨⟨oe,vs,f1,f2,f3,f4,f5,.inr ⟨T,oT,ts,f6,f7,f8,f9,f10⟩,fun T' z=>?_⟩,n1,old a n3,pin a n3⟩,q⟩
 rw[f6] at z;cases z
 exact⟨n2,old T n4,pin T n4⟩
theorem y6o {E':XK} (B:y3I X E) (h:∀c d H,E' c d H→E c d H):z7o (CX1 X.prog X.w X.base) X E':=fun pins σ H s e s' I q=>by
 obtain⟨a,cls,dx,H',rfl,I',F,q'⟩:=y6Y I B.ex q
 exact y3X B I' F (h _ _ _ q')
end
end L2
namespace L2
open PySem PySem.Spec PySem.W PyProof.Rows
structure Cal1 (P:Program) (w:World) (K:PySem.W.Frag) (mg:Str→Option Value) (base:Heap) (n:Nat) (x:Str) (ps:List Str) (sp:Sp):Prop where
 ex:∃g gd,FnOk P w K mg base (CX1 P w base) n g gd ps sp∧Binds K gd ps []∧PySem.W.keepIn K (.ref g)=true∧mg x=some (.ref g)
theorem Cal1.mono {P:Program}{w:World}{K:PySem.W.Frag}{mg:Str→Option Value}{base:Heap}{n m:Nat}{x:Str}{ps:List Str}{sp:Sp} (c:Cal1 P w K mg base n x ps sp) (h:n≤m):Cal1 P w K mg base m x ps sp:=
 let ⟨g,gd,F,b,k,m⟩:=c.ex
 ⟨g,gd,F.mono h,b,k,m⟩
theorem FnOk.to0 {P:Program}{w:World}{K:PySem.W.Frag}{mg:Str→Option Value}{base:Heap}{n:Nat}{g:Addr}{gd:FuncData}{ps:List Str}{sp:Sp} (F:FnOk P w K mg base (CX1 P w base) n g gd ps sp):
 FnOk P w K mg base CX0 n g gd ps (fun vs H Q _=>sp vs H Q E0):=by
 refine⟨fun vs H Q E h=>F.len vs H Q E0 h,fun A outer s H args us vs Q E hr e0 hb r h=>codeAny_mono (F.run A outer s H args us vs Q E0 hr e0 hb r h) fun rr s' q=>?_⟩
 cases rr with
 |ok fl=>cases fl<;>exact q
 |error e=>
  obtain⟨_,_,_,_,_,_,_,_,_,_,_,_,_,_,_,z⟩:=q
  exact z.elim
theorem Cal1.to0 {P:Program}{w:World}{K:PySem.W.Frag}{mg:Str→Option Value}{base:Heap}{n:Nat}{x:Str}{ps:List Str}{sp:Sp} (c:Cal1 P w K mg base n x ps sp):Cal P w K mg base n x ps (fun vs H Q _=>sp vs H Q E0):=
 let ⟨g,gd,F,b,k,m⟩:=c.ex
 ⟨g,gd,F.to0,b,k,m⟩
theorem Cal.imp {P:Program}{w:World}{K:PySem.W.Frag}{mg:Str→Option Value}{base:Heap}{n:Nat}{x:Str}{ps:List Str}{sp sp':Sp} (c:Cal P w K mg base n x ps sp) (h:∀vs H Q E,sp' vs H Q E→sp vs H Q E):Cal P w K mg base n x ps sp':=
 let ⟨g,gd,F,b,k,m⟩:=c.ex
 ⟨g,gd,F.imp h,b,k,m⟩
section
variable {X:Cx}{e:Expr}{es:List Expr}{t:TA}{p pos:Pos}
theorem y1f {n:Nat}{x:Str}{ps:List Str}{sp:Sp}{E:XK} (c:Cal1 X.prog X.w X.K X.mg X.base n x ps sp) (hr:Room n X.A) (hx:z7o (CX1 X.prog X.w X.base) X E) (hg:Gl X x) (ha:PA X (e::es) t) (hdb:(x==("__debug__":Str))=false:=by decide)
 (he:starEach (e::es) X.env=(false,eval e X.env)::starEach es X.env:=by rfl) (hpl:(backTo pos (starEach es X.env)).any (·.1)=false:=by rfl):PE X (.Call (.Name x p) (e::es) [] pos) (y4J sp [] E t):=by
 obtain⟨g,gd,F,b,k,m⟩:=c.ex
 exact y1e F hr hg m k b .nil hx ha hdb he hpl
end
section
variable {P:Program}{w:World}{K:PySem.W.Frag}{mg:Str→Option Value}{base:Heap}
theorem Fun.ok1 {x qual:Str}{st:Stmt}{f:Addr}{fd:FuncData}{N ps:List Str}{k:Nat}{sp:Sp} (F:Fun K x qual st f fd) (S:z0r N ps (z0j st)) (len:∀vs H Q E,sp vs H Q E→vs.length=ps.length)
 (hbody:∀(cdv:Value) (A:Around) (outer:List Env) (s:Shared) (H:Hp) (vs:List V) (Q:VK) (E:XK),Room k (A.deeper (envOfC qual (z0j st) s.heap.objs.size f cdv))→
  y3I (y4p (CX1 P w base) P w K mg base N qual (z0j st) f cdv A outer s H E) E→sp vs H Q E→
  ∃t,PSs (y4p (CX1 P w base) P w K mg base N qual (z0j st) f cdv A outer s H E) (z2c st) t∧t {nx:=fun _ H'=>Q .non H',rt:=Q} (start N vs) H):FnOk P w K mg base (CX1 P w base) (k+1) f fd ps sp:=by
 obtain⟨oc,od,kV,doc,pm,an,cdv,ct,osl,rfl,lk,hcd⟩:=F.ex
 exact y6M lk hcd S len fun A outer s H vs Q E hr hsp=>hbody cdv A outer s H vs Q E hr ⟨rfl,rfl,rfl,rfl⟩ hsp
end
abbrev vErr:List Value:=[.type "ValueError",.type "Exception",.type "BaseException",.type "object"]
structure y5D (K:Frag) (C:Addr):Prop where
 ex:∃nm q N bs bm hdct sn sub ab col dd k0 k1 k2 k3 k5,K.lookup C=some (excClassObj nm q C N bs bm hdct sn sub ab col dd k0 k1 k2 k3 k5 "ValueError.__new__")∧nsOkIn K N=true∧nsIn K N "__init__"=some none∧tailIn K vErr bm=true
section
variable {X:Cx}{E:XK}{C:Addr}{x:Str}{np cpos pos:Pos}{e₀:Expr}{rest:List Expr}{ta:TA}
theorem y3b (B:y3I X E) (hc:X.calm=true) (M:y5D X.K C) (hm:X.mg x=some (.ref C)) (hg:Gl X x) (ha:PA X (e₀::rest) ta) (hdb:(x==("__debug__":Str))=false:=by decide)
 (he:starEach (e₀::rest) X.env=(false,eval e₀ X.env)::starEach rest X.env:=by rfl) (hpl:(backTo cpos (starEach rest X.env)).any (·.1)=false:=by rfl):
 PS X (.Raise (some (.Call (.Name x np) (e₀::rest) [] cpos)) none pos) (fun _ σ H=>ta σ H fun vs H1=>vs.length≤sizeLine∧E (.ref C) none H1):=by
 intro pins s σ H D I h
 obtain⟨nm,q,N,bs,bm,hdct,sn,sub,ab,col,dd,k0,k1,k2,k3,k5,lk,ok,ini,tl⟩:=M.ex
 have T0:OwnTail X.base vErr bm:=tail_of_in I.ok.mod.kin tl
 have hb:(backTo cpos (starEach (e₀::rest) X.env)).any (·.1)=false:=by
  rw[he]
  show (false || (backTo cpos (starEach rest X.env)).any (·.1))=false
  rw[hpl];rfl
 refine wpAny_Raise_call_subU (C:=C) (bm:=bm) (mN:=X.base.nsMap N) (nm:=nm) (q:=q) (N:=N) (bs:=bs) (hdct:=hdct) (sn:=sn) (sub:=sub) (ab:=ab) (col:=col) (dd:=dd)
  (k0:=k0) (k1:=k1) (k2:=k2) (k3:=k3) (k5:=k5) F.excBase_ValueError (by decide) F.excBase_ValueError (T0.hasType (by decide)) (I.ok.hd hc) hb (nsMap_none_of_in I.ok.mod.kin ok ini) (z4q I hg hm ⟨rfl,?_⟩ hdb)
 have hA:=ha cpos pins s σ H _ I h
 rw[he] at hA ⊢
 refine Calls.evalArgs_plain (wpAny_mono hA (fun us s2 ⟨vs,H1,I1,r1,hl,q1⟩=>⟨rfl,by rw[←r1.length];exact hl,I1.bk _ _ (I.ok.mod.kin _ _ lk),(Heap.Ns.of_isNs (isNs_of_in I.ok.mod.kin ok)).keeps I1.bk,T0.keeps I1.bk,fun h' a hx=>?_⟩) fun _ _ y=>y)
 obtain⟨t,et,_,_⟩:=hx.there
 have I2:Inv X pins σ H1 {s2 with heap:=h'}:=I1.kept (t':=s2.toks) hx.keeps
 refine y3X B I2 (cls:= .ref C) (dx:=none) ⟨⟨_,_,et,rfl,rfl,rfl,by simp,.inl rfl,fun T z=>?_⟩,?_,?_,fun p hp z=>?_⟩ q1
 ·cases z
 ·cases z:H1 a with
  |none=>rfl
  |some u=>
   obtain⟨ob,eo⟩:=(I1.hok a u z).there
   rw[hx.new] at eo;cases eo
 ·cases z:X.s₀.heap.get? a with
  |none=>rfl
  |some o=>
   obtain⟨o',e'⟩:=I1.base.there a o z (by rw[B.ex];simp)
   rw[hx.new] at e';cases e'
 ·have:=(I1.pin p hp).1
  rw[z,hx.new] at this;cases this
end
def IsX (a C:Addr):HO:= .ext fun h=>∃ox,InstAt h a ox C none
abbrev Cx.inX (X:Cx) (a:Addr):Cx:={X with A:=X.A.mark (some (.ref a)),calm:=false,xe:=fun _ _=>False}
section
variable {X:Cx}{pins:List (Addr×Obj)}{σ:St}{H:Hp}{s:Shared}
theorem Cx.Ok.inX (ok:X.Ok) (a:Addr):(X.inX a).Ok :=
 ⟨ok.mod,ok.kind,ok.glob,ok.blt,ok.above,ok.inj,ok.has,ok.cab,(fun h=>Bool.noConfusion h),ok.frames,ok.stk,ok.exf,ok.bs,ok.bsz,ok.noex,ok.exfs,ok.funs,ok.frf⟩
theorem Inv.inX (I:Inv X pins σ H s) (a:Addr):Inv (X.inX a) pins σ H s:=⟨I.ok.inX a,I.os,I.bare,I.base,I.loc,I.cell,I.free,I.freeC,I.pin,I.hok,I.len⟩
theorem Inv.offX {a:Addr} (ok:X.Ok) (I:Inv (X.inX a) pins σ H s):Inv X pins σ H s:=⟨ok,I.os,I.bare,I.base,I.loc,I.cell,I.free,I.freeC,I.pin,I.hok,I.len⟩
theorem Inv.unname {n:Str}{j:Nat}{h':Heap}{v:Option Value}{m:Str→Option Value}{t':Nat} (I:Inv X pins σ H s) (hN:X.N.Nodup) (hj:X.N[j]? =some n) (hm:s.heap.Ns X.env.locals m)
 (hl:∀(i:Nat) (x:Str) (v:V),X.N[i]? =some x→σ[i]? =some (some v)→Vis X.env.scope x→∃u,RelV v u∧Look X.env s.heap m x u)
 (hn:h'.Ns X.env.locals (fun x=>if x=n then v else m x)) (sb:Heap.SameBut X.env.locals s.heap h'):Inv X pins (σ.set j none) H {s with heap:=h',toks:=t'}:=by
 have jl:j<σ.length:=by rw[I.len];exact (q0y.mp hj).1
 obtain⟨oL,_,_,hoL,_⟩:=id hm
 have low:∀b o,X.s₀.heap.get? b=some o→b≠X.env.locals:=fun b o e=>q0v (q0F (q0n e) I.ok.above)
 refine⟨I.ok,I.os,I.bare,⟨fun b o e n hb hx=>(sb.2 b (low b o e)).trans (I.base.keep b o e n hb hx),fun b o e n hb hx=>?_,I.base.free,fun b o e hx=>?_,I.base.tups,I.base.frzs,I.base.tbls⟩,⟨_,hn,fun i x w e1 e2 e3=>?_⟩,fun x c e=>?_,I.free,I.freeC,fun p hp=>?_,fun b u e=>?_,by simpa using I.len⟩
 ·obtain⟨sl,e1⟩:=I.base.slot b o e n hb hx
  exact⟨sl,(sb.2 b (low b o e)).trans e1⟩
 ·obtain⟨o',e1⟩:=I.base.there b o e hx
  exact⟨o',(sb.2 b (low b o e)).trans e1⟩
 ·by_cases hi:i=j
  ·subst hi
   rw[q1L jl] at e2;cases e2
  ·rw[q1E (Ne.symm hi)] at e2
   obtain⟨u,r,lk⟩:=hl i x w e1 e2 e3
   refine⟨u,r,?_⟩
   rcases lk with⟨k,e⟩|⟨k,c,e,z⟩
   ·refine .inl ⟨k,?_⟩
    have hx:x≠n:=fun q=>hi (z5Q hN e1 (q▸hj))
    show (if x=n then v else m x)=some u
    rw[if_neg hx]
    exact e
   ·exact .inr ⟨k,c,e,z.sameBut sb (I.cne x c e)⟩
 ·obtain⟨w',z⟩:=I.cell x c e
  exact⟨w',z.sameBut sb (I.cne x c e)⟩
 ·obtain⟨e,n1,nl,nf,dd⟩:=I.pin p hp
  exact⟨(sb.2 p.1 nl).trans e,n1,nl,nf,dd⟩
 ·refine (I.hok b u e).stay (fun c w' hc q=>(sb.2 c fun z=>?_).trans q) (fun _ q=>q) fun _ _ q=>q
  subst z
  rcases hc with z|z
  ·rw[←z,I.free] at e;cases e
  ·rw[I.free] at z;cases z
end
def tTryC (K:Frag) (sp:Sp) (ta:TA) (j:Nat) (W:Addr) (ts:TS):TS:=fun D σ H=>ta σ H fun vs H1=>sp (vs++[]) H1 (fun _ H2=>D.nx σ H2) fun cls dx H2=>
 ∃C,cls= .ref C∧dx=none∧exmOne K (.ref C) (.ref W)=some true∧∀a,H2 a=none→
  ts {nx:=fun σ' H'=>D.nx (σ'.set j none) H',rt:=fun _ _=>False} (σ.set j (some (.ref a))) (upd H2 a (IsX a C))
section
variable {X:Cx}{fx cx n:Str}{fp cpos xpos hp hpos tpos:Pos}{e:Expr}{es:List Expr}{ta:TA}{k j:Nat}{ps:List Str}{sp:Sp}{W:Addr}{st0:Stmt}{ts:TS}
theorem y6e (c:Cal1 X.prog X.w X.K X.mg X.base k fx ps sp) (hr:Room k X.A) (hcalm:X.calm=true) (hex:X.ex=[]) (hst:X.stack=X.env::X.outer) (hfr:X.env.frame=some X.env.locals) (hg:Gl X fx) (ha:PA X.nox (e::es) ta) (hgc:Gl X cx) (hmc:X.mg cx=some (.ref W))
 (hN:X.N.Nodup) (hj:X.N[j]? =some n) (hl:X.env.scope.names.lookup n=some .local) (hs0:∀a,PSs (X.inX a) [st0] ts) (hfn:X.fn n=true)
 (hdb:(fx==("__debug__":Str))=false:=by decide) (hdc:(cx==("__debug__":Str))=false:=by decide)
 (he:starEach (e::es) X.env=(false,eval e X.env)::starEach es X.env:=by rfl) (hpl:(backTo cpos (starEach es X.env)).any (·.1)=false:=by rfl)
 (hsw:swapsWith (.Call (.Name fx fp) (e::es) [] cpos) none xpos.line X.env=pure false:=by rfl):
 PS X (.Try [.Expr (.Call (.Name fx fp) (e::es) [] cpos) xpos] [.ExceptHandler (some (.Name cx hp)) (some n) [st0] hpos] [] [] tpos) (tTryC X.K sp ta j W ts):=by
 intro pins s σ H D I h
 obtain⟨g,gd,F,hb,hk,hm⟩:=c.ex
 refine wpAny_Try_except ?_
 refine wpAny_execs_cons (wpAny_Expr_any ?_ I.quiet hsw)
 refine wpAny_Call_Name_kw (z4q I hg hm ?_ hdb)
 refine PySem.W.callWith_K (h₀:=X.base) I.ok.mod.kin hk (wpAny_mono (ha cpos pins s σ H _ (I.wish _) h) (fun us s1 ⟨vs,H1,I1,r,q⟩=>⟨I1.kIn,?_⟩) fun _ _ z=>z.elim) he hpl
 have I1:=I1.unwish
 have r2:Vals (vs++[]) (us++[]):=r.append .nil
 have hlen:(us++[]).length =ps.length:=by rw[←r2.length];exact F.len _ _ _ _ q
 refine wpAny_call (codeAny_mono (F.run X.A X.stack s1 H1 ⟨us,[]⟩ (us++[]) (vs++[]) _ _ hr I1.env0 (hb s1 us I1.kIn hlen) r2 q) fun rr s' hq=>?_)
 cases rr with
 |ok fl=>
  cases fl with
  |ret u=>
   obtain⟨v,H',I',_,q'⟩:=I1.after hq
   exact wpAny_execs_nil (wpAny_execs_nil ⟨σ,H',I',q'⟩)
  |next=>exact False.elim hq
  |brk=>exact False.elim hq
  |cont=>exact False.elim hq
 |error ev=>
  obtain⟨a,cls,dx,H',rfl,I',Fl,C,rfl,rfl,hex1,hsu⟩:=y6Y I1 hex hq
  refine y2e I' hex hst hfr Fl fun h' T I2 Fl2 _ _ _=>?_
  refine wpAny_handleBy_cons ?_ (by intro z;cases z)
  have fr2:(X.A.mark (some (.ref a))).frames =X.A.frames:=rfl
  have I3:=I2.inX a
  refine codeAny_handlers_test (z4q I3 (show Gl (X.inX a) cx from hgc) hmc ?_ hdc)
  obtain⟨oe,vs',ha2,hcls,hdd,hdat,hz,tr,hTT⟩:=Fl2.ex
  have IA:InstAt h' a oe C none:=⟨ha2,hcls,by (obtain⟨c1,d1,dt1,sl1⟩:=oe;subst hdat;rfl),by rw[hdd];trivial⟩
  refine (exm_one (M:=model X.prog X.w) (h:=h') I2.kIn IA.type hex1).at ?_
  refine codeAny_handlers_suite_as ?_
  obtain⟨T,oT,ts',e4,e5,e7,e8,e9⟩:∃T oT ts',vs'[1]? =some (.ref T)∧T≠a∧h'.get? T=some oT∧oT.data= .fields ts'∧ts'[3]? =some .none :=by
   rename_i fl3 _ _
   obtain⟨oe3,vs3,oT,ts3,g1,g2,g3,g4,g5,g6,g7,g8,g9,g10⟩:=fl3
   rw[ha2] at g1;cases g1
   rw[hdat] at g4;cases g4
   exact⟨T,oT,ts3,g6,g7,g8,g9,g10⟩
  unfold setFlight
  refine wpAny_bind (wpAny_field ha2 hdat e4 ?_)
  rw[if_pos (show (Value.ref T != Value.none)=true from by simp)]
  refine wpAny_setField e7 e8 (Array.getElem?_eq_some_iff.mp e9).1 ?_
  have m1:=z2l e8 (·.setIfInBounds 3 ((none:Option Addr).elim Value.none fun f=>rawInt f))
  have sames:ts'.setIfInBounds 3 Value.none=ts':=by
   refine Array.ext_getElem? fun i=>?_
   by_cases hi:3=i
   ·subst hi
    rw[Array.getElem?_setIfInBounds_self_of_lt (Array.getElem?_eq_some_iff.mp e9).1,e9]
   ·rw[Array.getElem?_setIfInBounds_ne hi]
  have same:({oT with data:= .fields (ts'.setIfInBounds 3 Value.none)}:Obj)=oT:=by
   rw[sames]
   obtain⟨c1,d1,dt1,sl1⟩:=oT
   subst e8
   rfl
  have kk:∀b o,h'.get? b=some o→(h'.update T (Obj.mapFields (·.setIfInBounds 3 ((none:Option Addr).elim Value.none fun f=>rawInt f)))).get? b=some o:=fun b o eo=>by
   by_cases hb:b=T
   ·subst hb
    rw[e7] at eo;cases eo
    have:=q1S (Obj.mapFields (·.setIfInBounds 3 ((none:Option Addr).elim Value.none fun f=>rawInt f))) e7 (Obj.isFreed_of_fields (Obj.data_mapFields e8 _))
    rw[m1] at this
    exact this.trans (congrArg some same)
   ·rw[q0N _ _ (Ne.symm hb)]
    exact eo
  dsimp only
  have I4:Inv X pins σ H' {s' with heap:=h'.update T (Obj.mapFields (·.setIfInBounds 3 ((none:Option Addr).elim Value.none fun f=>rawInt f)))}:=I2.kept (t':=s'.toks) kk
  have I5:Inv X pins σ (upd H' a (IsX a C)) {s' with heap:=h'.update T (Obj.mapFields (·.setIfInBounds 3 ((none:Option Addr).elim Value.none fun f=>rawInt f)))}:=by
   refine⟨I4.ok,I4.os,I4.bare,⟨I4.base.keep,I4.base.slot,fun b o eb nb hx=>?_,I4.base.there,fun b xs q=>?_,fun b o u q=>?_,fun b ps' q=>?_⟩,I4.loc,I4.cell,?_,fun x c e=>?_,fun p hp=>?_,fun b u eb=>?_,I4.len⟩
   ·have:b≠a:=fun z=>by subst z;rw[Fl2.new] at eb;cases eb
    rw[z0i this];exact I4.base.free b o eb nb hx
   ·have q':=I4.base.tups b xs q
    rw[z0i (z0g q' Fl2.hn)];exact q'
   ·have q':=I4.base.frzs b o u q
    rw[z0i (z0g q' Fl2.hn)];exact q'
   ·obtain⟨mr,q'⟩:=I4.base.tbls b ps' q
    exact⟨mr,by rw[z0i (z0g q' Fl2.hn)];exact q'⟩
   ·have:X.env.locals≠a:=fun z=>by
        obtain⟨mm,⟨o1,es1,ep1,ho1,dd1,_⟩,_⟩:=I2.loc
        rw[z] at ho1
        rw[ha2] at ho1;cases ho1
        rw[hdat] at dd1;cases dd1
    rw[z0i this];exact I4.free
   ·have:c≠a:=fun z=>by
        obtain⟨v1,o1,ho1,dd1⟩:=I2.cell x c e
        rw[z] at ho1
        rw[ha2] at ho1;cases ho1
        rw[hdat] at dd1;cases dd1
    rw[z0i this];exact I4.freeC x c e
   ·obtain⟨q1,q2,q3,q4,q5⟩:=I4.pin p hp
    refine⟨q1,?_,q3,q4,q5⟩
    rw[z0i (Fl2.pn p hp)];exact q2
   ·by_cases hb:b=a
    ·subst hb
     rw[z0b] at eb;cases eb
     exact⟨⟨oe,⟨kk _ _ ha2,IA.cls,IA.no,by rw[hdd];trivial⟩⟩,⟨_,kk _ _ ha2⟩,fun h1 h2 ⟨ox,J⟩ st=>⟨ox,⟨st _ J.at_,J.cls,J.no,by
         have jd:=J.dict
         revert jd
         cases ox.dict<;>exact fun z=>z⟩⟩⟩
    ·rw[z0i hb] at eb
     exact (I4.hok b u eb).stay (fun c v _ q=>q) (fun c q=>by rw[z0i (z0g q Fl2.hn)];exact q) fun c xs q=>by rw[z0i (z0g q Fl2.hn)];exact q
  refine z2R (X:=X) I5 hN hj (.inl hl) (show RelV (.ref a) (.ref a) from rfl) (fun s6 I6=>?_) (.inl hfn)
  refine wpAny_mono (hs0 a pins s6 _ _ _ (I6.inX a) (hsu a Fl2.hn)) (fun fl s7 q7=>?_) fun _ _ z=>z.elim
  cases fl with
  |next=>
   obtain⟨σ7,H7,I7,q7⟩:=q7
   have I7:=I7.offX I6.ok
   obtain⟨m,hns,hlk⟩:=id I7.loc
   refine wpAny_nameGoes_keeps hl hns (by rw[I7.ok.kind];rfl) fun h8 v8 hn8 sb8=>?_
   exact⟨_,H7,I7.unname hN hj hns hlk hn8 sb8,q7⟩
  |ret u=>obtain⟨_,_,_,_,_,z⟩:=q7;exact z.elim
  |brk=>obtain⟨_,_,_,z⟩:=q7;exact z.elim
  |cont=>obtain⟨_,_,_,z⟩:=q7;exact z.elim
end
section
variable {X:Cx}
theorem z7h:z1x X (.builtin "isinstance") (fun xs H Q=>∃(a C D:Addr) (k:Bool),xs=[.ref a,.ref D]∧H a=some (IsX a C)∧ExcK X.K C∧PySem.W.kitOne X.K (.ref C) (.ref D)=some k∧Q (.bl k) H):=by
 intro pins s σ H xs us Q I r h
 obtain⟨a,C,D,k,rfl,e,K1,ek,q⟩:=h
 obtain⟨u,w',rfl,r1,r2⟩:=z7r r
 cases (show u=Value.ref a from r1)
 cases (show w'=Value.ref D from r2)
 obtain⟨⟨ox,J⟩,_,_⟩:=I.hok a _ e
 exact q1l (z6a K1) I.kIn ⟨ox,none,J⟩ ek (fun z=>nomatch z) fun tk=>⟨.bl k,H,I.tok tk,rfl,q⟩
theorem z6k:z1x X (.builtin "isinstance") (fun xs H Q=>∃(a C:Addr) (n:String) (k:Bool),xs=[.ref a,.ty n]∧H a=some (IsX a C)∧ExcK X.K C∧PySem.W.kitOne X.K (.ref C) (.type n)=some k∧Q (.bl k) H):=by
 intro pins s σ H xs us Q I r h
 obtain⟨a,C,n,k,rfl,e,K1,ek,q⟩:=h
 obtain⟨u,w',rfl,r1,r2⟩:=z7r r
 cases (show u=Value.ref a from r1)
 cases (show w'=Value.type n from r2)
 obtain⟨⟨ox,J⟩,_,_⟩:=I.hok a _ e
 exact q1l (z6a K1) I.kIn ⟨ox,none,J⟩ ek (fun z=>nomatch z) fun tk=>⟨.bl k,H,I.tok tk,rfl,q⟩
theorem z6o:∀{cs:List Addr}{its:List Value},Vals (cs.map V.ref) its→its=cs.map Value.ref
 |[],_,.nil =>rfl
 |c::r,_,.cons r1 rr=>by
  cases (show _=Value.ref c from r1)
  rw[q0L,←z6o rr]
theorem z6j:z1x X (.builtin "isinstance") (fun xs H Q=>∃(a C t:Addr) (cs:List Addr) (k:Bool),xs=[.ref a,.ref t]∧H a=some (IsX a C)∧ExcK X.K C∧H t=some (.tup (cs.map V.ref))∧PySem.W.kitAny X.K (.ref C) (cs.map Value.ref)=some k∧Q (.bl k) H):=by
 intro pins s σ H xs us Q I r h
 obtain⟨a,C,t,cs,k,rfl,e,K1,et,ek,q⟩:=h
 obtain⟨u,w',rfl,r1,r2⟩:=z7r r
 cases (show u=Value.ref a from r1)
 cases (show w'=Value.ref t from r2)
 obtain⟨⟨ox,J⟩,_,_⟩:=I.hok a _ e
 obtain⟨_,its,rv,o,ho,hc,n,hd⟩:=I.hok t _ et
 have ei:=z6o rv
 subst ei
 obtain⟨c1,d1,dt1,sl1⟩:=o
 dsimp only at hc hd
 subst hc hd
 exact PySem.W.kia_tup (z6a K1) I.kIn ⟨ox,none,J⟩ ho ek (fun z=>nomatch z) fun tk=>⟨.bl k,H,I.tok tk,rfl,q⟩
end
theorem z4D:bootBuiltins "ValueError"=some (.type "ValueError"):=by decide+kernel
end L2
namespace L2
open PySem PySem.Spec PyProof.Rows
inductive Dt where
 |i (n:Int)
 |t (l:List Dt)
 |l (l:List Dt)
mutual
inductive IsD (K:PySem.W.Frag) (H:Hp):V→Dt→Prop
 |i (n:Int):IsD K H (.int n) (.i n)
 |t {a:Addr}{xs:List V}{ds:List Dt}:SqT K H a xs→IsDs K H xs ds→IsD K H (.ref a) (.t ds)
 |l {a:Addr}{xs:List V}{ds:List Dt}:SqL K H a xs→IsDs K H xs ds→IsD K H (.ref a) (.l ds)
inductive IsDs (K:PySem.W.Frag) (H:Hp):List V→List Dt→Prop
 |nil:IsDs K H [] []
 |cons {x:V}{d:Dt}{xs:List V}{ds:List Dt}:IsD K H x d→IsDs K H xs ds→IsDs K H (x::xs) (d::ds)
end
mutual
def Dt.eqb:Dt→Dt→Bool
 | .i n,.i m=>n==m
 | .t a,.t b=>Dt.eqs a b
 | .l a,.l b=>Dt.eqs a b
 |_,_=>false
def Dt.eqs:List Dt→List Dt→Bool
 |[],[]=>true
 |x::a,y::b=>Dt.eqb x y&&Dt.eqs a b
 |_,_=>false
end
mutual
theorem Dt.eqb_iff:∀(d e:Dt),Dt.eqb d e=true↔d=e
 | .i n,.i m=>by simp[Dt.eqb]
 | .t a,.t b=>by simp only[Dt.eqb,Dt.t.injEq];exact Dt.eqs_iff a b
 | .l a,.l b=>by simp only[Dt.eqb,Dt.l.injEq];exact Dt.eqs_iff a b
 | .i _,.t _=>by simp[Dt.eqb]
 | .i _,.l _=>by simp[Dt.eqb]
 | .t _,.i _=>by simp[Dt.eqb]
 | .t _,.l _=>by simp[Dt.eqb]
 | .l _,.i _=>by simp[Dt.eqb]
 | .l _,.t _=>by simp[Dt.eqb]
theorem Dt.eqs_iff:∀(a b:List Dt),Dt.eqs a b=true↔a=b
 |[],[]=>by simp[Dt.eqs]
 |x::a,y::b=>by simp only[Dt.eqs,Bool.and_eq_true,List.cons.injEq,Dt.eqb_iff x y,Dt.eqs_iff a b]
 |[],_::_=>by simp[Dt.eqs]
 |_::_,[]=>by simp[Dt.eqs]
end
mutual
def Dt.ok:Nat→Dt→Dt→Bool
 |_,.i _,.i _=>true
 |n+1,.t a,.t b=>Dt.oks n a b
 |n+1,.l a,.l b=>Dt.oks n a b
 |_,_,_=>false
def Dt.oks:Nat→List Dt→List Dt→Bool
 |n,x::a,y::b=>Dt.ok n x y&&Dt.oks n a b
 |_,_,_=>true
end
section
variable {X:Cx}{pins:List (Addr×Obj)}{σ:St}{H:Hp}{s:Shared}{K:PySem.W.Frag}
theorem IsDs.length:∀{xs:List V}{ds:List Dt},IsDs K H xs ds→xs.length=ds.length
 |_,_,.nil =>rfl
 |_,_,.cons _ r=>by rw[List.length_cons,List.length_cons,r.length]
theorem z4M (n:Nat) (e:Nat→Bool):(List.range (n+1)).all e=(e 0&&(List.range n).all fun j=>e (j+1)):=by
 rw[List.range_succ_eq_map,List.all_cons,List.all_map]
 rfl
theorem z6g:∀(ds es:List Dt),(Dt.eqs (ds.take (min ds.length es.length)) (es.take (min ds.length es.length))&&ds.length==es.length)=Dt.eqs ds es
 |[],[]=>by simp[Dt.eqs]
 |[],_::_=>by simp[Dt.eqs]
 |_::_,[]=>by simp[Dt.eqs]
 |d::ds,e::es=>by
  have m:min (d::ds).length (e::es).length =min ds.length es.length+1:=by simp only[q0u];lia
  rw[m,List.take_succ_cons,List.take_succ_cons]
  have ih:=z6g ds es
  have l:((d::ds).length ==(e::es).length)=(ds.length==es.length):=by simp
  rw[l]
  simp only[Dt.eqs,Bool.and_assoc,ih]
mutual
theorem y2u (I:Inv X pins σ H s):∀{v:V}{d e:Dt},IsD X.K H v d→IsD X.K H v e→d=e
 |_,_,_,.i _,.i _=>rfl
 |_,_,_,.t q1 d1,.t q2 d2=>by
  have e1:=I.tuple_inj q1 q2
  subst e1
  rw[z6h I d1 d2]
 |_,_,_,.l q1 d1,.l q2 d2=>by
  have e1:=I.list_inj q1 q2
  subst e1
  rw[z6h I d1 d2]
 |_,_,_,.t q1 _,.l q2 _=>by
  obtain⟨_,_,⟨o,h1,h2,_⟩,_⟩:=I.tuple q1
  obtain⟨_,_,p,_⟩:=I.list q2
  obtain⟨o',h1',h2',_⟩:=p.isList
  rw[h1] at h1';cases h1'
  rw[h2] at h2'
  exact absurd (Value.type.inj h2') (by decide)
 |_,_,_,.l q2 _,.t q1 _=>by
  obtain⟨_,_,⟨o,h1,h2,_⟩,_⟩:=I.tuple q1
  obtain⟨_,_,p,_⟩:=I.list q2
  obtain⟨o',h1',h2',_⟩:=p.isList
  rw[h1] at h1';cases h1'
  rw[h2] at h2'
  exact absurd (Value.type.inj h2') (by decide)
theorem z6h (I:Inv X pins σ H s):∀{xs:List V}{ds es:List Dt},IsDs X.K H xs ds→IsDs X.K H xs es→ds=es
 |_,_,_,.nil,.nil =>rfl
 |_,_,_,.cons h1 r1,.cons h2 r2=>by rw[y2u I h1 h2,z6h I r1 r2]
end
def Told (X:Cx) (H:Hp) (s:Shared) (n:Nat) (A:Around):Prop:=∀(v u:V) (d e:Dt) (x y:Value),IsD X.K H v d→IsD X.K H u e→RelV v x→RelV u y→Dt.ok n d e=true→SeqAt.EqAt A s x y (Dt.eqb d e)
theorem y2j {n:Nat}{A:Around} (P:Told X H s n A):∀{xs ys:List V}{ds es:List Dt}{its its2:List Value},IsDs X.K H xs ds→IsDs X.K H ys es→Vals xs its→Vals ys its2→Dt.oks n ds es=true→
 ∃e:Nat→Bool,(∀j (h1:j<its.length) (h2:j<its2.length),SeqAt.EqAt A s its[j] its2[j] (e j))∧(List.range (min its.length its2.length)).all e=(Dt.eqs (ds.take (min ds.length es.length)) (es.take (min ds.length es.length)))
 :=by
 intro xs
 induction xs with
 |nil=>
  intro ys ds es its its2 h1 _ v1 _ _
  cases h1
  cases v1
  exact⟨fun _=>true,fun j h1 _=>absurd h1 (Nat.not_lt_zero _),by simp[Dt.eqs]⟩
 |cons a xs ih=>
  intro ys ds es its its2 h1 h2 v1 v2 ok
  cases h1 with
  | @cons _ d _ ds h1 r1=>
  cases v1 with
  | @cons _ x _ its v1 w1=>
  cases h2 with
  |nil=>
   cases v2
   exact⟨fun _=>true,fun j _ h2=>absurd h2 (Nat.not_lt_zero _),by simp[Dt.eqs]⟩
  | @cons _ e' _ es h2 r2=>
  cases v2 with
  | @cons _ y _ its2 v2 w2=>
  have ok':Dt.ok n d e'=true∧Dt.oks n ds es=true:=by simpa[Dt.oks] using ok
  have hd:=P _ _ d e' x y h1 h2 v1 v2 ok'.1
  obtain⟨e,he,hall⟩:=ih r1 r2 w1 w2 ok'.2
  refine⟨fun j=>Nat.casesOn j (Dt.eqb d e') e,fun j h1 h2=>?_,?_⟩
  ·cases j with
   |zero=>exact hd
   |succ j=>exact he j (by simpa using h1) (by simpa using h2)
  ·have m1:min (x::its).length (y::its2).length =min its.length its2.length+1:=by simp only[q0u];lia
   have m2:min (d::ds).length (e'::es).length =min ds.length es.length+1:=by simp only[q0u];lia
   rw[m1,m2,z4M,List.take_succ_cons,List.take_succ_cons]
   show (Dt.eqb d e'&&(List.range (min its.length its2.length)).all e)=(Dt.eqb d e'&&Dt.eqs _ _)
   rw[hall]
theorem y2U {ds es:List Dt} (hl:ds.length=es.length):Dt.eqs (ds.take (min ds.length es.length)) (es.take (min ds.length es.length))=Dt.eqs ds es:=by
 have e5:=z6g ds es
 have z:(ds.length==es.length)=true:=by simpa using hl
 rw[z,Bool.and_true] at e5
 exact e5
theorem y0U (I:Inv X pins σ H s) {n:Nat}{A:Around} (P:Told X H s n A.in1) (hu:A.units<cLine) {a b:Addr}{d e:Dt} (hv:IsD X.K H (.ref a) d) (hw:IsD X.K H (.ref b) e) (ok:Dt.ok (n+1) d e=true):
 SeqAt.RcAt A s (.ref a) (.ref b) (Dt.eqb d e)∧SeqAt.RcNeAt A s (.ref a) (.ref b) (!Dt.eqb d e):=by
 cases hv with
 |t q1 d1=>
  cases hw with
  |l _ _=>simp[Dt.ok] at ok
  |t q2 d2=>
   rename_i xs ds ys es
   obtain⟨its,rv,p,hz⟩:=I.tuple q1
   obtain⟨its2,rv2,p2,hz2⟩:=I.tuple q2
   have ok':Dt.oks n ds es=true:=by simpa[Dt.ok] using ok
   obtain⟨f,hf,hall⟩:=y2j P d1 d2 rv rv2 ok'
   have t1:=SeqAt.RcAt.tuples (A:=A) (s:=s) (e:=f) (show s.heap.IsTuple a its.toArray from p) (show s.heap.IsTuple b its2.toArray from p2) hu (fun j h1 h2=>by simpa using hf j (by simpa using h1) (by simpa using h2))
   have t2:=SeqAt.RcNeAt.tuples (A:=A) (s:=s) (e:=f) (show s.heap.IsTuple a its.toArray from p) (show s.heap.IsTuple b its2.toArray from p2) hu (fun j h1 h2=>by simpa using hf j (by simpa using h1) (by simpa using h2))
   rw[q0e,q0e,hall,←rv.length,←rv2.length,d1.length,d2.length,z6g ds es] at t1 t2
   exact⟨t1,t2⟩
 |l q1 d1=>
  cases hw with
  |t _ _=>simp[Dt.ok] at ok
  |l q2 d2=>
   rename_i xs ds ys es
   obtain⟨its,rv,p,hz⟩:=I.list q1
   obtain⟨its2,rv2,p2,hz2⟩:=I.list q2
   have ok':Dt.oks n ds es=true:=by simpa[Dt.ok] using ok
   have l1:its.length=ds.length:=by rw[←rv.length,d1.length]
   have l2:its2.length=es.length:=by rw[←rv2.length,d2.length]
   by_cases hl:ds.length=es.length
   ·obtain⟨f,hf,hall⟩:=y2j P d1 d2 rv rv2 ok'
    have sz:its.toArray.size=its2.toArray.size:=by rw[q0e,q0e];lia
    have t1:=SeqAt.RcAt.lists (A:=A) (s:=s) (e:=f) p.isList p2.isList sz hu (fun j h1 h2=>by simpa using hf j (by simpa using h1) (by simpa using h2))
    have t2:=SeqAt.RcNeAt.lists (A:=A) (s:=s) (e:=f) p.isList p2.isList sz hu (fun j h1 h2=>by simpa using hf j (by simpa using h1) (by simpa using h2))
    have hm:min its.length its2.length=its.length:=by lia
    rw[hm] at hall
    rw[q0e,hall,y2U hl] at t1 t2
    exact⟨t1,t2⟩
   ·have e5:Dt.eqs ds es=false:=by
     have e5:=z6g ds es
     have z:(ds.length==es.length)=false:=by simpa using hl
     rw[z,Bool.and_false] at e5
     exact e5.symm
    have sz:(its.toArray.size != its2.toArray.size)=true:=by rw[q0e,q0e,l1,l2];simpa using hl
    show SeqAt.RcAt A s _ _ (Dt.eqs ds es)∧SeqAt.RcNeAt A s _ _ (!Dt.eqs ds es)
    rw[e5]
    exact⟨SeqAt.RcAt.lists_lengths p.isList p2.isList sz hu,SeqAt.RcNeAt.lists_lengths p.isList p2.isList sz hu⟩
theorem told (I:Inv X pins σ H s):∀(n:Nat) (A:Around),A.units+n<cLine→Told X H s n A:=by
 intro n
 induction n with
 |zero=>
  intro A hu v u d e x y hv hw r1 r2 ok
  cases hv with
  |i k=>
   cases hw with
   |i m=>
    obtain⟨t,rfl⟩:=r1
    obtain⟨t',rfl⟩:=r2
    exact SeqAt.EqAt.int_int k t m t'
   |t _ _=>simp[Dt.ok] at ok
   |l _ _=>simp[Dt.ok] at ok
  |t _ _=>cases hw<;>simp[Dt.ok] at ok
  |l _ _=>cases hw<;>simp[Dt.ok] at ok
 |succ n ih=>
  intro A hu v u d e x y hv hw r1 r2 ok
  have P:=ih A.in1 (by show A.units+1+n<cLine;lia)
  have refs:∀{a b:Addr},v= .ref a→u= .ref b→SeqAt.EqAt A s x y (Dt.eqb d e):=fun {a b} ev eu=>by
   subst ev eu
   cases (show x=Value.ref a from r1)
   cases (show y=Value.ref b from r2)
   by_cases hab:a=b
   ·subst hab
    rw[(Dt.eqb_iff d e).mpr (y2u I hv hw)]
    exact SeqAt.EqAt.same _
   ·exact SeqAt.EqAt.of_refs hab (y0U I P (by lia) hv hw ok).1
  cases hv with
  |i k=>
   cases hw with
   |i m=>
    obtain⟨t,rfl⟩:=r1
    obtain⟨t',rfl⟩:=r2
    exact SeqAt.EqAt.int_int k t m t'
   |t _ _=>simp[Dt.ok] at ok
   |l _ _=>simp[Dt.ok] at ok
  |t _ _=>
   cases hw with
   |i m=>simp[Dt.ok] at ok
   |t _ _=>exact refs rfl rfl
   |l _ _=>simp[Dt.ok] at ok
  |l _ _=>
   cases hw with
   |i m=>simp[Dt.ok] at ok
   |t _ _=>simp[Dt.ok] at ok
   |l _ _=>exact refs rfl rfl
end
section
variable {X:Cx}
def rEqD (K:PySem.W.Frag):R2:=fun x y H Q=>∃(a b:Addr) (d e:Dt),x= .ref a∧y= .ref b∧IsD K H x d∧IsD K H y e∧Dt.ok 9 d e=true∧Q (.bl (Dt.eqb d e)) H
def rNeD (K:PySem.W.Frag):R2:=fun x y H Q=>∃(a b:Addr) (d e:Dt),x= .ref a∧y= .ref b∧IsD K H x d∧IsD K H y e∧Dt.ok 9 d e=true∧Q (.bl (!Dt.eqb d e)) H
theorem y6t (hu:X.A.units+64<cLine):OpR X (compareOp .Eq) (rEqD X.K):=by
 intro pins s σ H x y v u Q I r1 r2 h
 obtain⟨a,b,d,e,rfl,rfl,h1,h2,ok,q⟩:=h
 cases (show v=Value.ref a from r1)
 cases (show u=Value.ref b from r2)
 exact (y0U I (told I 8 X.A.in1 (by show X.A.units+1+8<cLine;lia)) (by lia) h1 h2 ok).1 _ _ _ _ ⟨.bl _,H,I,rfl,q⟩
theorem y6q (hu:X.A.units+64<cLine):OpR X (compareOp .NotEq) (rNeD X.K):=by
 intro pins s σ H x y v u Q I r1 r2 h
 obtain⟨a,b,d,e,rfl,rfl,h1,h2,ok,q⟩:=h
 cases (show v=Value.ref a from r1)
 cases (show u=Value.ref b from r2)
 exact (y0U I (told I 8 X.A.in1 (by show X.A.units+1+8<cLine;lia)) (by lia) h1 h2 ok).2 _ _ _ _ ⟨.bl _,H,I,rfl,q⟩
theorem z3L {K:PySem.W.Frag}{H:Hp}:∀ns:List Int,IsDs K H (ns.map V.int) (ns.map Dt.i)
 |[]=> .nil
 |n::r=> .cons (.i n) (z3L r)
theorem z2Y (n:Nat):∀a b:List Int,Dt.oks n (a.map Dt.i) (b.map Dt.i)=true
 |[],_=>by simp[Dt.oks]
 |_::_,[]=>by simp[Dt.oks]
 |x::a,y::b=>by
  have:=z2Y n a b
  simp only[q0L,Dt.oks,this,Bool.and_true]
  cases n<;>rfl
theorem z9k:∀a b:List Int,Dt.eqs (a.map Dt.i) (b.map Dt.i)=decide (a=b)
 |[],[]=>by simp[Dt.eqs]
 |[],_::_=>by simp[Dt.eqs]
 |_::_,[]=>by simp[Dt.eqs]
 |x::a,y::b=>by
  have ih:=z9k a b
  simp only[q0L,Dt.eqs,Dt.eqb,ih]
  by_cases h1:x=y<;>by_cases h2:a=b<;>simp[h1,h2]
end
end L2
set_option maxHeartbeats 1000000
namespace L2
open PySem PySem.Spec PyProof.Rows
def z2f (X:Cx) (Nc:List Str) (scope:Scope) (cl:List (Str×Addr)) (C:Addr) (s2:Shared) (H2:Hp) (fp:List Addr):Cx where
 prog:=X.prog
 w:=X.w
 K:=X.K
 mg:=X.mg
 base:=X.base
 A:=X.A
 N:=Nc
 s₀:=s2
 H₀:=H2
 env:=compEnvC scope cl C X.env
 outer:=X.stack
 stack:=X.stack
 ex:=fp
 fn:=fun _=>false
 calm:=true
 pn:=[]
 xe:=fun _ _=>False
def CapC (env:Env):List (Str×Addr)→Prop
 |[]=>True
 |(x,c)::r=>env.cells.lookup x=some c∧CapC env r
def CapN (X:Cx) (scope:Scope) (cl:List (Str×Addr)):List Str→List (Option Nat)→Prop
 |[],[]=>True
 |_::r,none::q=>CapN X scope cl r q
 |x::r,some k::q=>(X.N[k]? =some x∧X.env.kindOf x=some .cell ∧(cl.lookup x).isSome =true∧(relabel scope X.env).names.lookup x=some .cell)∧CapN X scope cl r q
 |_,_=>False
def z0C (fr:List (Option Nat)) (σ:St):St:=fr.map fun o=>o.bind fun k=>(σ[k]?).join
theorem CapC.mem {env:Env}:∀{cl:List (Str×Addr)},CapC env cl→∀x c,cl.lookup x=some c→env.cells.lookup x=some c
 |[],_,x,c,e=>by simp at e
 |(y,d)::r,h,x,c,e=>by
  rw[List.lookup_cons] at e
  split at e
  ·rename_i hb
   have:x=y:=by simpa using hb
   subst this
   cases e
   exact h.1
  ·exact h.2.mem x c e
theorem CapN.length {X:Cx}{scope:Scope}{cl:List (Str×Addr)}:∀{Nc:List Str}{fr:List (Option Nat)},CapN X scope cl Nc fr→fr.length=Nc.length
 |[],[],_=>rfl
 |_::r,none::q,h=>by rw[List.length_cons,List.length_cons,CapN.length (show CapN X scope cl r q from h)]
 |_::r,some k::q,h=>by rw[List.length_cons,List.length_cons,CapN.length h.2]
 |[],_::_,h=>h.elim
 |_::_,[],h=>h.elim
theorem CapN.at {X:Cx}{scope:Scope}{cl:List (Str×Addr)}:∀{Nc:List Str}{fr:List (Option Nat)},CapN X scope cl Nc fr→∀(j:Nat) (x:Str) (k:Nat),Nc[j]? =some x→fr[j]? =some (some k)→
 X.N[k]? =some x∧X.env.kindOf x=some .cell ∧(cl.lookup x).isSome =true∧(relabel scope X.env).names.lookup x=some .cell
 |[],[],_,j,x,k,e,_=>by simp at e
 |_::r,none::q,h,0,x,k,_,e=>by simp at e
 |y::r,some k'::q,h,0,x,k,e1,e2=>by
  simp at e1 e2
  subst e1 e2
  exact h.1
 |_::r,none::q,h,j+1,x,k,e1,e2=>CapN.at (show CapN X scope cl r q from h) j x k (by simpa using e1) (by simpa using e2)
 |_::r,some k'::q,h,j+1,x,k,e1,e2=>CapN.at h.2 j x k (by simpa using e1) (by simpa using e2)
 |[],_::_,h,_,_,_,_,_=>h.elim
 |_::_,[],h,_,_,_,_,_=>h.elim
theorem z2A {scope:Scope}{env:Env}{cl:List (Str×Addr)} (hcell:∀y∈scope.names,y.2≠ .cell) (hall:(scope.names.all fun p=>p.2 != .free || (cl.lookup p.1).isSome)=true):
 ∀x,((relabel scope env).names.lookup x=some .cell ∨(relabel scope env).names.lookup x=some .free)→∃c,cl.lookup x=some c:=by
 intro x hx
 unfold relabel at hx
 dsimp only at hx
 revert hcell hall hx
 generalize scope.names=ns
 intro hcell hall hx
 induction ns with
 |nil=>simp at hx
 |cons p r ih=>
  obtain⟨n,k⟩:=p
  have hk:k≠ .cell :=hcell (n,k) q0j
  simp only[List.all_cons,q1g] at hall
  rw[q0L] at hx
  by_cases hxn:x=n
  ·subst hxn
   have kf:k= .free :=by
        by_cases hc:(k==NameKind.free&&env.scope.kind== .function &&env.kindOf x==some .cell)=true
        ·simp only[q1g,beq_iff_eq] at hc
         exact hc.1.1
        ·dsimp only at hx
         rw[if_neg hc] at hx
         simp only[List.lookup_cons,beq_self_eq_true] at hx
         rcases hx with z|z
         ·exact absurd (Option.some.inj z) hk
         ·exact Option.some.inj z
   have h1:=hall.1
   rw[kf] at h1
   have h2:(cl.lookup x).isSome =true:=by simpa using h1
   exact q2a.mp h2
  ·refine ih (fun y hy=>hcell y (q0h _ hy)) hall.2 ?_
   have hb:(x==n)=false:=by simpa using hxn
   dsimp only at hx
   by_cases hc:(k==NameKind.free&&env.scope.kind== .function &&env.kindOf n==some .cell)=true
   ·rw[if_pos hc] at hx
    simpa only[List.lookup_cons,hb] using hx
   ·rw[if_neg hc] at hx
    simpa only[List.lookup_cons,hb] using hx
def PTs (X:Cx) (ifs:List Expr) (t:TT):Prop:=
 ∀(pins:List (Addr×Obj)) (s:Shared) (σ:St) (H:Hp) (Q:Bool→Hp→Prop),Inv X pins σ H s→t σ H Q→
  wpAny (model X.prog X.w) X.A (forIn ifs true fun c r=>if r=true then do let ok ←isTrue c X.env (eval c X.env);pure (ForInStep.yield ok) else pure (ForInStep.yield r)) (TP X pins σ Q) X.xe s
theorem z0H {X:Cx}:PTs X [] (fun _ H Q=>Q true H):=fun _ _ _ H _ I h=>wpAny_tests_nil ⟨H,I,h⟩
theorem z2J {X:Cx}{c:Expr}{t:TT} (h:PT X c t):PTs X [c] t:=fun pins s σ H Q I q=>wpAny_tests_one (h pins s σ H Q I q)
def z3C (J:It) (g:TG) (tt:TT) (te:TE) (Q:VK) (D:Addr) (σ0:St) (H0:Hp):Prop:=∃W:Nat→Nat→St→Hp→Prop,(∃m,W 0 m σ0 H0)∧∀i m σc Hc,W i m σc Hc→
 (J.stop i Hc∧Q (.ref D) Hc)∨(J.go i Hc∧∀x H',J.yld i Hc x H'→g x σc H' fun σ2 H2=>tt σ2 H2 fun b H3=>
    if b=true then te σ2 H3 fun v H4=>∃acc m',H4 D=some (.lst acc)∧acc.length<sizeLine∧m'<m∧W (i+1) m' σ2 (upd H4 D (.lst (acc++[v]))) else ∃m',m'<m∧W (i+1) m' σ2 H3)
def y5R (fr:List (Option Nat)) (wi:TI) (g:TG) (tt:TT) (te:TE):TE:=fun σ H Q=>wi σ H fun J H1=>∀D,H1 D=none→z3C J g tt te Q D (z0C fr σ) (upd H1 D (.lst []))
section
variable {X:Cx}{tg iter elt:Expr}{ifs:List Expr}{scope:Scope}{pos:Pos}{cl:List (Str×Addr)}{Nc:List Str}{fr:List (Option Nat)}{wi:TI}{g:TG}{tt:TT}{te:TE}
theorem z0G (hc:X.calm=true) (hi:PI X tg iter wi) (hcl:closureFor scope X.env=pure cl) (hcell:∀y∈scope.names,y.2≠ .cell) (hk:scope.kind= .function) (hnm:∀y∈scope.names,y.2= .local →scope.names.lookup y.1=some .local)
 (hall:(scope.names.all fun p=>p.2 != .free || (cl.lookup p.1).isSome)=true) (cc:CapC X.env cl) (cn:CapN X scope cl Nc fr)
 (hg:∀C s2 H2 fp,PG (z2f X Nc scope cl C s2 H2 fp) tg g) (ht:∀C s2 H2 fp,PTs (z2f X Nc scope cl C s2 H2 fp) ifs tt) (he:∀C s2 H2 fp,PE (z2f X Nc scope cl C s2 H2 fp) elt te)
 (hs:∀x,foldedSetIterable iter X.env x=pure x:=by intro _;rfl):PE X (.ListComp elt [⟨tg,iter,ifs,0⟩] scope pos) (y5R fr wi g tt te):=by
 intro pins s σ H Q I h
 rw[eval_ListComp]
 refine wpAny_comprehension_free (use:=none) rfl hs hcl hk hnm ?_
 refine wpAny_mono (hi pins s σ H _ I h) (fun xv s1 h1=>wpAny_mono h1 (fun itv s2 h2=>?_) fun _ _ e=>e) fun _ _ e=>e
 obtain⟨it,fp,tn,J,H2,rfl,I2,T,st2,f2,q2⟩:=h2
 obtain⟨W,⟨m0,w0⟩,turn⟩:=q2 s2.heap.objs.size (I2.hok.fresh (q0k _))
 refine wpAny_newObj_type (wpAny_newFunctionEnv hcell (by intro y hy;simp at hy) (fun h4 ns4 sb4=>?_) hk)
 dsimp only at ns4 sb4 ⊢
 generalize hD:s2.heap.objs.size=D at*
 generalize hL:s2.heap.push {cls:= .type "list",dict:=none,data:= .seq ([]:List Value).toArray}=hl at ns4 sb4 ⊢
 have hlsz:hl.objs.size=D+1:=by rw[←hL,Heap.size_push,hD]
 rw[hlsz] at ns4 sb4 ⊢
 have DC:D≠D+1:=q0v (Nat.lt_succ_self _)
 have low:∀b o,s2.heap.get? b=some o→b<D:=fun b o e=>by rw[←hD];exact q0n e
 have kp:∀b o,s2.heap.get? b=some o→h4.get? b=some o:=fun b o e=>by
  have z:=low b o e
  refine sb4.extBut b o (q0v (q1k z)) (q0d _ ?_)
  rw[←hL]
  exact q0d _ e
 have hD4:h4.get? D=some {cls:= .type "list",dict:=none,data:= .seq ([]:List Value).toArray}:=by
  refine sb4.extBut D _ DC (q0d _ ?_)
  rw[←hL,←hD]
  exact q0o _ rfl
 have hn:H2 D=none:=by rw[←hD];exact I2.hok.fresh (q0k _)
 have hnC:H2 (D+1)=none:=I2.hok.fresh (by rw[hD];exact q1U _)
 let Y:=z2f X Nc scope cl (D+1) s2 H2 fp
 have ixv:∀b∈fp,b<D:=fun b hb=>by
  obtain⟨o,e,_⟩:=T.obj 0 _ st2 b hb
  exact low b o e
 have okY:Y.Ok:=by
  refine⟨I2.ok.mod,?_,I2.ok.glob,I2.ok.blt,?_,?_,?_,?_,fun _=>I2.ok.hd hc,I2.ok.frames,.inl rfl,?_,I2.bs,?_,?_,?_,I2.stack,I2.stkFree⟩
  ·exact hk
  ·show s2.heap.objs.size≤D+1
   lia
  ·intro x y c e1 e2
   exact I2.ok.inj x y c (cc.mem x c e1) (cc.mem y c e2)
  ·intro x hx
   exact z2A hcell hall x hx
  ·intro x c e
   cases e
  ·intro b hb
   refine⟨fun z=>?_,fun x c e z=>?_⟩
   ·exact absurd z (q0v (q1k (ixv b hb)))
   ·exact (f2 b hb).2.2.2.2.1 x c (cc.mem x c e) z
  ·exact q0m I2.ok.bsz I2.sz
  ·intro b o e hb
   have z:=(f2 b hb).2.2.2.1
   rcases z with z|z
   ·exact I2.ok.noex b o e z
   ·exact absurd (q0F (q0n (I2.ok.bs b o e).1) z) (q1F _)
  ·intro b hb z
   have e2:=q0t.mp (I2.stkSub b z)
   rcases e2 with e2|e2
   ·exact (f2 b hb).2.1 e2
   ·exact (f2 b hb).2.2.1 e2
 have IY:Inv Y [] (z0C fr σ) (upd H2 D (.lst [])) {s2 with heap:=h4,toks:=s2.toks+([]:List (Str×Value)).length}:=by
  refine⟨okY,rfl,I2.bare,⟨fun b o e n _ _=>kp b o e,fun b o e n _ _=>⟨o.slots,kp b o e⟩,fun b o e n _=>?_,fun b o e _=>⟨o,kp b o e⟩,fun b xs e=>?_,fun b o u e=>?_,fun b ps e=>⟨#[],?_⟩⟩,?_,fun x c e=>?_,?_,fun x c e=>?_,fun p hp=>?_,fun b u e=>?_,?_⟩
  ·rw[z0i (q0v (low b o e))];exact n
  ·rw[z0i (z0g e hn)];exact e
  ·rw[z0i (z0g e hn)];exact e
  ·rw[z0i (z0g e hn),show H2 b=_ from e];simp
  ·refine⟨_,ns4,fun j x v e1 e2 e3=>?_⟩
   have e2':(fr.map fun o=>o.bind fun k=>(σ[k]?).join)[j]? =some (some v):=e2
   rw[q0g] at e2'
   obtain⟨o,ho,hv⟩:=q0r.mp e2'
   cases o with
   |none=>cases hv
   |some k=>
    obtain⟨c1,c2,c3,c4⟩:=cn.at j x k e1 ho
    have hσ:σ[k]? =some (some v):=by
        have hv':(σ[k]?).join =some v:=hv
        cases z:σ[k]? with
        |none=>rw[z] at hv';cases hv'
        |some w'=>rw[z] at hv';exact congrArg some hv'
    obtain⟨m,hm,hlk⟩:=I2.loc
    obtain⟨u,r,lk⟩:=hlk k x v c1 hσ (.inr (.inl c2))
    refine⟨u,r,.inr ⟨.inl c4,?_⟩⟩
    rcases lk with⟨z,_⟩|⟨_,c,ec,oc,hoc,dc⟩
    ·rw[c2] at z;cases z
    ·obtain⟨c',ec'⟩:=q2a.mp c3
     have:=cc.mem x c' ec'
     rw[ec] at this;cases this
     exact⟨c,ec',oc,kp c oc hoc,dc⟩
  ·obtain⟨v,oc,hoc,dc⟩:=I2.cell x c (cc.mem x c e)
   exact⟨v,oc,kp c oc hoc,dc⟩
  ·show upd H2 D (.lst []) (D+1)=none
   rw[z0i (Ne.symm DC)];exact hnC
  ·obtain⟨v,oc,hoc,dc⟩:=I2.cell x c (cc.mem x c e)
   rw[z0i (q0v (low c oc hoc))]
   exact I2.freeC x c (cc.mem x c e)
  ·simp[Y,z2f] at hp
  ·by_cases hb:b=D
   ·subst hb
    rw[z0b] at e;cases e
    exact⟨q0K _,[],_,.nil,hD4⟩
   ·rw[z0i hb] at e
    exact (I2.hok b u e).stay (fun c v _ q=>kp c v q) (fun c q=>by rw[z0i (z0g q hn)];exact q) fun c xs q=>by rw[z0i (z0g q hn)];exact q
  ·show (fr.map _).length =Nc.length
   rw[q0a];exact cn.length
 have fY:∀{H':Hp},(∀b∈fp,H' b=none)→∀b∈fp,y2G Y [] H' b:=fun {H'} hn' b hb=>by
  refine⟨hn' b hb,fun z=>?_,fun z=>?_,.inl hb,fun x c e z=>?_,fun p hp=>?_⟩
  ·exact absurd z (q0v (q1k (ixv b hb)))
  ·exact okY.exfs b hb z
  ·exact (f2 b hb).2.2.2.2.1 x c (cc.mem x c e) z
  ·simp[Y,z2f] at hp
 have st4:tn 0 h4:=T.keep _ _ _ st2 fun b hb o e=>kp b o e
 have fr4:∀b∈fp,upd H2 D (.lst []) b=none:=fun b hb=>by
  rw[z0i (q0v (ixv b hb))]
  exact (f2 b hb).1
 have loop:∀s3:Shared,s3={s2 with heap:=h4,toks:=s2.toks+([]:List (Str×Value)).length}→
  codeAny (model X.prog X.w) X.A (.compLoop (.ListComp elt [⟨tg,iter,ifs,0⟩] scope pos) 0 (.ref it) (.ref D) (compEnvC scope cl (D+1) X.env)) (compPost (model X.prog X.w) X.A X.xe none (EP X pins σ Q) (.ref D) (D+1)) s3:=by
  rintro s3 rfl
  refine codeAny_loop rfl (fun n s'=>∃i σ' H',Inv Y [] σ' H' s'∧tn i s'.heap∧(∀b∈fp,H' b=none)∧W i n σ' H') (fun n s5 hI=>?_) m0 ⟨0,_,_,IY,st4,fr4,w0⟩
  obtain⟨i,σ5,H5,I5,st5,fr5,w5⟩:=hI
  show wpAny _ X.A ((compTurn (.ListComp elt [⟨tg,iter,ifs,0⟩] scope pos) 0 (.ref it) (.ref D) (compEnvC scope cl (D+1) X.env)).onRaise (fun x=>do noteFrame x (compEnvC scope cl (D+1) X.env);theTreesLotGoes x)) _ _ s5
  refine wpAny_noted ?_
  rw[compTurn_list]
  refine wpAny_bind (wpAny_standAt (wpAny_bind ?_))
  rcases turn i n σ5 H5 w5 with⟨stop,qn⟩|⟨go,step⟩
  ·refine wpAny_mono (T.done Y rfl rfl rfl rfl i [] s5 σ5 H5 (fun _ _=>False) I5 (fY fr5) st5 stop) (fun r s6 ⟨hr,I6⟩=>?_) fun _ _ z=>z.elim
   subst hr
   refine wpAny_pure ?_
   obtain⟨m6,hm6,_⟩:=id I6.loc
   refine⟨m6,hm6,fun h7 sb7=>?_⟩
   have un:Un (frs X.stack) fp H2 H5 s2.heap h7:=by
        have b6:=I6.base
        have nc:∀b o,s2.heap.get? b=some o→b≠D+1:=fun b o e=>q0v (q1k (low b o e))
        refine⟨fun b o e n1 n2 n3=>(sb7.2 b (nc b o e)).trans (b6.keep b o e n1 n2 n3),fun b o e n1 n2 n3=>?_,b6.free,fun b o e n3=>?_,b6.tups,b6.frzs,b6.tbls⟩
        ·obtain⟨sl,z⟩:=b6.slot b o e n1 n2 n3
         exact⟨sl,(sb7.2 b (nc b o e)).trans z⟩
        ·obtain⟨o',z⟩:=b6.there b o e n3
         exact⟨o',(sb7.2 b (nc b o e)).trans z⟩
   have hok7:HOk X.prog X.w H5 h7:=fun b u e=>by
        refine (I6.hok b u e).stay (fun c v hc' q=>(sb7.2 c fun z=>?_).trans q) (fun _ q=>q) fun _ _ q=>q
        have fC:H5 (D+1)=none:=I6.free
        subst z
        rcases hc' with z|z
        ·rw[←z,fC] at e;cases e
        ·rw[fC] at z;cases z
   have IX:=I2.call' (s':={s6 with heap:=h7}) (ch:=fp) I6.os un hok7 I6.bare fun b hb=>⟨(f2 b hb).2.2.2.1,(f2 b hb).2.1,(f2 b hb).2.2.2.2.1,(f2 b hb).2.2.2.2.2⟩
   exact⟨.ref D,H5,IX,rfl,qn⟩
  ·refine wpAny_mono (T.item Y rfl rfl rfl rfl i [] s5 σ5 H5 (fun _ _=>False) I5 (fY fr5) st5 go) (fun r s6 ⟨u,hr,h6⟩=>?_) fun _ _ z=>z.elim
   subst hr
   refine wpAny_bind (wpAny_mono h6 (fun _ s7 ⟨x,H7,I7,r7,y7,st7,fr7⟩=>?_) fun _ _ z=>z.elim)
   have I7':=I7.pinned (fY fr7) (T.obj _ _ st7)
   refine wpAny_bind (wpAny_mono (hg _ _ _ _ _ s7 σ5 H7 x u _ I7' r7 (step x H7 y7)) (fun _ s8 ⟨σ8,H8,I8,q8⟩=>?_) fun _ _ z=>z.elim)
   have again:∀{σ':St}{H':Hp}{s':Shared}{k:Nat},Inv Y ([]++z5c fp s7.heap) σ' H' s'→W (i+1) k σ' H'→∃i' σ'' H'',Inv Y [] σ'' H'' s'∧tn i' s'.heap∧(∀b∈fp,H'' b=none)∧W i' k σ'' H'':=fun {σ' H' s' k} I' w'=>by
        refine⟨i+1,σ',H',I'.unpinned,T.keep _ _ _ st7 fun b hb o e=>(I'.pin (b,o) (q0M _ (q0M _ (z1w hb e)))).1,fun b hb=>?_,w'⟩
        obtain⟨o,e,d⟩:=T.obj _ _ st7 b hb
        exact (I'.pin (b,o) (q0M _ (q0M _ (z1w hb e)))).2.1
   refine wpAny_bind (wpAny_mono (ht _ _ _ _ _ s8 σ8 H8 _ I8 q8) (fun ok s9 ⟨H9,I9,q9⟩=>?_) fun _ _ z=>z.elim)
   cases ok with
   |false=>
    obtain⟨m',hm',w'⟩:=q9
    exact wpAny_pure ⟨rfl,m',hm',again I9 w'⟩
   |true=>
    refine wpAny_bind (wpAny_bind (wpAny_mono (he _ _ _ _ _ s9 σ8 H9 _ I9 q9) (fun ev s10 ⟨v,H10,I10,r10,acc,m',hacc,hlen,hm',w'⟩=>?_) fun _ _ z=>z.elim))
    refine wpAny_bind (wpAny_mono (z1n (X:=Y) _ s10 σ8 H10 (.ref D) [v] (.ref D) [ev] (fun r H'=>r= .non ∧H'=upd H10 D (.lst (acc++[v]))) I10 rfl (.cons r10 .nil) ⟨D,acc,v,rfl,rfl,hacc,hlen,rfl,rfl⟩) (fun _ s11 ⟨_,H11,I11,_,_,e11⟩=>?_) fun _ _ z=>z.elim)
    subst e11
    exact wpAny_pure (wpAny_pure ⟨rfl,m',hm',again I11 w'⟩)
 exact codeAny_compStart_list (loop _ rfl) (T.self _ _ _ _ _ st4 (loop _ rfl))
end
end L2
namespace L2
open PySem PySem.Spec PyProof.Rows
def SqA (K:PySem.W.Frag) (H:Hp) (a:Addr) (xs:List V):Prop:=SqL K H a xs∨SqT K H a xs
theorem SqA.same {K:PySem.W.Frag}{H H':Hp}{a:Addr}{xs:List V} (g:Same H H') (h:SqA K H a xs):SqA K H' a xs:=by
 rcases h with h|h
 ·exact .inl (h.same g)
 ·exact .inr (h.same g)
def trV:V→Bool
 | .int i=>i != 0
 | .bl b=>b
 |_=>false
def PlV:V→Prop
 | .int _=>True
 | .bl _=>True
 | .non =>True
 |_=>False
section
variable {X:Cx}
theorem y4r {xs:List V} (f:V→Bool):((List.range xs.length).any fun i=>((xs[i]?).map f).getD false)=xs.any f:=by
 rw[q1v,q1n,q1n]
 constructor
 ·rintro⟨i,hi,h⟩
  have hl:i<xs.length:=q1c.mp hi
  refine⟨xs[i],q0w hl,?_⟩
  simpa[hl] using h
 ·rintro⟨x,hx,h⟩
  obtain⟨i,hl,e⟩:=q0C.mp hx
  exact⟨i,q1c.mpr hl,by simp[hl,e,h]⟩
theorem y4s {xs:List V} (f:V→Bool):((List.range xs.length).all fun i=>((xs[i]?).map f).getD false)=xs.all f:=by
 rw[q1v,List.all_eq_true,List.all_eq_true]
 constructor
 ·intro h x hx
  obtain⟨i,hl,e⟩:=q0C.mp hx
  have:=h i (q1c.mpr hl)
  simpa[hl,e] using this
 ·intro h i hi
  have hl:i<xs.length:=q1c.mp hi
  simpa[hl] using h xs[i] (q0w hl)
theorem z1y {prog:Program}{w:World}{A:Around}{ys:List V}{its:List Value} (r:Vals ys its) (hp:∀y∈ys,PlV y):
 TruthOf prog w A (fun i v=>its.toArray[i]? =some v) (fun i=>((ys[i]?).map trV).getD false):=by
 intro i v s Q E hv q
 have hv':its[i]? =some v:=by simpa using hv
 have hi:i<ys.length:=by rw[r.length];exact (q0y.mp hv').1
 obtain⟨u,hu,ru⟩:=r.get (q0c hi)
 rw[hv'] at hu;cases hu
 have p:=hp _ (q0w hi)
 have q':Q (trV ys[i]) s:=by simpa[hi] using q
 generalize ys[i]=y at*
 cases y with
 |int k=>obtain⟨t,rfl⟩:=ru;exact PySem.P.truthy_int q'
 |bl b=>cases ru;exact wpAny_truthy_bool q'
 |non=>cases ru;exact truthy_none q'
 |_=>exact p.elim
theorem y3F (hc:X.calm=true):z1x X (.builtin "any") (fun xs H Q=>∃p ys,xs=[.ref p]∧SqA X.K H p ys∧(∀y∈ys,PlV y)∧Q (.bl (ys.any trV)) H):=by
 intro pins s σ H xs us Q I r h
 obtain⟨p,ys,rfl,hq,hp,q⟩:=h
 obtain⟨u,rfl,rx⟩:=z9t r
 cases rx
 have hh:X.A.in1.handled=none:=I.ok.hd hc
 refine call_any_walk ?_
 rcases hq with hq|hq
 ·obtain⟨its,r',pl,hz⟩:=I.list hq
  have hne:p≠s.heap.objs.size:=by obtain⟨o,e,_⟩:=pl.isList;exact q0v (q0n e)
  refine wpAny_pyIter_list pl.isList ⟨_,_,_,_,_,_,_,rfl,Walks.list hh _ p hne its.toArray,⟨⟨_,q0o _ rfl,rfl,rfl⟩,pl.isList.push _⟩,z1y r' hp,fun h' tk kp=>?_⟩
  have kp':∀b o,s.heap.get? b=some o→h'.get? b=some o:=fun b o e=>kp b o (by have:=q0n e;simp;exact q0v this) (q0d _ e)
  refine⟨.bl (ys.any trV),H,I.kept kp',?_,q⟩
  show Value.bool _=_
  rw[q0e,←r'.length,y4r]
 ·obtain⟨its,r',pl,hz⟩:=I.tuple hq
  have pl':s.heap.IsTuple p its.toArray:=pl
  have hne:p≠s.heap.objs.size:=by obtain⟨o,e,_⟩:=pl';exact q0v (q0n e)
  refine wpAny_pyIter_tuple pl' ⟨_,_,_,_,_,_,_,rfl,Walks.tuple hh _ p hne its.toArray,⟨⟨_,q0o _ rfl,rfl,rfl⟩,pl'.push _⟩,z1y r' hp,fun h' tk kp=>?_⟩
  have kp':∀b o,s.heap.get? b=some o→h'.get? b=some o:=fun b o e=>kp b o (by have:=q0n e;simp;exact q0v this) (q0d _ e)
  refine⟨.bl (ys.any trV),H,I.kept kp',?_,q⟩
  show Value.bool _=_
  rw[q0e,←r'.length,y4r]
theorem y3G (hc:X.calm=true):z1x X (.builtin "all") (fun xs H Q=>∃p ys,xs=[.ref p]∧SqA X.K H p ys∧(∀y∈ys,PlV y)∧Q (.bl (ys.all trV)) H):=by
 intro pins s σ H xs us Q I r h
 obtain⟨p,ys,rfl,hq,hp,q⟩:=h
 obtain⟨u,rfl,rx⟩:=z9t r
 cases rx
 have hh:X.A.in1.handled=none:=I.ok.hd hc
 refine call_all_walk ?_
 rcases hq with hq|hq
 ·obtain⟨its,r',pl,hz⟩:=I.list hq
  have hne:p≠s.heap.objs.size:=by obtain⟨o,e,_⟩:=pl.isList;exact q0v (q0n e)
  refine wpAny_pyIter_list pl.isList ⟨_,_,_,_,_,_,_,rfl,Walks.list hh _ p hne its.toArray,⟨⟨_,q0o _ rfl,rfl,rfl⟩,pl.isList.push _⟩,z1y r' hp,fun h' tk kp=>?_⟩
  have kp':∀b o,s.heap.get? b=some o→h'.get? b=some o:=fun b o e=>kp b o (by have:=q0n e;simp;exact q0v this) (q0d _ e)
  refine⟨.bl (ys.all trV),H,I.kept kp',?_,q⟩
  show Value.bool _=_
  rw[q0e,←r'.length,y4s]
 ·obtain⟨its,r',pl,hz⟩:=I.tuple hq
  have pl':s.heap.IsTuple p its.toArray:=pl
  have hne:p≠s.heap.objs.size:=by obtain⟨o,e,_⟩:=pl';exact q0v (q0n e)
  refine wpAny_pyIter_tuple pl' ⟨_,_,_,_,_,_,_,rfl,Walks.tuple hh _ p hne its.toArray,⟨⟨_,q0o _ rfl,rfl,rfl⟩,pl'.push _⟩,z1y r' hp,fun h' tk kp=>?_⟩
  have kp':∀b o,s.heap.get? b=some o→h'.get? b=some o:=fun b o e=>kp b o (by have:=q0n e;simp;exact q0v this) (q0d _ e)
  refine⟨.bl (ys.all trV),H,I.kept kp',?_,q⟩
  show Value.bool _=_
  rw[q0e,←r'.length,y4s]
end
def SIt (b:Bool) (h:Heap) (it a:Addr) (k:Nat):Prop:=match b with
 |true=>h.IsListIter it a k
 |false=>h.IsTupleIter it a k
def SAt (b:Bool) (h:Heap) (a:Addr) (its:Array Value):Prop:=match b with
 |true=>h.IsList a its
 |false=>h.IsTuple a its
theorem SIt.ob {b:Bool}{h:Heap}{it a:Addr}{k:Nat} (x:SIt b h it a k):∃o n,h.get? it=some o∧o.cls= .type n∧(n="list_iterator"∨n="tuple_iterator")∧o.data= .fields #[.ref a,.int k 0]:=by
 cases b with
 |true=>obtain⟨o,e,c,d⟩:=x;exact⟨o,_,e,c,.inl rfl,d⟩
 |false=>obtain⟨o,e,c,d⟩:=x;exact⟨o,_,e,c,.inr rfl,d⟩
theorem SAt.ob {b:Bool}{h:Heap}{a:Addr}{its:Array Value} (x:SAt b h a its):∃o n,h.get? a=some o∧o.cls= .type n∧(n="list"∨n="tuple"):=by
 cases b with
 |true=>obtain⟨o,e,c,_⟩:=x;exact⟨o,_,e,c,.inl rfl⟩
 |false=>obtain⟨o,e,c,_⟩:=x;exact⟨o,_,e,c,.inr rfl⟩
theorem SIt.keep {b:Bool}{h h':Heap}{it a:Addr}{k:Nat} (x:SIt b h it a k) (f:∀o,h.get? it=some o→h'.get? it=some o):SIt b h' it a k:=by
 cases b with
 |true=>obtain⟨o,e,r⟩:=x;exact⟨o,f o e,r⟩
 |false=>obtain⟨o,e,r⟩:=x;exact⟨o,f o e,r⟩
theorem SAt.keep {b:Bool}{h h':Heap}{a:Addr}{its:Array Value} (x:SAt b h a its) (f:∀o,h.get? a=some o→h'.get? a=some o):SAt b h' a its:=by
 cases b with
 |true=>obtain⟨o,e,r⟩:=x;exact⟨o,f o e,r⟩
 |false=>obtain⟨o,e,r⟩:=x;exact⟨o,f o e,r⟩
theorem SIt.ne_at {b c:Bool}{h:Heap}{it a l:Addr}{k:Nat}{its:Array Value} (x:SIt b h it a k) (y:SAt c h l its):l≠it:=by
 rintro rfl
 obtain⟨o,n,e,c1,hn,_⟩:=x.ob
 obtain⟨o',n',e',c2,hn'⟩:=y.ob
 rw[e] at e';cases e'
 rw[c1] at c2;cases c2
 rcases hn with rfl|rfl<;>rcases hn' with h|h<;>exact absurd h (by decide)
section
variable {prog:Program}{w:World}{A:Around}{E:Value→Shared→Prop}{s:Shared}
theorem z2Z {b:Bool}{it a:Addr}{k:Nat}{its:Array Value}{x:Value}{Q:Value→Shared→Prop} (hit:SIt b s.heap it a k) (hl:SAt b s.heap a its) (hx:its[k]? =some x)
 (hQ:∀h',SIt b h' it a (k+1)→Heap.SameBut it s.heap h'→Q x {s with heap:=h'}):wpAny (model prog w) A (Builtin.SmallTypes.nextOf (.ref it)) Q E s:=by
 cases b with
 |true=>exact wpAny_nextOf_list_item hit hl hx hQ
 |false=>
  have hit':s.heap.IsTupleIter it a k:=hit
  obtain⟨ob,e1,c1,d1⟩:=id hit'
  obtain⟨ol,e2,_,nl,d2⟩:=hl
  unfold Builtin.SmallTypes.nextOf
  refine wpAny_bind (wpAny_callSpecial?_slot (name:=Str.ofString "__next__") hit'.typeIs F.slot_tuple_iterator_next (wpAny_call_entry F.slot_tuple_iterator_next hit'.typeIs F.entry_tuple_iterator_next ?_ (F.args_tuple_iterator_next_1 _)))
  show wpAny _ _ (field (.ref it) 0>>= _) _ _ s
  refine wpAny_bind (wpAny_field e1 d1 (x:= .ref a) rfl ?_)
  rw[if_neg (show ¬((Value.ref a==Value.none)=true) from q0z)]
  show wpAny _ _ (field (.ref it) 1>>= _) _ _ s
  refine wpAny_bind (wpAny_field e1 d1 (x:= .int k 0) rfl ?_)
  show wpAny _ _ (seqItems? (.ref a)>>= _) _ _ s
  refine wpAny_bind (wpAny_seqItems e2 d2 ?_)
  simp only[q0S,hx]
  refine wpAny_bind (wpAny_setField e1 d1 (by simp) (wpAny_pure ⟨x,rfl,wpAny_pure (hQ _ ?_ (Heap.SameBut.update ..))⟩))
  exact⟨_,q1S _ e1 (Obj.isFreed_of_fields (Obj.data_mapFields d1 _)),(Obj.cls_mapFields ..).trans c1,by rw[Obj.data_mapFields d1];simp[rawInt]⟩
theorem z5R {b:Bool}{it a:Addr}{k:Nat}{its:Array Value}{Q:Value→Shared→Prop} (hh:A.handled=none) (hit:SIt b s.heap it a k) (hl:SAt b s.heap a its) (hx:its[k]? =none)
 (hE:∀h' e,Heap.ExtBut it s.heap h'→(∃o,h'.get? e=some o∧o.cls= .type "StopIteration")→E (.ref e) {s with heap:=h'}):wpAny (model prog w) A (Builtin.SmallTypes.nextOf (.ref it)) Q E s:=by
 cases b with
 |true=>exact wpAny_nextOf_list_end hh hit hl hx hE
 |false=>
  have hit':s.heap.IsTupleIter it a k:=hit
  obtain⟨ob,e1,c1,d1⟩:=id hit'
  obtain⟨ol,e2,_,nl,d2⟩:=hl
  unfold Builtin.SmallTypes.nextOf
  refine wpAny_bind (wpAny_callSpecial?_slot (name:=Str.ofString "__next__") hit'.typeIs F.slot_tuple_iterator_next (wpAny_call_entry F.slot_tuple_iterator_next hit'.typeIs F.entry_tuple_iterator_next ?_ (F.args_tuple_iterator_next_1 _)))
  show wpAny _ _ (field (.ref it) 0>>= _) _ _ s
  refine wpAny_bind (wpAny_field e1 d1 (x:= .ref a) rfl ?_)
  rw[if_neg (show ¬((Value.ref a==Value.none)=true) from q0z)]
  show wpAny _ _ (field (.ref it) 1>>= _) _ _ s
  refine wpAny_bind (wpAny_field e1 d1 (x:= .int k 0) rfl ?_)
  show wpAny _ _ (seqItems? (.ref a)>>= _) _ _ s
  refine wpAny_bind (wpAny_seqItems e2 d2 ?_)
  simp only[q0S,hx]
  refine wpAny_bind (wpAny_rule (wpAny_bind (wpAny_setField e1 d1 (by simp) ?_)))
  show wpAny _ _ (newExc (.type "StopIteration") []>>= _) _ _ _
  refine wpAny_bind ?_
  simp only[newExc,newTuple]
  refine wpAny_bind (wpAny_newObj_type ?_ (by size_fits))
  refine wpAny_bind (m:=firstArgMember _ _) (wpAny_of_eq (a:=Value.none) (by first|rfl|(simp only[firstArgMember];rfl)) ?_)
  refine wpAny_newObj_type ?_ (by size_fits)
  simp only[raiseNew]
  refine wpAny_bind (wpAny_handled ?_)
  first|rw[show A.in1.handled=none from hh]|rw[hh]
  refine wpAny_bind (wpAny_pure (wpAny_throw ?_))
  exact hE _ _ (((Heap.SameBut.update ..).extBut.push _).push _) ⟨_,q0o _ rfl,rfl⟩
end
end L2
namespace L2
open PySem PySem.Spec PyProof.Rows
structure ZAp (z TI TO i j:Addr):Prop where
 a1:TI≠z
 a2:TO≠z
 a3:i≠z
 a4:j≠z
 a5:TI≠TO
 a6:TI≠i
 a7:TI≠j
 a8:TO≠i
 a9:TO≠j
 a10:i≠j
section
variable {prog:Program}{w:World}{A:Around}{E:Value→Shared→Prop}{s:Shared}
theorem y2K {b c:Bool}{z TI TO i j l m:Addr}{k n:Nat}{xs ys:Array Value}{x y u v:Value}{Q:Value→Shared→Prop} (D:ZAp z TI TO i j) (lz:m≠z) (lT:m≠TO) (lz':l≠z)
 (hz:IsZip s.heap z TI TO .none) (hTI:IsPair s.heap TI (.ref i) (.ref j)) (hTO:IsPair s.heap TO u v)
 (h1:SIt b s.heap i l k) (h2:SIt c s.heap j m n) (hl:SAt b s.heap l xs) (hm:SAt c s.heap m ys) (hx:xs[k]? =some x) (hy:ys[n]? =some y)
 (hQ:∀h',IsZip h' z TI TO (rawInt s.heap.objs.size)→IsPair h' TO x y→SIt b h' i l (k+1)→SIt c h' j m (n+1)→IsPair h' s.heap.objs.size x y→h'.objs.size=s.heap.objs.size+1→
  (∀p o,p≠z→p≠TO→p≠i→p≠j→s.heap.get? p=some o→h'.get? p=some o)→Q (.ref s.heap.objs.size) {s with heap:=h'}):
 wpAny (model prog w) A (Builtin.«zip.__next__» ⟨[.ref z],[]⟩) (fun fin s'=>∃v,fin= .done (.ret v)∧Q v s') E s:=by
 have mi:m≠i:=h1.ne_at hm
 show wpAny _ _ (field (.ref z) 2>>= _) _ _ _
 refine wpAny_bind (wpAny_field hz rfl (x:= .bool false) rfl ?_)
 show wpAny _ _ (field (.ref z) 3>>= _) _ _ _
 refine wpAny_bind (wpAny_field hz rfl (x:= .ref TI) rfl (wpAny_bind (wpAny_seqItems hTI rfl ?_)))
 show wpAny _ _ (Builtin.SmallTypes.ownedTupleIsFree (.ref z)>>= _) _ _ _
 refine wpAny_bind ?_
 unfold Builtin.SmallTypes.ownedTupleIsFree
 refine wpAny_bind (wpAny_field hz rfl (x:= .none) rfl (wpAny_pure ?_))
 simp only[if_true]
 refine wpAny_bind (wpAny_rule (wpAny_bind (wpAny_field hz rfl (x:= .ref TO) rfl (wpAny_bind (wpAny_setField_rec hz (by simp) fun g1 z1 d1=>?_)))))
 replace z1:IsZip g1 z TI TO .ellipsis :=z1
 refine wpAny_bind ?_
 simp only[List.zipIdx_cons,List.zipIdx_nil,List.forIn_cons,List.forIn_nil]
 refine wpAny_bind (wpAny_bind (wpAny_onRaise ?_))
 show wpAny _ _ (Builtin.SmallTypes.nextOf (.ref i)>>= _) _ _ _
 refine wpAny_bind (z2Z (h1.keep fun o e=>d1.extBut _ o D.a3 e) (hl.keep fun o e=>d1.extBut _ o lz' e) hx fun g2 i2 d2=>wpAny_pure ?_)
 have TO2:IsPair g2 TO u v:=d2.extBut _ _ D.a8 (d1.extBut _ _ D.a2 hTO)
 refine wpAny_bind (wpAny_seqItems TO2 rfl (wpAny_bind (wpAny_updateSeq_pair TO2 fun g3 TO3 d3=>?_)))
 replace TO3:IsPair g3 TO x v:=TO3
 refine wpAny_bind (wpAny_letGo (wpAny_pure ?_))
 refine wpAny_bind (wpAny_bind (wpAny_onRaise ?_))
 show wpAny _ _ (Builtin.SmallTypes.nextOf (.ref j)>>= _) _ _ _
 refine wpAny_bind (z2Z (h2.keep fun o e=>d3.extBut _ o D.a9.symm (d2.extBut _ o D.a10.symm (d1.extBut _ o D.a4 e))) (hm.keep fun o e=>d3.extBut _ o lT (d2.extBut _ o mi (d1.extBut _ o lz e))) hy fun g4 j4 d4=>wpAny_pure ?_)
 have TO4:IsPair g4 TO x v:=d4.extBut _ _ D.a9 TO3
 refine wpAny_bind (wpAny_seqItems TO4 rfl (wpAny_bind (wpAny_updateSeq_pair TO4 fun g5 TO5 d5=>?_)))
 replace TO5:IsPair g5 TO x y:=TO5
 refine wpAny_bind (wpAny_letGo (wpAny_pure (wpAny_pure ?_)))
 refine wpAny_bind (wpAny_seqItems TO5 rfl (wpAny_bind (wpAny_newTuple ?_)))
 have sz:g5.objs.size=s.heap.objs.size:=by rw[d5.1,d4.1,d3.1,d2.1,d1.1]
 have z5:IsZip g5 z TI TO .ellipsis :=d5.extBut _ _ D.a2.symm (d4.extBut _ _ D.a4.symm (d3.extBut _ _ D.a2.symm (d2.extBut _ _ D.a3.symm z1)))
 have k5:∀p o,p≠z→p≠TO→p≠i→p≠j→s.heap.get? p=some o→g5.get? p=some o:=fun p o c1 c2 c3 c4 e=>d5.extBut _ _ c2 (d4.extBut _ _ c4 (d3.extBut _ _ c2 (d2.extBut _ _ c3 (d1.extBut _ _ c1 e))))
 have i5:SIt b g5 i l (k+1):=i2.keep fun o e=>d5.extBut _ o D.a8.symm (d4.extBut _ o D.a10 (d3.extBut _ o D.a8.symm e))
 have j5:SIt c g5 j m (n+1):=j4.keep fun o e=>d5.extBut _ o D.a9.symm e
 have zl:z<g5.objs.size:=q0n z5
 show wpAny _ _ (Builtin.SmallTypes.ownedTupleHandOut (.ref z) (.ref g5.objs.size)>>= _) _ _ _
 refine wpAny_bind ?_
 unfold Builtin.SmallTypes.ownedTupleHandOut
 have z6:IsZip (g5.push {cls:= .type "tuple",data:= .seq #[x,y]}) z TI TO .ellipsis :=q0d _ z5
 refine wpAny_bind (wpAny_setField_rec z6 (by simp) fun g7 z7 d7=>?_)
 replace z7:IsZip g7 z TI TO (rawInt g5.objs.size):=z7
 refine wpAny_setField_rec z7 (by simp) fun g8 z8 d8=>?_
 replace z8:IsZip g8 z TI TO (rawInt g5.objs.size):=z8
 have up:∀p o,p≠z→g5.get? p=some o→g8.get? p=some o:=fun p o c1 e=>d8.extBut _ _ c1 (d7.extBut _ _ c1 (q0d _ e))
 have T8:IsPair g8 g5.objs.size x y:=d8.extBut _ _ (Nat.ne_of_gt zl) (d7.extBut _ _ (Nat.ne_of_gt zl) (q0o _ rfl))
 have s8:g8.objs.size=g5.objs.size+1:=by rw[d8.1,d7.1,Heap.size_push]
 rw[sz] at z8 T8 s8
 refine wpAny_pure ⟨_,rfl,?_⟩
 show Q (.ref g5.objs.size) _
 rw[sz]
 exact hQ g8 z8 (up _ _ D.a2 TO5) (i5.keep fun o e=>up _ o D.a3 e) (j5.keep fun o e=>up _ o D.a4 e) T8 s8 fun p o c1 c2 c3 c4 e=>up p o c1 (k5 p o c1 c2 c3 c4 e)
theorem y4x {b c:Bool}{z TI TO i j l m:Addr}{k n:Nat}{xs ys:Array Value}{u v:Value}{Q:Fin→Shared→Prop} (hh:A.handled=none) (D:ZAp z TI TO i j) (lz:m≠z) (lT:m≠TO) (lz':l≠z)
 (hz:IsZip s.heap z TI TO .none) (hTI:IsPair s.heap TI (.ref i) (.ref j)) (hTO:IsPair s.heap TO u v)
 (h1:SIt b s.heap i l k) (h2:SIt c s.heap j m n) (hl:SAt b s.heap l xs) (hm:SAt c s.heap m ys) (hend:xs[k]? =none∨ys[n]? =none)
 (hE:∀h' e,(∀p o,p≠z→p≠TO→p≠i→p≠j→s.heap.get? p=some o→h'.get? p=some o)→(∃o,h'.get? e=some o∧o.cls= .type "StopIteration")→E (.ref e) {s with heap:=h'}):
 wpAny (model prog w) A (Builtin.«zip.__next__» ⟨[.ref z],[]⟩) Q E s:=by
 have mi:m≠i:=h1.ne_at hm
 show wpAny _ _ (field (.ref z) 2>>= _) _ _ _
 refine wpAny_bind (wpAny_field hz rfl (x:= .bool false) rfl ?_)
 show wpAny _ _ (field (.ref z) 3>>= _) _ _ _
 refine wpAny_bind (wpAny_field hz rfl (x:= .ref TI) rfl (wpAny_bind (wpAny_seqItems hTI rfl ?_)))
 show wpAny _ _ (Builtin.SmallTypes.ownedTupleIsFree (.ref z)>>= _) _ _ _
 refine wpAny_bind ?_
 unfold Builtin.SmallTypes.ownedTupleIsFree
 refine wpAny_bind (wpAny_field hz rfl (x:= .none) rfl (wpAny_pure ?_))
 simp only[if_true]
 refine wpAny_bind (wpAny_rule (wpAny_bind (wpAny_field hz rfl (x:= .ref TO) rfl (wpAny_bind (wpAny_setField_rec hz (by simp) fun g1 z1 d1=>?_)))))
 replace z1:IsZip g1 z TI TO .ellipsis :=z1
 refine wpAny_bind ?_
 simp only[List.zipIdx_cons,List.zipIdx_nil,List.forIn_cons,List.forIn_nil]
 refine wpAny_bind (wpAny_bind (wpAny_onRaise ?_))
 show wpAny _ _ (Builtin.SmallTypes.nextOf (.ref i)>>= _) _ _ _
 cases hx:xs[k]? with
 |none=>
  refine wpAny_bind (z5R hh (h1.keep fun o e=>d1.extBut _ o D.a3 e) (hl.keep fun o e=>d1.extBut _ o lz' e) hx fun g2 e d2 he=>?_)
  obtain⟨oe,hoe,hce⟩:=he
  have z2:IsZip g2 z TI TO .ellipsis :=d2 _ _ D.a3.symm z1
  have hez:e≠z:=fun q=>by subst q;rw[z2] at hoe;cases hoe;simp at hce
  exact wpAny_setField_rec z2 (by simp) fun g3 _ d3=>hE g3 e (fun p o c1 _ c3 _ q=>d3.extBut _ _ c1 (d2 _ _ c3 (d1.extBut _ _ c1 q))) ⟨oe,d3.extBut _ _ hez hoe,hce⟩
 |some x=>
  have hy:ys[n]? =none:=hend.elim (fun h=>by rw[hx] at h;cases h) id
  refine wpAny_bind (z2Z (h1.keep fun o e=>d1.extBut _ o D.a3 e) (hl.keep fun o e=>d1.extBut _ o lz' e) hx fun g2 i2 d2=>wpAny_pure ?_)
  have TO2:IsPair g2 TO u v:=d2.extBut _ _ D.a8 (d1.extBut _ _ D.a2 hTO)
  refine wpAny_bind (wpAny_seqItems TO2 rfl (wpAny_bind (wpAny_updateSeq_pair TO2 fun g3 TO3 d3=>?_)))
  refine wpAny_bind (wpAny_letGo (wpAny_pure ?_))
  refine wpAny_bind (wpAny_bind (wpAny_onRaise ?_))
  show wpAny _ _ (Builtin.SmallTypes.nextOf (.ref j)>>= _) _ _ _
  refine wpAny_bind (z5R hh (h2.keep fun o e=>d3.extBut _ o D.a9.symm (d2.extBut _ o D.a10.symm (d1.extBut _ o D.a4 e))) (hm.keep fun o e=>d3.extBut _ o lT (d2.extBut _ o mi (d1.extBut _ o lz e))) hy fun g4 e d4 he=>?_)
  obtain⟨oe,hoe,hce⟩:=he
  have z4:IsZip g4 z TI TO .ellipsis :=d4 _ _ D.a4.symm (d3.extBut _ _ D.a2.symm (d2.extBut _ _ D.a3.symm z1))
  have hez:e≠z:=fun q=>by subst q;rw[z4] at hoe;cases hoe;simp at hce
  exact wpAny_setField_rec z4 (by simp) fun g5 _ d5=>hE g5 e (fun p o c1 c2 c3 c4 q=>d5.extBut _ _ c1 (d4 _ _ c4 (d3.extBut _ _ c2 (d2.extBut _ _ c3 (d1.extBut _ _ c1 q))))) ⟨oe,d5.extBut _ _ hez hoe,hce⟩
theorem z8P {z TI TO:Addr}{f0:Value}{Q:Option Value→Shared→Prop} (hz:IsZip s.heap z TI TO f0)
 (h:wpAny (model prog w) A.in1 (Builtin.«zip.__next__» ⟨[.ref z],[]⟩) (fun fin s'=>∃v,fin= .done (.ret v)∧Q (some v) s') (fun e s'=>(∃a o,e= .ref a∧s'.heap.get? a=some o∧o.cls= .type "StopIteration")∧Q none s') s):wpAny (model prog w) A (pyNext (.ref z)) Q E s:=by
 have hT:s.TypeIs (.ref z) "zip":=⟨_,hz,rfl⟩
 unfold pyNext
 refine wpAny_bind (wpAny_attempt (wpAny_callSpecial?_slot (name:=Str.ofString "__next__") hT F.slot_zip_next (wpAny_call_entry F.slot_zip_next hT F.entry_zip_next ?_ (F.args_zip_next_1 _))))
 refine wpAny_mono h (fun fin s' ⟨v,e,q⟩=>⟨v,e,wpAny_pure q⟩) fun e s' ⟨⟨a,o,e1,e2,e3⟩,q⟩=>?_
 subst e1
 exact wpAny_bind (wpAny_isInstance (T:="StopIteration") (b:=true) ⟨o,e2,e3⟩ isSubtype_stop (wpAny_pure q))
end
end L2
namespace L2
open PySem PySem.Spec PyProof.Rows
def itN (b:Bool):String:=match b with
 |true=>"list_iterator"
 |false=>"tuple_iterator"
abbrev itO (b:Bool) (a:Addr):Obj:={cls:= .type (itN b),data:= .fields #[.ref a,.int 0 0]}
theorem SAt.push {b:Bool}{h:Heap}{a:Addr}{its:Array Value} (x:SAt b h a its) (o:Obj):SAt b (h.push o) a its:=x.keep fun _ e=>q0d _ e
theorem SIt.new {b:Bool}{h:Heap}{a:Addr}:SIt b (h.push (itO b a)) h.objs.size a 0:=by
 cases b with
 |true=>exact⟨_,Heap.get?_push_size _ rfl,rfl,rfl⟩
 |false=>exact⟨_,Heap.get?_push_size _ rfl,rfl,rfl⟩
section
variable {prog:Program}{w:World}{A:Around}{E:Value→Shared→Prop}{s:Shared}
theorem z4s {b:Bool}{a:Addr}{its:Array Value}{Q:Value→Shared→Prop} (h:SAt b s.heap a its) (q:Q (.ref s.heap.objs.size) {s with heap:=s.heap.push (itO b a)}):wpAny (model prog w) A (pyIter (.ref a)) Q E s:=by
 cases b with
 |true=>exact wpAny_pyIter_list (show s.heap.IsList a its from h) q
 |false=>exact wpAny_pyIter_tuple (show s.heap.IsTuple a its from h) q
end
abbrev zA (h:Heap) (b:Bool) (l:Addr):Heap:=h.push (itO b l)
abbrev zB (h:Heap) (b c:Bool) (l m:Addr):Heap:=(zA h b l).push (itO c m)
abbrev zC (h:Heap) (b c:Bool) (l m:Addr):Heap:=(zB h b c l m).push {cls:= .type "tuple",data:= .seq #[.ref h.objs.size,.ref (zA h b l).objs.size]}
abbrev zD (h:Heap) (b c:Bool) (l m:Addr):Heap:=(zC h b c l m).push {cls:= .type "tuple",data:= .seq #[.none,.none]}
abbrev zE (h:Heap) (b c:Bool) (l m:Addr):Heap:=(zD h b c l m).push {cls:= .type "zip",data:= .fields #[.none,.bool false,.bool false,.ref (zB h b c l m).objs.size,.ref (zC h b c l m).objs.size]}
theorem y1x (b c:Bool) (l m:Addr) (xs ys:Array Value):
 Meets (Builtin.«zip.__new__» ⟨[.type "zip",.ref l,.ref m],[]⟩) (fun _ R s=>SAt b s.heap l xs∧SAt c s.heap m ys∧R (.ok (.ret (.ref (zD s.heap b c l m).objs.size))) {s with heap:=zE s.heap b c l m}):=
 .of_wp fun prog w A R s h=>by
  obtain⟨hp,g,d,tk,os⟩:=s;obtain⟨h1,h2,h⟩:=h
  have hsub:=sub_zip
  have k1:SAt b (Shared.heap ⟨hp,g,d,tk,os⟩) l xs:=h1
  have k2:SAt c (Shared.heap ⟨hp.push (itO b l),g,d,tk,os⟩) m ys:=SAt.push h2 _
  wp_walk using z4s k1,z4s k2
  exact⟨_,rfl,h⟩
section
variable {prog:Program}{w:World}{A:Around}{E:Value→Shared→Prop}{s:Shared}
theorem y3E {b c:Bool}{l m:Addr}{xs ys:Array Value}{Q:Value→Shared→Prop} (hl:SAt b s.heap l xs) (hm:SAt c s.heap m ys)
 (h:∀h',IsZip h' (s.heap.objs.size+4) (s.heap.objs.size+2) (s.heap.objs.size+3) .none →IsPair h' (s.heap.objs.size+2) (.ref s.heap.objs.size) (.ref (s.heap.objs.size+1))→IsPair h' (s.heap.objs.size+3) .none .none →
  SIt b h' s.heap.objs.size l 0→SIt c h' (s.heap.objs.size+1) m 0→(∀p o,s.heap.get? p=some o→h'.get? p=some o)→Q (.ref (s.heap.objs.size+4)) {s with heap:=h'}):
 wpAny (model prog w) A (call (.type "zip") [.ref l,.ref m]) Q E s:=by
 refine callType_new F.called_zip (by decide) (F.typeCall_zip_2 _ _) (F.newCall_zip_2 _ _) (fun obj=>F.args_object_init_3 obj _ _) F.entry_zip_new (y1x b c l m xs ys) ⟨hl,hm,?_⟩
 have z1:(zA s.heap b l).objs.size =s.heap.objs.size+1:=Heap.size_push ..
 have z2:(zB s.heap b c l m).objs.size =s.heap.objs.size+2:=by rw[Heap.size_push,z1]
 have z3:(zC s.heap b c l m).objs.size =s.heap.objs.size+3:=by rw[Heap.size_push,z2]
 have z4:(zD s.heap b c l m).objs.size =s.heap.objs.size+4:=by rw[Heap.size_push,z3]
 have g5:(zE s.heap b c l m).get? (zD s.heap b c l m).objs.size =some _:=q0o _ rfl
 have g4:(zE s.heap b c l m).get? (zC s.heap b c l m).objs.size =some _:=q0d _ (q0o _ rfl)
 have g3:(zE s.heap b c l m).get? (zB s.heap b c l m).objs.size =some _:=q0d _ (q0d _ (q0o _ rfl))
 have g2:SIt c (zE s.heap b c l m) (zA s.heap b l).objs.size m 0:=SIt.new.keep fun o e=>q0d _ (q0d _ (q0d _ e))
 have g1:SIt b (zE s.heap b c l m) s.heap.objs.size l 0:=SIt.new.keep fun o e=>q0d _ (q0d _ (q0d _ (q0d _ e)))
 show _∧_
 rw[z2,z3,z4] at g5
 rw[z1,z2] at g3
 rw[z3] at g4
 rw[z1] at g2
 rw[z4]
 exact⟨⟨_,g5,rfl⟩,h _ g5 g3 g4 g1 g2 fun p o e=>q0d _ (q0d _ (q0d _ (q0d _ (q0d _ e))))⟩
end
def SqB (b:Bool) (K:PySem.W.Frag) (H:Hp) (a:Addr) (xs:List V):Prop:=match b with
 |true=>SqL K H a xs
 |false=>SqT K H a xs
section
variable {X:Cx}{pins:List (Addr×Obj)}{σ:St}{H:Hp}{s:Shared}{a:Addr}{xs ys:List V}{b:Bool}
theorem SqA.toB {K:PySem.W.Frag} (h:SqA K H a xs):∃b,SqB b K H a xs:=by
 rcases h with h|h
 ·exact⟨true,h⟩
 ·exact⟨false,h⟩
theorem Inv.sq (I:Inv X pins σ H s) (h:SqB b X.K H a xs):∃its:List Value,Vals xs its∧SAt b s.heap a its.toArray∧xs.length≤sizeLine:=by
 cases b with
 |true=>obtain⟨its,r,p,z⟩:=I.list h;exact⟨its,r,p.isList,z⟩
 |false=>obtain⟨its,r,p,z⟩:=I.tuple h;exact⟨its,r,p,z⟩
theorem Inv.sq_inj (I:Inv X pins σ H s) (h:SqB b X.K H a xs) (h':SqB b X.K H a ys):xs=ys:=by
 cases b with
 |true=>exact I.list_inj h h'
 |false=>exact I.tuple_inj h h'
theorem Inv.sq_ne (I:Inv X pins σ H s) (h:SqB b X.K H a xs) {c:Addr} (f:y2G X pins H c):a≠c:=by
 have tr:∀u,Rd H a u→a≠c:=fun u r z=>by
  subst z
  rcases r with r|⟨o,r⟩
  ·rw[f.1] at r;cases r
  ·rw[f.1] at r;cases r
 have kn:∀o,X.K.lookup a=some o→a≠c:=fun o e z=>by
  subst z
  have eb:=I.ok.mod.kin a o e
  rcases f.2.2.2.1 with q|q
  ·exact I.ok.noex a o eb q
  ·exact absurd (q0F (q0n (I.ok.bs a o eb).1) q) (q1F _)
 cases b with
 |true=>
  rcases h with h|⟨o,_,_,e,_⟩
  ·exact tr _ h
  ·exact kn o e
 |false=>
  rcases h with h|⟨o,_,_,e,_⟩
  ·exact tr _ h
  ·exact kn o e
end
def Itz (K:PySem.W.Frag) (b c:Bool) (l m:Addr):It:=
 ⟨fun i H=>∃xs ys x y,SqB b K H l xs∧SqB c K H m ys∧xs[i]? =some x∧ys[i]? =some y,
  fun i H x H'=>∃p u v,x= .ref p∧H p=none∧(∀xs,SqB b K H l xs→xs[i]? =some u)∧(∀ys,SqB c K H m ys→ys[i]? =some v)∧H'=upd H p (.tup [u,v]),
  fun i H=>∃xs ys,SqB b K H l xs∧SqB c K H m ys∧(xs.length≤i∨ys.length≤i)⟩
theorem y2P {P:Program}{w:World}{K:PySem.W.Frag}{elts:List Expr}{kk:Nat}{pos:Pos} (b c:Bool) (l m z TI TO i j:Addr) (D:ZAp z TI TO i j):
 y4t P w K (.Tuple elts kk pos) (Itz K b c l m) [z,TI,TO,i,j] z (fun k h=>IsZip h z TI TO .none ∧IsPair h TI (.ref i) (.ref j)∧(∃u v,IsPair h TO u v)∧SIt b h i l k∧SIt c h j m k) where
 mem:=by simp
 obj:=fun k h st q hq=>by
  obtain⟨t1,t2,⟨u,v,t3⟩,t4,t5⟩:=st
  have fin:∀(o:Obj),(∃v,o.data= .fields v)∨(∃a n,o.data= .seq a n)→∀v,o.data≠ .cell v:=fun o h v e=>by
    rcases h with⟨w',h⟩|⟨a,n,h⟩<;> ·rw[h] at e;cases e
  simp only[q0t,q1M,or_false] at hq
  rcases hq with rfl|rfl|rfl|rfl|rfl
  ·exact⟨_,t1,fin _ (.inl ⟨_,rfl⟩)⟩
  ·exact⟨_,t2,fin _ (.inr ⟨_,_,rfl⟩)⟩
  ·exact⟨_,t3,fin _ (.inr ⟨_,_,rfl⟩)⟩
  ·obtain⟨o,_,e,_,_,d⟩:=t4.ob;exact⟨o,e,fin _ (.inl ⟨_,d⟩)⟩
  ·obtain⟨o,_,e,_,_,d⟩:=t5.ob;exact⟨o,e,fin _ (.inl ⟨_,d⟩)⟩
 keep:=fun k h h' st f=>by
  obtain⟨t1,t2,⟨u,v,t3⟩,t4,t5⟩:=st
  exact⟨f z (by simp) _ t1,f TI (by simp) _ t2,⟨u,v,f TO (by simp) _ t3⟩,t4.keep fun o e=>f i (by simp) o e,t5.keep fun o e=>f j (by simp) o e⟩
 item:=by
  intro X hP hw hK hc k pins s σ H E I hf st hg
  subst hP hw hK
  obtain⟨xs,ys,x,y,q1,q2,hx,hy⟩:=hg
  obtain⟨its,r1,p1,s1⟩:=I.sq q1
  obtain⟨jts,r2,p2,s2⟩:=I.sq q2
  obtain⟨u,hu,ru⟩:=r1.get hx
  obtain⟨v,hv,rv⟩:=r2.get hy
  obtain⟨t1,t2,⟨u0,v0,t3⟩,t4,t5⟩:=st
  have fz:=hf z (by simp)
  have fO:=hf TO (by simp)
  refine z8P t1 (y2K D (I.sq_ne q2 fz) (I.sq_ne q2 fO) (I.sq_ne q1 fz) t1 t2 t3 t4 t5 p1 p2 (x:=u) (y:=v) (by simpa using hu) (by simpa using hv) fun h' a1 a2 a3 a4 a5 a6 a7=>?_)
  refine⟨_,rfl,wpAny_letOwnedTupleGo_zip a1 fun h2 e2 d2=>?_⟩
  have lt:∀{p o},s.heap.get? p=some o→s.heap.objs.size≠p:=fun e=>Nat.ne_of_gt (q0n e)
  have hT2:h2.get? s.heap.objs.size=some {cls:= .type "tuple",data:= .seq #[u,v]}:=d2.extBut _ _ (lt t1) a5
  have t2':IsPair h2 TI (.ref i) (.ref j):=d2.extBut _ _ D.a1 (a7 _ _ D.a1 D.a5 D.a6 D.a7 t2)
  have I1:Inv X pins σ (upd H s.heap.objs.size (.tup [x,y])) {s with heap:=h2}:=by
   refine I.turnedLaid (t':=s.toks) (fp:=[z,TI,TO,i,j]) hf (fun p ob hp q=>?_) (q0k _) ?_
   ·simp only[q0t,q1M,or_false,not_or] at hp
    exact d2.extBut p ob hp.1 (a7 p ob hp.1 hp.2.2.1 hp.2.2.2.1 hp.2.2.2.2 q)
   ·exact⟨by show 2≤sizeLine;decide,[u,v],.cons ru (.cons rv .nil),_,hT2,rfl,_,rfl⟩
  refine⟨.ref s.heap.objs.size,_,I1,rfl,⟨_,x,y,rfl,I.hok.fresh (q0k _),fun zs hz=>by rw[I.sq_inj hz q1];exact hx,fun zs hz=>by rw[I.sq_inj hz q2];exact hy,rfl⟩,
   ⟨e2,t2',⟨_,_,d2.extBut _ _ D.a2 a2⟩,a3.keep fun o e=>d2.extBut _ o D.a3 e,a4.keep fun o e=>d2.extBut _ o D.a4 e⟩,fun p hp=>?_⟩
  have hlt:p<s.heap.objs.size:=by
   simp only[q0t,q1M,or_false] at hp
   rcases hp with rfl|rfl|rfl|rfl|rfl
   ·exact q0n t1
   ·exact q0n t2
   ·exact q0n t3
   ·obtain⟨o,_,e,_⟩:=t4.ob;exact q0n e
   ·obtain⟨o,_,e,_⟩:=t5.ob;exact q0n e
  rw[z0i (q0v hlt)]
  exact (hf p hp).1
 done:=by
  intro X hP hw hK hc k pins s σ H E I hf st hg
  subst hP hw hK
  obtain⟨xs,ys,q1,q2,hend⟩:=hg
  obtain⟨its,r1,p1,s1⟩:=I.sq q1
  obtain⟨jts,r2,p2,s2⟩:=I.sq q2
  obtain⟨t1,t2,⟨u0,v0,t3⟩,t4,t5⟩:=st
  have fz:=hf z (by simp)
  have fO:=hf TO (by simp)
  have l1:=r1.length
  have l2:=r2.length
  refine z8P t1 (y4x (I.ok.hd hc) D (I.sq_ne q2 fz) (I.sq_ne q2 fO) (I.sq_ne q1 fz) t1 t2 t3 t4 t5 p1 p2 (by simp;lia) fun h' e a7 he=>⟨let ⟨o,e1,e2⟩:=he;⟨e,o,rfl,e1,e2⟩,rfl,?_⟩)
  refine I.turnedAll (t':=s.toks) (fp:=[z,TI,TO,i,j]) hf fun p ob hp q=>?_
  simp only[q0t,q1M,or_false,not_or] at hp
  exact a7 p ob hp.1 hp.2.2.1 hp.2.2.2.1 hp.2.2.2.2 q
 self:=fun _ _ _ _ _ st h=>wpAny_pyIter_zip st.1 h
section
variable {X:Cx}
def iZip (tl:TA):TI:=fun σ H R=>tl σ H fun vs H1=>∃l m b c xs ys,vs=[.ref l,.ref m]∧SqB b X.K H1 l xs∧SqB c X.K H1 m ys∧R (Itz X.K b c l m) H1
theorem y6g {elts:List Expr}{k:Nat}{tpos:Pos}{l m:Expr}{tl:TA}{p pos:Pos} (hg:Gl X "zip") (hm:X.mg "zip"=none) (ha:PA X [l,m] tl) (hs:starEach [l,m] X.env=[(false,eval l X.env),(false,eval m X.env)]:=by rfl) (hs2:starEach [m] X.env=[(false,eval m X.env)]:=by rfl):
 PI X (.Tuple elts k tpos) (.Call (.Name "zip" p) [l,m] [] pos) (iZip (X:=X) tl):=by
 intro pins s σ H R I h
 refine Call_ (z3b I hg hm boot_zip (PyProof.Rows.callWith_type1 (thn (ha pos pins s σ H _ I h) fun us s1 ⟨vs,H1,I1,r1,q1⟩=>?_) (by rw[hs,hs2]) (by rw[hs2];rfl)))
 obtain⟨a,b,bb,bc,xs,ys,e,q1,q2,q⟩:=q1
 subst e
 cases r1 with
 |cons r rr=>
  cases rr with
  |cons r' rr=>
   cases rr
   cases r
   cases r'
   obtain⟨its,v1,p1,_⟩:=I1.sq q1
   obtain⟨jts,v2,p2,_⟩:=I1.sq q2
   refine y3E p1 p2 fun h' z1 z2 z3 z4 z5 kp=>wpAny_pyIter_zip z1 ?_
   have I2:Inv X pins σ H1 {s1 with heap:=h'}:=I1.kept (t':=s1.toks) kp
   have ne:∀x y:Nat,x≠y→s1.heap.objs.size+x≠s1.heap.objs.size+y:=fun x y h e=>h (Nat.add_left_cancel e)
   have D:ZAp (s1.heap.objs.size+4) (s1.heap.objs.size+2) (s1.heap.objs.size+3) s1.heap.objs.size (s1.heap.objs.size+1):=
        ⟨ne 2 4 (by decide),ne 3 4 (by decide),ne 0 4 (by decide),ne 1 4 (by decide),ne 2 3 (by decide),ne 2 0 (by decide),ne 2 1 (by decide),ne 3 0 (by decide),ne 3 1 (by decide),ne 0 1 (by decide)⟩
   refine⟨_,[s1.heap.objs.size+4,s1.heap.objs.size+2,s1.heap.objs.size+3,s1.heap.objs.size,s1.heap.objs.size+1],_,_,H1,rfl,I2,y2P bb bc a b _ _ _ _ _ D,⟨z1,z2,⟨_,_,z3⟩,z4,z5⟩,fun c hc=>?_,q⟩
   have le:s1.heap.objs.size≤c:=by
        simp only[q0t,q1M,or_false] at hc
        rcases hc with rfl|rfl|rfl|rfl|rfl
        ·exact Nat.le_add_right _ _
        ·exact Nat.le_add_right _ _
        ·exact Nat.le_add_right _ _
        ·exact q0k _
        ·exact Nat.le_add_right _ _
   exact I1.fpOk le (I1.hok.fresh le)
end
end L2
namespace L2
open PySem PySem.Spec PyProof.Rows
structure z6m (J:It) (n:Nat) (Ok:Hp→Prop) (yl:Nat→Hp→V→Hp→Prop):Prop where
 go:∀i H,Ok H→i<n→J.go i H
 stop:∀H,Ok H→J.stop n H
 yld:∀i H x H',Ok H→i<n→J.yld i H x H'→yl i H x H'
theorem z0B (K:PySem.W.Frag) (a:Addr) (xs:List V):z6m (Itl K a) xs.length (fun H=>SqL K H a xs) (fun i H x H'=>H'=H∧xs[i]? =some x) where
 go:=fun i H h hi=>⟨xs,xs[i],h,by simp[hi]⟩
 stop:=fun H h=>⟨xs,h,q0k _⟩
 yld:=fun i H x H' h hi y=>⟨y.1,y.2 xs h⟩
theorem z5G (K:PySem.W.Frag) (a:Addr) (xs:List V):z6m (Itt K a) xs.length (fun H=>SqT K H a xs) (fun i H x H'=>H'=H∧xs[i]? =some x) where
 go:=fun i H h hi=>⟨xs,xs[i],h,by simp[hi]⟩
 stop:=fun H h=>⟨xs,h,q0k _⟩
 yld:=fun i H x H' h hi y=>⟨y.1,y.2 xs h⟩
theorem z2s (lo:Int) (n:Nat):z6m (Itr lo n) n (fun _=>True) (fun i H x H'=>H'=H∧x= .int (lo+i)) where
 go:=fun i H h hi=>hi
 stop:=fun H h=>q0k _
 yld:=fun i H x H' h hi y=>y
theorem z6G (K:PySem.W.Frag) (a:Addr) (xs:List V):z6m (Ite K a) xs.length (fun H=>SqL K H a xs) (fun i H x H'=>∃p v,x= .ref p∧H p=none∧xs[i]? =some v∧H'=upd H p (.tup [.int i,v])) where
 go:=fun i H h hi=>⟨xs,xs[i],h,by simp[hi]⟩
 stop:=fun H h=>⟨xs,h,q0k _⟩
 yld:=fun i H x H' h hi y=>let ⟨p,v,e,hn,hv,e2⟩:=y;⟨p,v,e,hn,hv xs h,e2⟩
theorem y2V (K:PySem.W.Frag) (b c:Bool) (l m:Addr) (xs ys:List V):z6m (Itz K b c l m) (min xs.length ys.length) (fun H=>SqB b K H l xs∧SqB c K H m ys)
 (fun i H x H'=>∃p u v,x= .ref p∧H p=none∧xs[i]? =some u∧ys[i]? =some v∧H'=upd H p (.tup [u,v])) where
 go:=fun i H h hi=>⟨xs,ys,xs[i]'(by lia),ys[i]'(by lia),h.1,h.2,by simp,by simp⟩
 stop:=fun H h=>⟨xs,ys,h.1,h.2,by lia⟩
 yld:=fun i H x H' h hi y=>let ⟨p,u,v,e,hn,hu,hv,e2⟩:=y;⟨p,u,v,e,hn,hu xs h.1,hv ys h.2,e2⟩
theorem z0I {J:It}{n:Nat}{Ok:Hp→Prop}{yl:Nat→Hp→V→Hp→Prop} (R:z6m J n Ok yl) {g:TG}{tb:TS}{D:y4w}{σ:St}{H:Hp} (Pv:Nat→St→Hp→Prop) (h0:Pv 0 σ H) (hl:∀i σ H,i≤n→Pv i σ H→Ok H)
 (hs:∀i x σ H H',i<n→Pv i σ H→yl i H x H'→g x σ H' fun σ2 H2=>tb {D with nx:=Pv (i+1),ct:=Pv (i+1),bk:=D.nx} σ2 H2) (hd:∀σ H,Pv n σ H→D.nx σ H):
 ∃W:Nat→Nat→St→Hp→Prop,(∃m,W 0 m σ H)∧∀i m σ H,W i m σ H→
  (J.stop i H∧D.nx σ H)∨(J.go i H∧∃N:St→Hp→Prop,(∀σ' H',N σ' H'→∃m',m'<m∧W (i+1) m' σ' H')∧∀x H',J.yld i H x H'→g x σ H' fun σ2 H2=>tb {D with nx:=N,ct:=N,bk:=D.nx} σ2 H2):=by
 refine⟨fun i m σ H=>m=n - i∧i≤n∧Pv i σ H,⟨n,by simp,q0K _,h0⟩,?_⟩
 rintro i m σ H ⟨rfl,hi,p⟩
 have q:=hl i σ H hi p
 by_cases hlt:i<n
 ·exact .inr ⟨R.go i H q hlt,Pv (i+1),fun σ' H' p'=>⟨n - (i+1),by lia,rfl,hlt,p'⟩,fun x H' y=>hs i x σ H H' hlt p (R.yld i H x H' q hlt y)⟩
 ·have e:i=n:=by lia
  subst e
  exact .inl ⟨R.stop H q,hd σ H p⟩
theorem z4C {J:It}{n:Nat}{Ok:Hp→Prop}{yl:Nat→Hp→V→Hp→Prop} (R:z6m J n Ok yl) {fr:List (Option Nat)}{g:TG}{tt:TT}{te:TE}{σ:St}{H1:Hp}{Q:VK}{D:Addr} (Pv:Nat→List V→St→Hp→Prop)
 (h0:Pv 0 [] (z0C fr σ) (upd H1 D (.lst []))) (hl:∀i acc σ H,i≤n→Pv i acc σ H→Ok H∧acc.length≤i) (hn:n≤sizeLine)
 (hs:∀(N:Bool→V→St→Hp→Prop) (i:Nat) (x:V) (acc:List V) (σ:St) (H H':Hp),i<n→Pv i acc σ H→yl i H x H'→
  (∀v σ2 H4,H4 D=some (.lst acc)→Pv (i+1) (acc++[v]) σ2 (upd H4 D (.lst (acc++[v])))→N true v σ2 H4)→(∀σ2 H3,Pv (i+1) acc σ2 H3→N false .non σ2 H3)→
  g x σ H' fun σ2 H2=>tt σ2 H2 fun b H3=>if b=true then te σ2 H3 fun v H4=>N true v σ2 H4 else N false .non σ2 H3)
 (hd:∀acc σ H,Pv n acc σ H→Q (.ref D) H):
 z3C J g tt te Q D (z0C fr σ) (upd H1 D (.lst [])):=by
 refine⟨fun i m σ H=>m=n - i∧i≤n∧∃acc,Pv i acc σ H,⟨n,by simp,q0K _,[],h0⟩,?_⟩
 rintro i m σ H ⟨em,hi,acc,p⟩
 obtain⟨q,ha⟩:=hl i acc σ H hi p
 by_cases hlt:i<n
 ·refine .inr ⟨R.go i H q hlt,fun x H' y=>?_⟩
  exact hs (fun b v σ2 H4=>match b with|true=>∃acc' m',H4 D=some (.lst acc')∧acc'.length<sizeLine∧m'<m∧(m'=n - (i+1)∧i+1≤n∧∃acc2,Pv (i+1) acc2 σ2 (upd H4 D (.lst (acc'++[v]))))|false=>∃m',m'<m∧(m'=n - (i+1)∧i+1≤n∧∃acc2,Pv (i+1) acc2 σ2 H4))
   i x acc σ H H' hlt p (R.yld i H x H' q hlt y) (fun v σ2 H4 e pv=>⟨acc,n - (i+1),e,by lia,by lia,rfl,hlt,_,pv⟩) (fun σ2 H3 pv=>⟨n - (i+1),by lia,rfl,hlt,_,pv⟩)
 ·have e:i=n:=by lia
  subst e
  exact .inl ⟨R.stop H q,hd acc σ H p⟩
theorem z0z {α:Type} (xs:List α):xs.filter (fun _=>true)=xs:=q1x.mpr fun _ _=>rfl
theorem z0V {J:It}{n:Nat}{Ok:Hp→Prop}{xs:List V} (hx:n=xs.length) (R:z6m J n Ok (fun i H x H'=>H'=H∧xs[i]? =some x)) {fr:List (Option Nat)}{tt:TT}{te:TE}{σ:St}{H1:Hp}{Q:VK}{D:Addr} (hD:H1 D=none) (tst:V→Bool) (val:V→V)
 (hok:∀H,Same H1 H→Ok H) (hn:n≤sizeLine)
 (ht:∀x∈xs,∀Hc,Same H1 Hc→∀S:Bool→Hp→Prop,S (tst x) Hc→tt ((z0C fr σ).set 0 (some x)) Hc S)
 (hv:∀x∈xs,tst x=true→∀Hc,Same H1 Hc→∀S:VK,S (val x) Hc→te ((z0C fr σ).set 0 (some x)) Hc S)
 (q:Q (.ref D) (upd H1 D (.lst ((xs.filter tst).map val)))):
 z3C J (z9Y 0) tt te Q D (z0C fr σ) (upd H1 D (.lst [])):=by
 subst hx
 have st:∀acc,Same H1 (upd H1 D (.lst acc)):=fun acc=>z0e hD _
 refine z4C R (fun i acc σ' H'=>(∃o,σ'=(z0C fr σ).set 0 o∨σ'=z0C fr σ)∧H'=upd H1 D (.lst acc)∧acc=((xs.take i).filter tst).map val) ⟨⟨none,.inr rfl⟩,rfl,by simp⟩ ?_ hn ?_ ?_
 ·rintro i acc σ' H' hi ⟨_,rfl,rfl⟩
  refine⟨hok _ (st _),?_⟩
  rw[q0a]
  refine q0m (q1q _ _) ?_
  rw[q0q];lia
 ·rintro N i x acc σ' H' H'' hi ⟨hσ,rfl,ha⟩ ⟨rfl,hx⟩ n1 n2
  have hm:x∈xs:=q0B hx
  have es:σ'.set 0 (some x)=(z0C fr σ).set 0 (some x):=by
   obtain⟨o,e|e⟩:=hσ
   ·rw[e,q1Q]
   ·rw[e]
  show tt (σ'.set 0 (some x)) _ _
  rw[es]
  have tk:xs.take (i+1)=xs.take i++[x]:=by rw[q0E,hx];rfl
  refine ht x hm _ (st _) _ ?_
  cases hb:tst x with
  |true=>
   refine z5h (hv x hm hb _ (st _) _ (n1 _ _ _ z0b ⟨⟨_,.inl rfl⟩,z7s,?_⟩))
   rw[tk,q0U,q0p,←ha]
   simp[hb]
  |false=>
   refine z3t (n2 _ _ ⟨⟨_,.inl rfl⟩,rfl,?_⟩)
   rw[tk,q0U,q0p,←ha]
   simp[hb]
 ·rintro acc σ' H' ⟨_,rfl,rfl⟩
  rw[q0P]
  exact q
section
variable {X:Cx}{K:PySem.W.Frag}{tg:Expr}
theorem z0x (h:X.K=K):IxR X (rIxL K):=by subst h;exact y1M
theorem y5p (h:X.K=K):IxR X (rIxT K):=by subst h;exact y4d
theorem z2r (h:X.K=K):SlR X (rSlL K):=by subst h;exact y0G
def cLen (K:PySem.W.Frag):List V→Hp→VK→Prop:=fun xs H Q=>∃p ys,xs=[.ref p]∧SqA K H p ys∧Q (.int ys.length) H
theorem z1g (h:X.K=K):z1x X (.builtin "len") (cLen K):=by subst h;exact z7g
def cAny (K:PySem.W.Frag):List V→Hp→VK→Prop:=fun xs H Q=>∃p ys,xs=[.ref p]∧SqA K H p ys∧(∀y∈ys,PlV y)∧Q (.bl (ys.any trV)) H
theorem z3e (h:X.K=K) (hc:X.calm=true):z1x X (.builtin "any") (cAny K):=by subst h;exact y3F hc
def cAll (K:PySem.W.Frag):List V→Hp→VK→Prop:=fun xs H Q=>∃p ys,xs=[.ref p]∧SqA K H p ys∧(∀y∈ys,PlV y)∧Q (.bl (ys.all trV)) H
theorem y2B (h:X.K=K) (hc:X.calm=true):z1x X (.builtin "all") (cAll K):=by subst h;exact y3G hc
def cList (K:PySem.W.Frag):List V→Hp→VK→Prop:=fun xs H Q=>∃p ys,xs=[.ref p]∧SqA K H p ys∧∀l,H l=none→Q (.ref l) (upd H l (.lst ys))
theorem z1S (h:X.K=K):z1x X (.type "list") (cList K):=by subst h;exact z7f
def y6V (K:PySem.W.Frag):List V→Hp→VK→Prop:=fun xs H Q=>∃p ys,xs=[.ref p]∧((SqL K H p ys∧∀l,H l=none→Q (.ref l) (upd H l (.tup ys)))∨(SqT K H p ys∧Q (.ref p) H))
theorem z0W (h:X.K=K):z1x X (.type "tuple") (y6V K):=by subst h;exact z6i
theorem y6s (h:X.K=K):OpR X (compareOp .In) (rIn K false):=by subst h;exact y1j
theorem y1i (h:X.K=K):OpR X (compareOp .NotIn) (rIn K true):=by subst h;exact z6M
theorem z0E (h:X.K=K) {l:Expr}{tl:TE} (hl:PE X l tl):PI X tg l (y6G K tl):=by subst h;exact y4Y hl
theorem y1b (h:X.K=K) {l:Expr}{tl:TE} (hl:PE X l tl):PI X tg l (iTup K tl):=by subst h;exact y6h hl
def y6H (K:PySem.W.Frag) (tl:TA):TI:=fun σ H R=>tl σ H fun vs H1=>∃a xs,vs=[.ref a]∧H1 a=some (.lst xs)∧R (Ite K a) H1
theorem z8J (h:X.K=K) {elts:List Expr}{k:Nat}{tpos:Pos}{l:Expr}{tl:TA}{p pos:Pos} (hg:Gl X "enumerate") (hm:X.mg "enumerate"=none) (ha:PA X [l] tl) (hs:starEach [l] X.env=[(false,eval l X.env)]:=by rfl):
 PI X (.Tuple elts k tpos) (.Call (.Name "enumerate" p) [l] [] pos) (y6H K tl):=by subst h;exact y4Z hg hm ha hs
def iZipK (K:PySem.W.Frag) (tl:TA):TI:=fun σ H R=>tl σ H fun vs H1=>∃l m b c xs ys,vs=[.ref l,.ref m]∧SqB b K H1 l xs∧SqB c K H1 m ys∧R (Itz K b c l m) H1
theorem z3p (h:X.K=K) {elts:List Expr}{k:Nat}{tpos:Pos}{l m:Expr}{tl:TA}{p pos:Pos} (hg:Gl X "zip") (hm:X.mg "zip"=none) (ha:PA X [l,m] tl) (hs:starEach [l,m] X.env=[(false,eval l X.env),(false,eval m X.env)]:=by rfl) (hs2:starEach [m] X.env=[(false,eval m X.env)]:=by rfl):
 PI X (.Tuple elts k tpos) (.Call (.Name "zip" p) [l,m] [] pos) (iZipK K tl):=by subst h;exact y6g hg hm ha hs hs2
theorem z1c (h:X.K=K) {es:List Expr}{k:Nat}{pos:Pos}{t:TGs} (n:Nat) (hc:X.calm=true) (hp:PGs X es t) (hn:(assignEach es X.env).length =n:=by rfl) (hst:(assignEach es X.env).findIdx? (·.1)=none:=by rfl):PG X (.Tuple es k pos) (gTup K n t):=by
 subst h;exact y6i hc hp hn hst
end
end L2
namespace L2
open PySem PySem.Spec PySem.W PyProof.Rows
section
variable {X:Cx}{e:Expr}{te:TE}{a:Str}{j:Nat}{p1 p2 pos:Pos}
end
section
variable {X:Cx}{C W fI:Addr}{x:Str}{np apos cpos:Pos}{e1 e2:Expr}{ta:TA}
end
section
variable {X:Cx}{pins:List (Addr×Obj)}{σ:St}{H:Hp}{s:Shared}{h':Heap}
end
section
variable {X:Cx}{pins:List (Addr×Obj)}{σ:St}{H:Hp}{s:Shared}{C a:Addr}{f:Str}{v:Value}{y:V}
variable {o value:Expr}{ta tv:TE}{pos pos':Pos}
end
end L2
namespace L2
open PySem PySem.Spec PySem.W PyProof.Rows
section
variable {prog:Program}{w:World}{A:Around}{E:Value→Shared→Prop}{h:Heap}{g:Array GenState}{d:Drawn}{t:Nat}{os:OsState}
variable {nm q:Str}{C N:Addr}{bs bm:List Value}{hdct:Bool}{sn:List Str}{sub:List Value}{ab:Bool}{col:Option Bool}{dd:Option Addr}{k0 k1 k2 k3 k5:Option Value}{mN:Str→Option Value}{fI:Addr}{oI:Obj}
end
section
variable {X:Cx}{pins:List (Addr×Obj)}{σ:St}{H:Hp}{s:Shared}
variable {CX:CXT}{k:Nat}{C W fI:Addr}{fd:FuncData}{ps:List Str}{sp:Sp}{E:XK}{x:Str}{np pos:Pos}{e:Expr}{es:List Expr}{t:TA}
end
section
variable {X:Cx}{fx cx n:Str}{fp cpos xpos hp hpos tpos:Pos}{e:Expr}{es:List Expr}{ta:TA}{k j:Nat}{ps:List Str}{sp:Sp}{W:Addr}{st0:Stmt}{ts:TS}
end
section
variable {X:Cx}{K:Frag}
end
section
variable {prog:Program}{w:World}{A:Around}{E:Value→Shared→Prop}{h:Heap}{gn:Array GenState}{dr:Drawn}{tt:Nat}{os:OsState}{K:Frag}{x D:Addr}{ox od:Obj}{name:Str}
end
section
variable {X:Cx}{e:Expr}{f:Str}{pos:Pos}{ta:TE}{K:Frag}
end
end L2
namespace L2
open PySem PySem.Spec PyProof.Rows
section
variable {prog:Program}{w:World}{A:Around}{E:Value→Shared→Prop}{s:Shared}
end
section
variable {X:Cx}{K:PySem.W.Frag}
def Itq (K:PySem.W.Frag) (b:Bool) (a:Addr):It:=match b with
 |true=>Itl K a
 |false=>Itt K a
theorem z1V (K:PySem.W.Frag) (b:Bool) (a:Addr) (xs:List V):z6m (Itq K b a) xs.length (fun H=>SqB b K H a xs) (fun i H x H'=>H'=H∧xs[i]? =some x):=by
 cases b with
 |true=>exact z0B K a xs
 |false=>exact z5G K a xs
def iSq (K:PySem.W.Frag) (tl:TE):TI:=fun σ H R=>tl σ H fun x H1=>∃a b xs,x= .ref a∧SqB b K H1 a xs∧R (Itq K b a) H1
theorem z2W {tg l:Expr}{tl:TE} (h:X.K=K) (hl:PE X l tl):PI X tg l (iSq K tl):=by
 subst h
 intro pins s σ H R I q
 refine thn (hl pins s σ H _ I q) fun v s1 ⟨x,H1,I1,r1,a,b,xs,e,hq,q1⟩=>?_
 subst e
 cases r1
 cases b with
 |true=>
  obtain⟨its,rv,p,hz⟩:=I1.list hq
  refine wpAny_pyIter_list p.isList ⟨s1.heap.objs.size,[s1.heap.objs.size],_,_,H1,rfl,I1.kept (t':=s1.toks) fun b o e=>q0d _ e,z6q a _,⟨_,q0o _ rfl,rfl,rfl⟩,fun b hb=>?_,q1⟩
  have e:b=s1.heap.objs.size:=by simpa using hb
  subst e
  exact I1.fpOk (q0k _) (I1.hok.fresh (q0k _))
 |false=>
  obtain⟨its,rv,p,hz⟩:=I1.tuple hq
  refine wpAny_pyIter_tuple (show s1.heap.IsTuple a its.toArray from p) ⟨s1.heap.objs.size,[s1.heap.objs.size],_,_,H1,rfl,I1.kept (t':=s1.toks) fun b o e=>q0d _ e,z4S a _,⟨_,q0o _ rfl,rfl,rfl⟩,fun b hb=>?_,q1⟩
  have e:b=s1.heap.objs.size:=by simpa using hb
  subst e
  exact I1.fpOk (q0k _) (I1.hok.fresh (q0k _))
def rSlA (K:PySem.W.Frag):V→Option Int→Option Int→Hp→VK→Prop:=fun x lo hi H Q=>rSlL K x lo hi H Q∨rSlT K x lo hi H Q
theorem z5w (h:X.K=K):SlR X (rSlA K):=by subst h;exact SlR.or y0G y5V
def rIxA (K:PySem.W.Frag):R2:=fun x y H Q=>rIxL K x y H Q∨rIxT K x y H Q
theorem z3s (h:X.K=K):IxR X (rIxA K):=by subst h;exact IxR.or y1M y4d
theorem y5e (h:X.K=K) (hu:X.A.units+64<cLine):OpR X (compareOp .Eq) (rEqD K):=by subst h;exact y6t hu
theorem z5L (h:X.K=K) (hu:X.A.units+64<cLine):OpR X (compareOp .NotEq) (rNeD K):=by subst h;exact y6q hu
end
theorem SqB.same {b:Bool}{K:PySem.W.Frag}{H H':Hp}{a:Addr}{xs:List V} (g:Same H H') (h:SqB b K H a xs):SqB b K H' a xs:=by
 cases b with
 |true=>exact SqL.same g h
 |false=>exact SqT.same g h
theorem z0l {n:Nat} (h:n≤16777216):n≤sizeLine:=by rw[sizeLine_eq];exact h
theorem z1Z {n:Nat} (h:n<16777216):n<sizeLine:=by rw[sizeLine_eq];exact h
end L2
namespace L2
open PySem PySem.Spec PyProof.Rows
section
variable {X:Cx}{tg iter elt:Expr}{ifs:List Expr}{scope:Scope}{pos:Pos}{cl:List (Str×Addr)}{Nc:List Str}{fr:List (Option Nat)}{wi:TI}{g:TG}{tt:TT}{te:TE}
theorem z3o {y:Str}{py spos:Pos}{jj:Nat} (hsw:swapsWith (.ListComp elt [⟨tg,iter,ifs,0⟩] scope pos) (some (.Name y py)) spos.line X.env=pure true) (hN:X.N.Nodup) (hj:X.N[jj]? =some y) (hx:Loc X.env.scope y) (hf:X.fn y=true∨X.env.scope.names.lookup y=some .local)
 (hc:X.calm=true) (hi:PI X tg iter wi) (hcl:closureFor scope X.env=pure cl) (hcell:∀y∈scope.names,y.2≠ .cell) (hk:scope.kind= .function) (hnm:∀y∈scope.names,y.2= .local →scope.names.lookup y.1=some .local)
 (hall:(scope.names.all fun p=>p.2 != .free || (cl.lookup p.1).isSome)=true) (cc:CapC X.env cl) (cn:CapN X scope cl Nc fr)
 (hg:∀C s2 H2 fp,PG (z2f X Nc scope cl C s2 H2 fp) tg g) (ht:∀C s2 H2 fp,PTs (z2f X Nc scope cl C s2 H2 fp) ifs tt) (he:∀C s2 H2 fp,PE (z2f X Nc scope cl C s2 H2 fp) elt te)
 (hs:∀x,foldedSetIterable iter X.env x=pure x:=by intro _;rfl):PS X (.Assign [.Name y py] (.ListComp elt [⟨tg,iter,ifs,0⟩] scope pos) spos) (tAsg (y5R fr wi g tt te) (z9Y jj)):=by
 intro pins s σ H Ds I h
 rw[exec_Assign_Name_used _ _ _ _ hsw]
 refine wpAny_bind (wpAny_standAt (wpAny_bind ?_))
 show wpAny _ X.A (do let _ ←comprehension (.ListComp elt [⟨tg,iter,ifs,0⟩] scope pos) scope X.env _ (newList []) false (eval iter X.env) (some (assign (.Name y py) X.env))) _ _ s
 refine wpAny_bind (wpAny_mono (wpAny_comprehension_free (use:=some (assign (.Name y py) X.env)) (Q:=fun _ s'=>SP X pins Ds .next s') rfl hs hcl hk hnm ?_) (fun _ s' hq=>wpAny_pure (wpAny_pure hq)) fun _ _ e=>e)
 refine wpAny_mono (hi pins s σ H _ I h) (fun xv s1 h1=>wpAny_mono h1 (fun itv s2 h2=>?_) fun _ _ e=>e) fun _ _ e=>e
 obtain⟨it,fp,tn,J,H2,rfl,I2,T,st2,f2,q2⟩:=h2
 obtain⟨W,⟨m0,w0⟩,turn⟩:=q2 s2.heap.objs.size (I2.hok.fresh (q0k _))
 refine wpAny_newObj_type (wpAny_newFunctionEnv hcell (by intro y hy;simp at hy) (fun h4 ns4 sb4=>?_) hk)
 dsimp only at ns4 sb4 ⊢
 generalize hD:s2.heap.objs.size=D at*
 generalize hL:s2.heap.push {cls:= .type "list",dict:=none,data:= .seq ([]:List Value).toArray}=hl at ns4 sb4 ⊢
 have hlsz:hl.objs.size=D+1:=by rw[←hL,Heap.size_push,hD]
 rw[hlsz] at ns4 sb4 ⊢
 have DC:D≠D+1:=q0v (Nat.lt_succ_self _)
 have low:∀b o,s2.heap.get? b=some o→b<D:=fun b o e=>by rw[←hD];exact q0n e
 have kp:∀b o,s2.heap.get? b=some o→h4.get? b=some o:=fun b o e=>by
  have z:=low b o e
  refine sb4.extBut b o (q0v (q1k z)) (q0d _ ?_)
  rw[←hL]
  exact q0d _ e
 have hD4:h4.get? D=some {cls:= .type "list",dict:=none,data:= .seq ([]:List Value).toArray}:=by
  refine sb4.extBut D _ DC (q0d _ ?_)
  rw[←hL,←hD]
  exact q0o _ rfl
 have hn:H2 D=none:=by rw[←hD];exact I2.hok.fresh (q0k _)
 have hnC:H2 (D+1)=none:=I2.hok.fresh (by rw[hD];exact q1U _)
 let Y:=z2f X Nc scope cl (D+1) s2 H2 fp
 have ixv:∀b∈fp,b<D:=fun b hb=>by
  obtain⟨o,e,_⟩:=T.obj 0 _ st2 b hb
  exact low b o e
 have okY:Y.Ok:=by
  refine⟨I2.ok.mod,?_,I2.ok.glob,I2.ok.blt,?_,?_,?_,?_,fun _=>I2.ok.hd hc,I2.ok.frames,.inl rfl,?_,I2.bs,?_,?_,?_,I2.stack,I2.stkFree⟩
  ·exact hk
  ·show s2.heap.objs.size≤D+1
   lia
  ·intro x y c e1 e2
   exact I2.ok.inj x y c (cc.mem x c e1) (cc.mem y c e2)
  ·intro x hx
   exact z2A hcell hall x hx
  ·intro x c e
   cases e
  ·intro b hb
   refine⟨fun z=>?_,fun x c e z=>?_⟩
   ·exact absurd z (q0v (q1k (ixv b hb)))
   ·exact (f2 b hb).2.2.2.2.1 x c (cc.mem x c e) z
  ·exact q0m I2.ok.bsz I2.sz
  ·intro b o e hb
   have z:=(f2 b hb).2.2.2.1
   rcases z with z|z
   ·exact I2.ok.noex b o e z
   ·exact absurd (q0F (q0n (I2.ok.bs b o e).1) z) (q1F _)
  ·intro b hb z
   have e2:=q0t.mp (I2.stkSub b z)
   rcases e2 with e2|e2
   ·exact (f2 b hb).2.1 e2
   ·exact (f2 b hb).2.2.1 e2
 have IY:Inv Y [] (z0C fr σ) (upd H2 D (.lst [])) {s2 with heap:=h4,toks:=s2.toks+([]:List (Str×Value)).length}:=by
  refine⟨okY,rfl,I2.bare,⟨fun b o e n _ _=>kp b o e,fun b o e n _ _=>⟨o.slots,kp b o e⟩,fun b o e n _=>?_,fun b o e _=>⟨o,kp b o e⟩,fun b xs e=>?_,fun b o u e=>?_,fun b ps e=>⟨#[],?_⟩⟩,?_,fun x c e=>?_,?_,fun x c e=>?_,fun p hp=>?_,fun b u e=>?_,?_⟩
  ·rw[z0i (q0v (low b o e))];exact n
  ·rw[z0i (z0g e hn)];exact e
  ·rw[z0i (z0g e hn)];exact e
  ·rw[z0i (z0g e hn),show H2 b=_ from e];simp
  ·refine⟨_,ns4,fun j x v e1 e2 e3=>?_⟩
   have e2':(fr.map fun o=>o.bind fun k=>(σ[k]?).join)[j]? =some (some v):=e2
   rw[q0g] at e2'
   obtain⟨o,ho,hv⟩:=q0r.mp e2'
   cases o with
   |none=>cases hv
   |some k=>
    obtain⟨c1,c2,c3,c4⟩:=cn.at j x k e1 ho
    have hσ:σ[k]? =some (some v):=by
        have hv':(σ[k]?).join =some v:=hv
        cases z:σ[k]? with
        |none=>rw[z] at hv';cases hv'
        |some w'=>rw[z] at hv';exact congrArg some hv'
    obtain⟨m,hm,hlk⟩:=I2.loc
    obtain⟨u,r,lk⟩:=hlk k x v c1 hσ (.inr (.inl c2))
    refine⟨u,r,.inr ⟨.inl c4,?_⟩⟩
    rcases lk with⟨z,_⟩|⟨_,c,ec,oc,hoc,dc⟩
    ·rw[c2] at z;cases z
    ·obtain⟨c',ec'⟩:=q2a.mp c3
     have:=cc.mem x c' ec'
     rw[ec] at this;cases this
     exact⟨c,ec',oc,kp c oc hoc,dc⟩
  ·obtain⟨v,oc,hoc,dc⟩:=I2.cell x c (cc.mem x c e)
   exact⟨v,oc,kp c oc hoc,dc⟩
  ·show upd H2 D (.lst []) (D+1)=none
   rw[z0i (Ne.symm DC)];exact hnC
  ·obtain⟨v,oc,hoc,dc⟩:=I2.cell x c (cc.mem x c e)
   rw[z0i (q0v (low c oc hoc))]
   exact I2.freeC x c (cc.mem x c e)
  ·simp[Y,z2f] at hp
  ·by_cases hb:b=D
   ·subst hb
    rw[z0b] at e;cases e
    exact⟨q0K _,[],_,.nil,hD4⟩
   ·rw[z0i hb] at e
    exact (I2.hok b u e).stay (fun c v _ q=>kp c v q) (fun c q=>by rw[z0i (z0g q hn)];exact q) fun c xs q=>by rw[z0i (z0g q hn)];exact q
  ·show (fr.map _).length =Nc.length
   rw[q0a];exact cn.length
 have fY:∀{H':Hp},(∀b∈fp,H' b=none)→∀b∈fp,y2G Y [] H' b:=fun {H'} hn' b hb=>by
  refine⟨hn' b hb,fun z=>?_,fun z=>?_,.inl hb,fun x c e z=>?_,fun p hp=>?_⟩
  ·exact absurd z (q0v (q1k (ixv b hb)))
  ·exact okY.exfs b hb z
  ·exact (f2 b hb).2.2.2.2.1 x c (cc.mem x c e) z
  ·simp[Y,z2f] at hp
 have st4:tn 0 h4:=T.keep _ _ _ st2 fun b hb o e=>kp b o e
 have fr4:∀b∈fp,upd H2 D (.lst []) b=none:=fun b hb=>by
  rw[z0i (q0v (ixv b hb))]
  exact (f2 b hb).1
 have loop:∀s3:Shared,s3={s2 with heap:=h4,toks:=s2.toks+([]:List (Str×Value)).length}→
  codeAny (model X.prog X.w) X.A (.compLoop (.ListComp elt [⟨tg,iter,ifs,0⟩] scope pos) 0 (.ref it) (.ref D) (compEnvC scope cl (D+1) X.env)) (compPost (model X.prog X.w) X.A X.xe (some (assign (.Name y py) X.env)) (fun _ s'=>SP X pins Ds .next s') (.ref D) (D+1)) s3:=by
  rintro s3 rfl
  refine codeAny_loop rfl (fun n s'=>∃i σ' H',Inv Y [] σ' H' s'∧tn i s'.heap∧(∀b∈fp,H' b=none)∧W i n σ' H') (fun n s5 hI=>?_) m0 ⟨0,_,_,IY,st4,fr4,w0⟩
  obtain⟨i,σ5,H5,I5,st5,fr5,w5⟩:=hI
  show wpAny _ X.A ((compTurn (.ListComp elt [⟨tg,iter,ifs,0⟩] scope pos) 0 (.ref it) (.ref D) (compEnvC scope cl (D+1) X.env)).onRaise (fun x=>do noteFrame x (compEnvC scope cl (D+1) X.env);theTreesLotGoes x)) _ _ s5
  refine wpAny_noted ?_
  rw[compTurn_list]
  refine wpAny_bind (wpAny_standAt (wpAny_bind ?_))
  rcases turn i n σ5 H5 w5 with⟨stop,qn⟩|⟨go,step⟩
  ·refine wpAny_mono (T.done Y rfl rfl rfl rfl i [] s5 σ5 H5 (fun _ _=>False) I5 (fY fr5) st5 stop) (fun r s6 ⟨hr,I6⟩=>?_) fun _ _ z=>z.elim
   subst hr
   refine wpAny_pure ?_
   obtain⟨m6,hm6,_⟩:=id I6.loc
   have sb7:Heap.SameBut (D+1) s6.heap s6.heap:=Heap.SameBut.refl ..
   have un:Un (frs X.stack) fp H2 H5 s2.heap s6.heap:=by
        have b6:=I6.base
        have nc:∀b o,s2.heap.get? b=some o→b≠D+1:=fun b o e=>q0v (q1k (low b o e))
        refine⟨fun b o e n1 n2 n3=>(sb7.2 b (nc b o e)).trans (b6.keep b o e n1 n2 n3),fun b o e n1 n2 n3=>?_,b6.free,fun b o e n3=>?_,b6.tups,b6.frzs,b6.tbls⟩
        ·obtain⟨sl,z⟩:=b6.slot b o e n1 n2 n3
         exact⟨sl,(sb7.2 b (nc b o e)).trans z⟩
        ·obtain⟨o',z⟩:=b6.there b o e n3
         exact⟨o',(sb7.2 b (nc b o e)).trans z⟩
   have hok7:HOk X.prog X.w H5 s6.heap:=fun b u e=>by
        refine (I6.hok b u e).stay (fun c v hc' q=>(sb7.2 c fun z=>?_).trans q) (fun _ q=>q) fun _ _ q=>q
        have fC:H5 (D+1)=none:=I6.free
        subst z
        rcases hc' with z|z
        ·rw[←z,fC] at e;cases e
        ·rw[fC] at z;cases z
   have IX:=I2.call' (s':={s6 with heap:=s6.heap}) (ch:=fp) I6.os un hok7 I6.bare fun b hb=>⟨(f2 b hb).2.2.2.1,(f2 b hb).2.1,(f2 b hb).2.2.2.2.1,(f2 b hb).2.2.2.2.2⟩
   have lx:X.env.locals<D:=by
        obtain⟨m,⟨o,_,_,ho,_⟩,_⟩:=I2.loc
        exact low _ o ho
   refine wpAny_assign_Name (z6u IX hN hj hx (show RelV (.ref D) (.ref D) from rfl) (fun s7 I7 ⟨a7,sa7,ha7⟩=>?_) hf)
   have al:a7<D:=by
        rcases ha7 with z|z
        ·rw[z];exact lx
        ·obtain⟨v,o,ho,_⟩:=I2.cell y a7 z
         exact low _ o ho
   refine⟨m6,hm6.sameBut sa7 (Ne.symm (q0v (q1k al))),fun h8 sb8=>?_⟩
   have I8:Inv X pins (σ.set jj (some (.ref D))) H5 {s7 with heap:=h8}:=I7.turned (t':=s7.toks) (it:=D+1) (fun b o hb e=>(sb8.2 b hb).trans e) I6.free (Ne.symm (q0v (q1k lx))) (.inr (by
    have:=I2.sz
    rw[hD] at this
    exact Nat.le_succ_of_le this)) (fun x c e z=>by
    obtain⟨v,o,ho,_⟩:=I2.cell x c e
    have:=low _ o ho
    rw[z] at this
    exact absurd this (Nat.not_lt.mpr (q1U _))) (fun p hp z=>by
    have:=low _ _ (I2.pin p hp).1
    rw[z] at this
    exact absurd this (Nat.not_lt.mpr (q1U _)))
   exact⟨_,H5,I8,qn⟩
  ·refine wpAny_mono (T.item Y rfl rfl rfl rfl i [] s5 σ5 H5 (fun _ _=>False) I5 (fY fr5) st5 go) (fun r s6 ⟨u,hr,h6⟩=>?_) fun _ _ z=>z.elim
   subst hr
   refine wpAny_bind (wpAny_mono h6 (fun _ s7 ⟨x,H7,I7,r7,y7,st7,fr7⟩=>?_) fun _ _ z=>z.elim)
   have I7':=I7.pinned (fY fr7) (T.obj _ _ st7)
   refine wpAny_bind (wpAny_mono (hg _ _ _ _ _ s7 σ5 H7 x u _ I7' r7 (step x H7 y7)) (fun _ s8 ⟨σ8,H8,I8,q8⟩=>?_) fun _ _ z=>z.elim)
   have again:∀{σ':St}{H':Hp}{s':Shared}{k:Nat},Inv Y ([]++z5c fp s7.heap) σ' H' s'→W (i+1) k σ' H'→∃i' σ'' H'',Inv Y [] σ'' H'' s'∧tn i' s'.heap∧(∀b∈fp,H'' b=none)∧W i' k σ'' H'':=fun {σ' H' s' k} I' w'=>by
        refine⟨i+1,σ',H',I'.unpinned,T.keep _ _ _ st7 fun b hb o e=>(I'.pin (b,o) (q0M _ (q0M _ (z1w hb e)))).1,fun b hb=>?_,w'⟩
        obtain⟨o,e,d⟩:=T.obj _ _ st7 b hb
        exact (I'.pin (b,o) (q0M _ (q0M _ (z1w hb e)))).2.1
   refine wpAny_bind (wpAny_mono (ht _ _ _ _ _ s8 σ8 H8 _ I8 q8) (fun ok s9 ⟨H9,I9,q9⟩=>?_) fun _ _ z=>z.elim)
   cases ok with
   |false=>
    obtain⟨m',hm',w'⟩:=q9
    exact wpAny_pure ⟨rfl,m',hm',again I9 w'⟩
   |true=>
    refine wpAny_bind (wpAny_bind (wpAny_mono (he _ _ _ _ _ s9 σ8 H9 _ I9 q9) (fun ev s10 ⟨v,H10,I10,r10,acc,m',hacc,hlen,hm',w'⟩=>?_) fun _ _ z=>z.elim))
    refine wpAny_bind (wpAny_mono (z1n (X:=Y) _ s10 σ8 H10 (.ref D) [v] (.ref D) [ev] (fun r H'=>r= .non ∧H'=upd H10 D (.lst (acc++[v]))) I10 rfl (.cons r10 .nil) ⟨D,acc,v,rfl,rfl,hacc,hlen,rfl,rfl⟩) (fun _ s11 ⟨_,H11,I11,_,_,e11⟩=>?_) fun _ _ z=>z.elim)
    subst e11
    exact wpAny_pure (wpAny_pure ⟨rfl,m',hm',again I11 w'⟩)
 exact codeAny_compStart_list (loop _ rfl) (T.self _ _ _ _ _ st4 (loop _ rfl))
end
end L2
set_option maxHeartbeats 4000000
namespace L2
open PySem PySem.Spec PyProof.Rows
namespace Fr
open Builtin.Int (intBits)
theorem turn {a0 b0 a b:Int} (h:Int.gcd a b=Int.gcd a0 b0):Int.gcd b (a.fmod b)=Int.gcd a0 b0:=by
 rw[Int.fmod_def,Int.gcd_sub_mul_left_right,Int.gcd_comm b a]
 exact h
theorem less {a b:Int} (h:b≠0):(a.fmod b).natAbs <b.natAbs:=by
 rcases (by lia:0<b∨b<0) with p|p
 ·have h1:=Int.fmod_nonneg_of_pos a p
  have h2:=Int.fmod_lt_of_pos a p
  lia
 ·have e:a.fmod b= -((-a).fmod (-b)):=by
   rw[Int.fmod_def,Int.fmod_def,Int.neg_fdiv_neg]
   rw[Int.neg_mul]
   lia
  have h1:=Int.fmod_nonneg_of_pos (-a) (show 0< -b by lia)
  have h2:=Int.fmod_lt_of_pos (-a) (show 0< -b by lia)
  lia
theorem y5B {a b a0 b0:Int} (h:Int.gcd a b=Int.gcd a0 b0) (hb:b=0):(if a<0 then -a else a)=(Int.gcd a0 b0:Int):=by
 rw[←h,hb,Int.gcd_zero]
 split<;>lia
end Fr
end L2
namespace L2
open PySem PySem.Spec PyProof.Rows
namespace Wl
open Builtin.Int (intBits)
def z1p (rs:List Int):Nat:=rs.foldl (fun (g:Nat) n=>Int.gcd (g:Int) n) 0
theorem z3O:∀(rs:List Int) (g0:Nat),(((rs.foldl (fun (g:Nat) n=>Int.gcd (g:Int) n) g0:Nat):Int)∣(g0:Int))∧∀n∈rs,((rs.foldl (fun (g:Nat) n=>Int.gcd (g:Int) n) g0:Nat):Int)∣n
 |[],g0=>⟨Int.dvd_refl _,fun n h=>by simp at h⟩
 |m::r,g0=>by
  obtain⟨h1,h2⟩:=z3O r (Int.gcd (g0:Int) m)
  rw[q2b]
  refine⟨Int.dvd_trans h1 (q1O _ _),fun n hn=>?_⟩
  rcases q0t.mp hn with rfl|hn
  ·exact Int.dvd_trans h1 (Int.gcd_dvd_right _ _)
  ·exact h2 n hn
theorem z3N {rs:List Int}{n:Int} (h:n∈rs):(z1p rs:Int)∣n:=(z3O rs 0).2 n h
theorem z2a {rs:List Int} (h:∃n∈rs,n≠0):0<z1p rs:=by
 obtain⟨n,hn,n0⟩:=h
 have d:=z3N hn
 rcases Nat.eq_zero_or_pos (z1p rs) with z|z
 ·rw[z] at d
  exact absurd (Int.zero_dvd.mp d) n0
 ·exact z
theorem z6Z (rs:List Int) (n:Int):z1p (rs++[n])=Int.gcd (z1p rs:Int) n:=by
 unfold z1p
 rw[List.foldl_append];rfl
theorem z9l {d:Int}:∀(rs:List Int) (g0:Nat),d∣(g0:Int)→(∀n∈rs,d∣n)→d∣((rs.foldl (fun (g:Nat) n=>Int.gcd (g:Int) n) g0:Nat):Int)
 |[],g0,h,_=>h
 |m::r,g0,h,hr=>z9l r _ (Int.dvd_coe_gcd h (hr m List.mem_cons_self)) fun n hn=>hr n (List.mem_cons_of_mem _ hn)
theorem y3z {rs:List Int}{d:Int} (h:∀n∈rs,d∣n):d∣(z1p rs:Int):=z9l rs 0 (Int.dvd_zero _) h
def z1a:List Int→Int
 |[]=>0
 |n::r=>if n=0 then z1a r else n
theorem z5Z {rs:List Int} (h:∃n∈rs,n≠0):z1a rs≠0:=by
 induction rs with
 |nil=>obtain⟨n,hn,_⟩:=h;simp at hn
 |cons m r ih=>
  show (if m=0 then z1a r else m)≠0
  by_cases hm:m=0
  ·rw[if_pos hm]
   obtain⟨n,hn,n0⟩:=h
   rcases q0t.mp hn with rfl|hn
   ·exact absurd hm n0
   ·exact ih ⟨n,hn,n0⟩
  ·rw[if_neg hm];exact hm
def byL (rs:List Int):Int:=if z1a rs<0 then -(z1p rs:Int) else (z1p rs:Int)
def z0m (rs:List Int):List Int:=rs.map fun n=>n.fdiv (byL rs)
theorem z2g {rs:List Int} (h:∃n∈rs,n≠0):byL rs≠0:=by
 have:=z2a h
 unfold byL
 split<;>lia
theorem z3x {rs:List Int}{n:Int} (h:n∈rs):byL rs∣n:=by
 unfold byL
 split
 ·exact Int.neg_dvd.mpr (z3N h)
 ·exact z3N h
theorem fdiv_mul {n s:Int} (h:s∣n):n.fdiv s*s=n:=Int.fdiv_mul_cancel h
theorem fdiv_ne {n s:Int} (h:s∣n) (n0:n≠0):n.fdiv s≠0:=fun z=>by
 have:=fdiv_mul h
 rw[z,Int.zero_mul] at this
 exact n0 this.symm
theorem z2b {n s:Int} (h:s∣n) (s0:s≠0):(n.fdiv s).natAbs ≤n.natAbs:=by
 have e:=congrArg Int.natAbs (fdiv_mul h)
 rw[Int.natAbs_mul] at e
 have:0<s.natAbs:=by lia
 rw[←e]
 exact Nat.le_mul_of_pos_right _ this
theorem z9p {rs:List Int}{k:Nat} (h:∃n∈rs,n≠0) (hb:∀n∈rs,intBits n≤k):intBits (byL rs)≤k:=by
 obtain⟨n,hn,n0⟩:=h
 refine intBits_le_of_natAbs (y:=n) ?_ (hb n hn)
 obtain⟨m,e⟩:=z3x hn
 have m0:m≠0:=fun z=>n0 (by rw[e,z,q0W])
 have e':=congrArg Int.natAbs e
 rw[Int.natAbs_mul] at e'
 rw[e']
 exact Nat.le_mul_of_pos_right _ (by lia)
end Wl
end L2
namespace L2
open PySem PySem.Spec PyProof.Rows
namespace Sd
open Builtin.Int (intBits)
open Fr
end Sd
theorem z3P {xs:List V}{v:V}:y2J (xs++[v]) none (some (-1))=xs:=by
 have e:HT.sIx (xs++[v]).length (xs++[v]).length (some (-1))=xs.length:=by
  simp only[HT.sIx,q0l,q0T]
  split<;>lia
 unfold y2J
 rw[HT.sIx_none,e,List.drop_zero,Nat.sub_zero]
 simp
theorem y2w {xs:List V}{v:V}:¬(HT.sIx (xs++[v]).length 0 none=0∧HT.sIx (xs++[v]).length (xs++[v]).length (some (-1))=(xs++[v]).length):=by
 rintro⟨_,h⟩
 have e:HT.sIx (xs++[v]).length (xs++[v]).length (some (-1))=xs.length:=by
  simp only[HT.sIx,q0l,q0T]
  split<;>lia
 rw[e] at h
 simp at h
end L2
set_option maxHeartbeats 1000000
namespace L2
open PySem PySem.Spec PySem.W PyProof.Rows
section
variable {X:Cx}{K:Frag}
open Classical in
theorem z6c {pins:List (Addr×Obj)}{σ:St}{H:Hp}{s:Shared}{A:Around} (I:Inv X pins σ H s) (hu:A.units+9<cLine) {x:V}{v:Value}{e:Dt} (hx:IsD X.K H x e) (rx:RelV x v):∀{xs:List V}{ds:List Dt}{its:List Value},IsDs X.K H xs ds→Vals xs its→(∀d∈ds,Dt.ok 9 d e=true)→
 ∃f:Value→Bool,(∀w∈its,SeqAt.EqAt A s w v (f w))∧its.any f=ds.any fun d=>Dt.eqb d e:=by
 intro xs ds its hd rv ok
 have T:=told I 9 A hu
 have each:∀{xs:List V}{ds:List Dt}{its:List Value},IsDs X.K H xs ds→Vals xs its→(∀d∈ds,Dt.ok 9 d e=true)→(∀w∈its,∃d,(w,d)∈its.zip ds)∧∀w d,(w,d)∈its.zip ds→SeqAt.EqAt A s w v (Dt.eqb d e):=by
  intro xs ds its hd rv ok
  induction its generalizing xs ds with
  |nil=>exact⟨fun w h=>by simp at h,fun w d h=>by simp at h⟩
  |cons u us ih=>
   cases rv with
   |cons r1 r2=>
    cases hd with
    |cons h1 h2=>
     obtain⟨i1,i2⟩:=ih h2 r2 fun d hd=>ok d (q0h _ hd)
     refine⟨fun w hw=>?_,fun w d hw=>?_⟩
     ·rcases q0t.mp hw with rfl|hw
      ·exact⟨_,q0j⟩
      ·obtain⟨d,q⟩:=i1 w hw
       exact⟨d,q0h _ q⟩
     ·rcases q0t.mp hw with z|hw
      ·cases z
       exact T _ _ _ _ _ _ h1 hx r1 rx (ok _ q0j)
      ·exact i2 w d hw
 obtain⟨i1,i2⟩:=each hd rv ok
 have hlen:its.length=ds.length:=by
  have a:=rv.length
  have b:xs.length=ds.length:=by
   clear rv ok i1 i2 a
   induction ds generalizing xs with
   |nil=>cases hd;rfl
   |cons d r ih=>cases hd with|cons h1 h2=>rw[List.length_cons,List.length_cons,ih h2]
  lia
 refine⟨fun w=>decide (∃d,(w,d)∈its.zip ds∧Dt.eqb d e=true),fun w hw=>?_,?_⟩
 ·by_cases h:∃d,(w,d)∈its.zip ds∧Dt.eqb d e=true
  ·obtain⟨d,h1,h2⟩:=h
   have:=i2 w d h1
   rw[h2] at this
   dsimp only
   rw[decide_eq_true (⟨d,h1,h2⟩:∃d,(w,d)∈its.zip ds∧Dt.eqb d e=true)]
   exact this
  ·obtain⟨d,h1⟩:=i1 w hw
   have:=i2 w d h1
   have hf:Dt.eqb d e=false:=by
        cases z:Dt.eqb d e with
        |false=>rfl
        |true=>exact absurd ⟨d,h1,z⟩ h
   rw[hf] at this
   dsimp only
   rw[decide_eq_false h]
   exact this
 ·rw[q1v,q1n,q1n]
  constructor
  ·rintro⟨w,hw,h⟩
   obtain⟨d,h1,h2⟩:=of_decide_eq_true h
   exact⟨d,(q1J h1).2,h2⟩
  ·rintro⟨d,hd',h⟩
   obtain⟨i,hi,e1⟩:=q0C.mp hd'
   have hi2:i<its.length:=by lia
   have hm:(its[i],d)∈its.zip ds:=by
     refine q0C.mpr ⟨i,by rw[q0I];lia,?_⟩
     rw[q2g,e1]
   exact⟨its[i],q0w hi2,decide_eq_true ⟨d,hm,h⟩⟩
def rInD (K:Frag) (neg:Bool):R2:=fun x y H Q=>∃p xs ds e,y= .ref p∧SqA K H p xs∧IsDs K H xs ds∧IsD K H x e∧(∀d∈ds,Dt.ok 9 d e=true)∧Q (.bl (if neg then !(ds.any fun d=>Dt.eqb d e) else ds.any fun d=>Dt.eqb d e)) H
theorem y5d (h:X.K=K) (hu:X.A.units+64<cLine):OpR X (compareOp .In) (rInD K false):=by
 subst h
 intro pins s σ H x y v u Q I rx ry h
 obtain⟨p,xs,ds,e,rfl,hq,hd,hx,ok,q⟩:=h
 cases ry
 rcases hq with hq|hq
 ·obtain⟨its,r,pl,hz⟩:=I.list hq
  obtain⟨f,f1,f2⟩:=z6c (A:=X.A.in1) I (by show X.A.units+1+9<cLine;lia) hx rx hd r ok
  refine SeqAt.in_listAt f pl.isList (fun w hw=>f1 w (by simpa using hw)) ⟨.bl _,H,I,rfl,?_⟩
  rw[show its.toArray.any f=its.any f by simp,f2]
  exact q
 ·obtain⟨its,r,pl,hz⟩:=I.tuple hq
  obtain⟨f,f1,f2⟩:=z6c (A:=X.A.in1) I (by show X.A.units+1+9<cLine;lia) hx rx hd r ok
  refine SeqAt.in_tupleAt f pl (fun w hw=>f1 w (by simpa using hw)) ⟨.bl _,H,I,rfl,?_⟩
  rw[show its.toArray.any f=its.any f by simp,f2]
  exact q
theorem z5e (h:X.K=K) (hu:X.A.units+64<cLine):OpR X (compareOp .NotIn) (rInD K true):=by
 subst h
 intro pins s σ H x y v u Q I rx ry h
 obtain⟨p,xs,ds,e,rfl,hq,hd,hx,ok,q⟩:=h
 cases ry
 rcases hq with hq|hq
 ·obtain⟨its,r,pl,hz⟩:=I.list hq
  obtain⟨f,f1,f2⟩:=z6c (A:=X.A.in1) I (by show X.A.units+1+9<cLine;lia) hx rx hd r ok
  refine SeqAt.notIn_listAt f pl.isList (fun w hw=>f1 w (by simpa using hw)) ⟨.bl _,H,I,rfl,?_⟩
  rw[show its.toArray.any f=its.any f by simp,f2]
  exact q
 ·obtain⟨its,r,pl,hz⟩:=I.tuple hq
  obtain⟨f,f1,f2⟩:=z6c (A:=X.A.in1) I (by show X.A.units+1+9<cLine;lia) hx rx hd r ok
  refine SeqAt.notIn_tupleAt f pl (fun w hw=>f1 w (by simpa using hw)) ⟨.bl _,H,I,rfl,?_⟩
  rw[show its.toArray.any f=its.any f by simp,f2]
  exact q
def y4Q:V→List V→Hp→VK→Prop:=fun x vs H Q=>∃(l:Addr) (xs:List V) (y:V) (k:Int),x= .ref l∧vs=[.int k,y]∧H l=some (.lst xs)∧0≤k∧k≤xs.length∧xs.length<sizeLine∧Q .non (upd H l (.lst (xs.take k.toNat++y::xs.drop k.toNat)))
theorem y1Q (l:Addr) (its:Array Value) (n:Nat) (k:Int) (t:Tok) (u:Value) (hfit:¬(!Builtin.List.listFitsIndex k)=true) (hsz:its.size≤sizeLine):
 Meets (Builtin.«list.insert» ⟨[.ref l,.int k t,u],[]⟩) (fun _ R s=>s.heap.get? l=some {cls:= .type "list",dict:=none,data:= .seq its n,slots:= #[]}∧R (.ok (.ret Value.none)) {s with heap:=s.heap.update l (Obj.mapSeq fun xs=>(xs.extract 0 (if k<0 then (k+(xs.size:Int)).toNat else min k.toNat xs.size)).push u++xs.extract (if k<0 then (k+(xs.size:Int)).toNat else min k.toNat xs.size)),toks:=s.toks}):=
 AutoListH.list_insert_list_int_val_1 l its n k t u hfit hsz
theorem y1u:MtM X "list.insert" y4Q:=by
 intro pins s σ H x vs v us Q I rx rv h
 obtain⟨l,xs,y,k,rfl,rfl,hH,k0,hk,hz,q⟩:=h
 cases rx
 obtain⟨u1,u,rfl,r1,ru⟩:=z7r rv
 obtain⟨t,rfl⟩:=r1
 obtain⟨z,its,n,r,hl,e⟩:=I.lstM hH
 have hs:sizeLine=16777216:=sizeLine_eq
 have hfit:¬(!Builtin.List.listFitsIndex k)=true:=by
  rw[fitsIndex_both (show -(2^63)≤k by lia) (show k<2^63 by lia)]
  exact q0z
 have hsz:its.toArray.size≤sizeLine:=by rw[q0e];lia
 refine call_meets F.slot_list_insert ⟨_,e,rfl⟩ F.entry_list_insert (F.args_list_insert_3 _ _ _) (y1Q l its.toArray n k t u hfit hsz) ⟨e,?_⟩
 have ek:(if k<0 then (k+(its.toArray.size:Int)).toNat else min k.toNat its.toArray.size)=k.toNat:=by
  rw[if_neg (by lia),q0e];lia
 refine⟨.non,_,I.lset (t':=s.toks) (f:=fun xs=>(xs.extract 0 (if k<0 then (k+(xs.size:Int)).toNat else min k.toNat xs.size)).push u++xs.extract (if k<0 then (k+(xs.size:Int)).toNat else min k.toNat xs.size)) (its':=its.take k.toNat++u::its.drop k.toNat) hH e ?_ ((r.take k.toNat).append (.cons ru (r.drop k.toNat))) ?_,rfl,q⟩
 ·rw[ek]
  apply Array.toList_inj.mp
  simp
  exact q1f (by rw[q2f];lia)
 ·rw[q0l,q0u,q0q,q2f];lia
end
end L2
set_option maxHeartbeats 4000000
namespace L2
open PySem PySem.Spec PyProof.Rows
open Builtin.Int (intBits)
def TsA (H:Hp) (as:List Addr) (ts:List (List Int)):Prop:=as.length=ts.length∧∀(i:Nat) (a:Addr) (t:List Int),as[i]? =some a→ts[i]? =some t→H a=some (.tup (t.map V.int))
theorem TsA.same {H H':Hp}{as:List Addr}{ts:List (List Int)} (g:Same H H') (h:TsA H as ts):TsA H' as ts:=⟨h.1,fun i a t e1 e2=>g _ _ (h.2 i a t e1 e2)⟩
theorem TsA.nil {H:Hp}:TsA H [] []:=⟨rfl,fun i a t e=>by simp at e⟩
theorem TsA.snoc {H:Hp}{as:List Addr}{ts:List (List Int)}{r:Addr}{t:List Int} (h:TsA H as ts) (e:H r=some (.tup (t.map V.int))):TsA H (as++[r]) (ts++[t]):=by
 refine⟨by simp[h.1],fun i a p e1 e2=>?_⟩
 by_cases hi:i<as.length
 ·rw[q1e hi] at e1
  rw[q1e (by rw[←h.1];exact hi)] at e2
  exact h.2 i a p e1 e2
 ·rw[q0R (by lia)] at e1
  rw[q0R (by rw[←h.1];lia),←h.1] at e2
  have hz:i - as.length=0:=by
   have:=(q0y.mp e1).1
   simp at this
   lia
  rw[hz] at e1 e2
  cases e1;cases e2
  exact e
def dtT (t:List Int):Dt:= .t (t.map Dt.i)
theorem TsA.isDs {K:PySem.W.Frag}{H:Hp}:∀{as:List Addr}{ts:List (List Int)},TsA H as ts→IsDs K H (as.map V.ref) (ts.map dtT)
 |[],[],_=> .nil
 |a::r,t::q,h=> .cons (.t (SqT.of (h.2 0 a t rfl rfl)) (z3L t)) (TsA.isDs ⟨by simpa using h.1,fun i b u e1 e2=>h.2 (i+1) b u (by simpa using e1) (by simpa using e2)⟩)
 |[],_::_,h=>by have:=h.1;simp at this
 |_::_,[],h=>by have:=h.1;simp at this
theorem y6P (a b:List Int):Dt.eqb (dtT a) (dtT b)=decide (a=b):=z9k a b
theorem ok_t (a b:List Int):Dt.ok 9 (dtT a) (dtT b)=true:=z2Y 8 a b
theorem z9J {ts:List (List Int)}{b:List Int}:∀d∈ts.map dtT,Dt.ok 9 d (dtT b)=true:=fun d hd=>by
 obtain⟨t,_,rfl⟩:=q0f.mp hd
 exact ok_t t b
theorem y5y (ts:List (List Int)) (b:List Int):((ts.map dtT).any fun d=>Dt.eqb d (dtT b))=decide (b∈ts):=by
 rw[q1v,q1n,decide_eq_true_eq]
 constructor
 ·rintro⟨d,hd,h⟩
  obtain⟨t,ht,rfl⟩:=q0f.mp hd
  rw[y6P,decide_eq_true_eq] at h
  rw[←h];exact ht
 ·intro h
  exact⟨dtT b,q0A h,by rw[y6P];simp⟩
theorem z4K {K:PySem.W.Frag}{H:Hp}{a:Addr}{t:List Int} (h:H a=some (.tup (t.map V.int))):IsD K H (.ref a) (dtT t):= .t (SqT.of h) (z3L t)
theorem y3T:∀(ts us:List (List Int)),Dt.oks 8 (ts.map dtT) (us.map dtT)=true
 |[],_=>by simp[Dt.oks]
 |_::_,[]=>by simp[Dt.oks]
 |t::r,u::q=>by
  simp only[q0L,Dt.oks,q1g]
  exact⟨z2Y 7 t u,y3T r q⟩
theorem y4e {K:PySem.W.Frag}{H:Hp}{l:Addr}{as:List Addr}{ts:List (List Int)} (h:H l=some (.lst (as.map V.ref))) (t:TsA H as ts):IsD K H (.ref l) (.l (ts.map dtT)):= .l (SqL.of h) t.isDs
theorem z9n {xs:List V}{hi:Int} (h1:0≤hi) (h2:hi≤xs.length):y2J xs none (some hi)=xs.take hi.toNat:=by
 have e2:HT.sIx xs.length xs.length (some hi)=hi.toNat:=by
  show (if hi<0 then _ else _)=_
  rw[if_neg (by lia)];lia
 unfold y2J
 rw[e2,HT.sIx_none,List.drop_zero,Nat.sub_zero]
namespace Wl
end Wl
end L2
set_option maxHeartbeats 1000000
namespace L2
open PySem PySem.Spec PySem.W PyProof.Rows
section
variable {X:Cx}{K:Frag}
def rCatA (K:Frag):R2:=fun x y H Q=>∃(a b:Addr) (xs ys:List V),x= .ref a∧y= .ref b∧SqT K H a xs∧H b=some (.tup ys)∧ys≠[]∧xs.length+ys.length≤sizeLine∧∀p H',Same H H'→H' p=some (.tup (xs++ys))→Q (.ref p) H'
theorem z8L (h:X.K=K):OpR X (binaryOp .Add) (rCatA K):=by
 subst h
 intro pins s σ H x y v u Q I rx ry h
 obtain⟨a,b,xs,ys,rfl,rfl,ha,hb,hy,hz,q⟩:=h
 by_cases hx:xs=[]
 ·subst hx
  cases rx
  cases ry
  obtain⟨its,r1,p1,_⟩:=I.tuple ha
  obtain⟨its2,r2,p2,_⟩:=I.tuple (SqT.of hb)
  have e1:its=[]:=r1.nil_iff.mpr rfl
  obtain⟨⟨cls,dd,data,sl⟩,ho,hc,n,hd⟩:=id p1
  obtain⟨⟨cls2,dd2,data2,sl2⟩,ho2,hc2,n2,hd2⟩:=id p2
  simp only at hc hd hc2 hd2
  subst hc hd hc2 hd2
  exact concat_meets ⟨_,ho,rfl⟩ ⟨_,ho2,rfl⟩ noFill_tuple_add seq_tuple_add PySem.F.slot_tuple_add PySem.F.entry_tuple_add (PySem.F.args_tuple_add_2 _ _)
   (tuple_addW0 a b its.toArray its2.toArray n n2 dd dd2 sl sl2 (by simp[e1])) ⟨ho,ho2,⟨.ref b,H,I,rfl,q b H (Same.refl _) hb⟩⟩
 ·exact y5f pins s σ H _ _ v u Q I rx ry ⟨a,b,xs,ys,rfl,rfl,ha,SqT.of hb,hx,hz,fun z=>absurd z hy,fun _ p hp=>q p _ (z0e hp _) z0b⟩
end
end L2
namespace L2
namespace Rk
inductive Sm (A:List (Nat→Int)):(Nat→Int)→Prop
 |zero:Sm A (fun _=>0)
 |more (c:Int) {r x:Nat→Int}:r∈A→Sm A x→Sm A (fun j=>c*r j+x j)
theorem Sm.cast {A:List (Nat→Int)}{x y:Nat→Int} (h:Sm A x) (e:∀j,x j=y j):Sm A y:=by
 rw[show y=x from funext fun j=>(e j).symm];exact h
theorem Sm.add {A:List (Nat→Int)}{x y:Nat→Int} (h:Sm A x) (h2:Sm A y):Sm A (fun j=>x j+y j):=by
 induction h with
 |zero=>exact h2.cast fun j=>by simp
 |more c hr _ ih=>exact (Sm.more c hr ih).cast fun j=>by dsimp only;lia
theorem Sm.mul {A:List (Nat→Int)}{x:Nat→Int} (c:Int) (h:Sm A x):Sm A (fun j=>c*x j):=by
 induction h with
 |zero=>exact Sm.zero.cast fun j=>by simp
 |more d hr _ ih=>exact (Sm.more (c*d) hr ih).cast fun j=>by dsimp only;grind
theorem Sm.one {A:List (Nat→Int)}{r:Nat→Int} (h:r∈A):Sm A r:=(Sm.more 1 h Sm.zero).cast fun j=>by simp
def In (A:List (Nat→Int)) (x:Nat→Int):Prop:=∃d:Int,d≠0∧Sm A fun j=>d*x j
theorem In.one {A:List (Nat→Int)}{r:Nat→Int} (h:r∈A):In A r:=⟨1,by decide,(Sm.one h).cast fun j=>by simp⟩
theorem In.of {A:List (Nat→Int)}{x:Nat→Int} (h:Sm A x):In A x:=⟨1,by decide,h.cast fun j=>by simp⟩
theorem In.zero {A:List (Nat→Int)}:In A fun _=>0:=In.of Sm.zero
theorem In.add {A:List (Nat→Int)}{x y:Nat→Int} (h:In A x) (h2:In A y):In A fun j=>x j+y j:=by
 obtain⟨d,d0,hd⟩:=h
 obtain⟨e,e0,he⟩:=h2
 exact⟨d*e,q1m d0 e0,((hd.mul e).add (he.mul d)).cast fun j=>by dsimp only;grind⟩
theorem In.mul {A:List (Nat→Int)}{x:Nat→Int} (c:Int) (h:In A x):In A fun j=>c*x j:=by
 obtain⟨d,d0,hd⟩:=h
 exact⟨d,d0,(hd.mul c).cast fun j=>by dsimp only;grind⟩
theorem In.div {A:List (Nat→Int)}{x:Nat→Int}{c:Int} (c0:c≠0) (h:In A fun j=>c*x j):In A x:=by
 obtain⟨d,d0,hd⟩:=h
 exact⟨d*c,q1m d0 c0,hd.cast fun j=>by dsimp only;grind⟩
theorem In.cast {A:List (Nat→Int)}{x y:Nat→Int} (h:In A x) (e:∀j,x j=y j):In A y:=by
 rw[show y=x from funext fun j=>(e j).symm];exact h
theorem In.sub {A B:List (Nat→Int)} (h:∀r∈A,In B r) {x:Nat→Int} (hx:In A x):In B x:=by
 obtain⟨d,d0,hd⟩:=hx
 have:∀y,Sm A y→In B y:=fun y hy=>by
  induction hy with
  |zero=>exact In.zero
  |more c hr _ ih=>exact ((h _ hr).mul c).add ih
 exact In.div d0 (this _ hd)
theorem In.same {A B:List (Nat→Int)} (h:∀r∈A,In B r) (h2:∀r∈B,In A r):In A=In B:=funext fun _=>propext ⟨In.sub h,In.sub h2⟩
def y4v (m:Nat) (p:(Nat→Int)×Nat):Prop:=p.2<m∧p.1 p.2≠0∧∀j,j<p.2→p.1 j=0
def v (r:List Int):Nat→Int:=fun j=>r.getD j 0
theorem y5G {f:Int→Int→Int} (f0:f 0 0=0):∀(r h:List Int),r.length=h.length→∀j,v (List.zipWith f r h) j=f (v r j) (v h j)
 |[],[],_,j=>by show (0:Int)=f 0 0;rw[f0]
 |x::r,y::h,e,0=>rfl
 |x::r,y::h,e,j+1=>y5G f0 r h (by simpa using e) j
 |[],_::_,e,_=>by simp at e
 |_::_,[],e,_=>by simp at e
end Rk
end L2
namespace L2
namespace Rk
structure Red (m:Nat) (R:List ((Nat→Int)×Nat)):Prop where
 lead:∀p∈R,y4v m p
 up:R.Pairwise fun a b=>a.2<b.2
 off:∀p∈R,∀q∈R,p.2≠q.2→p.1 q.2=0
def z1e {α:Type} (f:α→Int):List α→Int
 |[]=>0
 |a::l=>f a+z1e f l
theorem z1J {α:Type}{f:α→Int}:∀{l:List α},(∀a∈l,f a=0)→z1e f l=0
 |[],_=>rfl
 |a::l,h=>by rw[z1e,h a List.mem_cons_self,z1J fun b hb=>h b (List.mem_cons_of_mem _ hb)];rfl
theorem z3W {α:Type}{f g k:α→Int} (c:Int):∀{l:List α},(∀a∈l,k a=c*f a+g a)→z1e k l=c*z1e f l+z1e g l
 |[],_=>by simp[z1e]
 |a::l,h=>by rw[z1e,z1e,z1e,h a List.mem_cons_self,z3W c fun b hb=>h b (List.mem_cons_of_mem _ hb)];grind
theorem z6s {f:(Nat→Int)×Nat→Int}{q:(Nat→Int)×Nat}:∀{R:List ((Nat→Int)×Nat)},R.Pairwise (fun a b=>a.2<b.2)→q∈R→(∀p∈R,p.2≠q.2→f p=0)→z1e f R=f q
 |[],_,h,_=>by simp at h
 |p::R,hu,hq,hz=>by
  have low:=(q1i.mp hu).1
  rw[z1e]
  rcases q0t.mp hq with rfl|hq2
  ·rw[z1J fun p hp=>hz p (q0h _ hp) (by have:=low p hp;lia)];lia
  ·rw[hz p q0j (by have:=low q hq2;lia),z6s (q1i.mp hu).2 hq2 fun p hp=>hz p (q0h _ hp)];lia
theorem held {m:Nat}{R:List ((Nat→Int)×Nat)} (h:Red m R) {share:Int} (hs:∀p∈R,p.1 p.2∣share) {x:Nat→Int} (hx:In (R.map Prod.fst) x) (j:Nat):
 share*x j=z1e (fun p=>x p.2*(share/p.1 p.2)*p.1 j) R:=by
 obtain⟨d,d0,hd⟩:=hx
 have key:∀z,Sm (R.map Prod.fst) z→share*z j=z1e (fun p=>z p.2*(share/p.1 p.2)*p.1 j) R:=fun z hz=>by
  induction hz with
  |zero=>rw[z1J fun p _=>by simp];simp
  | @more c r x hr _ ih=>
    obtain⟨q,hq,rfl⟩:=q0f.mp hr
    have e1:z1e (fun p=>q.1 p.2*(share/p.1 p.2)*p.1 j) R=share*q.1 j:=by
        rw[z6s h.up hq fun p hp hne=>by rw[h.off q hq p hp (fun z=>hne z.symm)];simp]
        rw[Int.mul_ediv_cancel' (hs q hq)]
    rw[z3W (f:=fun p=>q.1 p.2*(share/p.1 p.2)*p.1 j) (g:=fun p=>x p.2*(share/p.1 p.2)*p.1 j) c fun p _=>by dsimp only;grind,e1,←ih]
    grind
 have k:=key _ hd
 have e:z1e (fun p=>d*x p.2*(share/p.1 p.2)*p.1 j) R=d*z1e (fun p=>x p.2*(share/p.1 p.2)*p.1 j) R+z1e (fun _=>0) R:=z3W d fun p _=>by grind
 rw[e,z1J (f:=fun _=>0) fun _ _=>rfl] at k
 have:d*(share*x j)=d*z1e (fun p=>x p.2*(share/p.1 p.2)*p.1 j) R:=by rw[q1A] at k;rw[←k];grind
 exact q1X d0 this
theorem Red.more {m:Nat}{R R':List ((Nat→Int)×Nat)}{x:Nat→Int}{l:Nat} (k:(Nat→Int)×Nat→Nat→Int) (h:Red m R) (hx:y4v m (x,l)) (hz:∀p∈R,x p.2=0)
 (hk:∀p∈R,∃s own less:Int,s≠0∧own≠0∧own*p.1 l=less*x l∧∀j,s*k p j=own*p.1 j - less*x j)
 (hm:∀q,q∈R'↔q=(x,l)∨∃p∈R,q=(k p,p.2)) (hu:R'.Pairwise fun a b=>a.2<b.2):
 Red m R'∧In (R'.map Prod.fst)=In (x::R.map Prod.fst):=by
 have s0:∀{s a:Int},s≠0→s*a=0→a=0:=fun h1 h2=>(q1z.mp h2).resolve_left h1
 have less0:∀p∈R,∀less own:Int,own*p.1 l=less*x l→l<p.2→less=0:=fun p hp less own e hl=>by
  rw[(h.lead p hp).2.2 l hl,q0W] at e
  exact (q1z.mp e.symm).resolve_right hx.2.1
 have ne:∀p∈R,p.2≠l:=fun p hp e=>hx.2.1 (by show x l=0;rw[←e];exact hz p hp)
 refine⟨⟨fun q hq=>?_,hu,fun a ha b hb hne=>?_⟩,?_⟩
 ·rcases (hm q).mp hq with rfl|⟨p,hp,rfl⟩
  ·exact hx
  ·obtain⟨s,own,less,s1,o1,e1,e2⟩:=hk p hp
   obtain⟨y1,y2,y3⟩:=h.lead p hp
   refine⟨y1,fun z=>?_,fun j hj=>s0 s1 ?_⟩
   ·have:=e2 p.2
    rw[show k p p.2=0 from z,hz p hp,q0W,q0W,Int.sub_zero] at this
    exact y2 (s0 o1 this.symm)
   ·show s*k p j=0
    rw[e2,y3 j hj]
    by_cases hl:l<p.2
    ·rw[less0 p hp less own e1 hl];lia
    ·rw[show x j=0 from hx.2.2 j (by have:=ne p hp;have:j<p.2:=hj;show j<l;lia)];lia
 ·rcases (hm a).mp ha with rfl|⟨p,hp,rfl⟩<;>rcases (hm b).mp hb with rfl|⟨q,hq,rfl⟩
  ·exact absurd rfl hne
  ·exact hz q hq
  ·obtain⟨s,own,less,s1,o1,e1,e2⟩:=hk p hp
   refine s0 s1 ?_
   show s*k p l=0
   rw[e2,e1];lia
  ·obtain⟨s,own,less,s1,o1,e1,e2⟩:=hk p hp
   refine s0 s1 ?_
   show s*k p q.2=0
   rw[e2,h.off p hp q hq hne,hz q hq];lia
 ·have hxm:x∈R'.map Prod.fst:=q0f.mpr ⟨(x,l),(hm _).mpr (.inl rfl),rfl⟩
  refine In.same (fun r hr=>?_) (fun r hr=>?_)
  ·obtain⟨q,hq,rfl⟩:=q0f.mp hr
   rcases (hm q).mp hq with rfl|⟨p,hp,rfl⟩
   ·exact In.one q0j
   ·obtain⟨s,own,less,s1,o1,e1,e2⟩:=hk p hp
    refine In.div s1 ?_
    have a1:In (x::R.map Prod.fst) p.1:=In.one (q0h _ (q0A hp))
    have a2:In (x::R.map Prod.fst) x:=In.one q0j
    exact ((a1.mul own).add (a2.mul (-less))).cast fun j=>by rw[e2];grind
  ·rcases q0t.mp hr with rfl|hr
   ·exact In.one hxm
   ·obtain⟨p,hp,rfl⟩:=q0f.mp hr
    obtain⟨s,own,less,s1,o1,e1,e2⟩:=hk p hp
    refine In.div o1 ?_
    have a1:In (R'.map Prod.fst) (k p):=In.one (q0f.mpr ⟨(k p,p.2),(hm _).mpr (.inr ⟨p,hp,rfl⟩),rfl⟩)
    have a2:In (R'.map Prod.fst) x:=In.one hxm
    exact ((a1.mul s).add (a2.mul less)).cast fun j=>by rw[e2];grind
theorem y0Q {m:Nat}{R:List ((Nat→Int)×Nat)} (h:Red m R) {q:(Nat→Int)×Nat} (hq:q∈R) {x y x0:Nat→Int}{own less c:Int} (o:own≠0) (e:own*x q.2=less*q.1 q.2) (hy:∀j,y j=own*x j - less*q.1 j)
 (hc:c≠0) (hs:Sm (R.map Prod.fst) fun j=>x j - c*x0 j):y q.2=0∧(∀p∈R,x p.2=0→y p.2=0)∧own*c≠0∧Sm (R.map Prod.fst) fun j=>y j - own*c*x0 j:=by
 have y0:y q.2=0:=by rw[hy,e];lia
 refine⟨y0,fun p hp hz=>?_,q1m o hc,?_⟩
 ·by_cases hne:p.2=q.2
  ·rw[hne];exact y0
  ·rw[hy,hz,h.off q hq p hp fun z=>hne z.symm];lia
 ·exact (Sm.more (-less) (q0A hq) (hs.mul own)).cast fun j=>by rw[hy];grind
theorem z6H {A:List (Nat→Int)}{x x0:Nat→Int}{c:Int} (hc:c≠0) (hs:Sm A fun j=>x j - c*x0 j):In (x::A)=In (x0::A):=by
 have up:∀{r:Nat→Int}{z:Nat→Int},Sm A z→In (r::A) z:=fun h=>In.sub (fun r hr=>In.one (q0h _ hr)) (In.of h)
 refine In.same (fun r hr=>?_) (fun r hr=>?_)
 ·rcases q0t.mp hr with rfl|hr
  ·exact ((up hs).add ((In.one q0j).mul c)).cast fun j=>by lia
  ·exact In.one (q0h _ hr)
 ·rcases q0t.mp hr with rfl|hr
  ·refine In.div hc ?_
   exact ((In.one (r:=x) q0j).add ((up hs).mul (-1))).cast fun j=>by grind
  ·exact In.one (q0h _ hr)
theorem In.mono {A B:List (Nat→Int)} (h:∀r∈A,r∈B) {x:Nat→Int} (hx:In A x):In B x:=In.sub (fun r hr=>In.one (h r hr)) hx
theorem y0R {A:List (Nat→Int)}{x x0:Nat→Int}{c:Int} (hc:c≠0) (hs:Sm A fun j=>x j - c*x0 j) (h0:∀j,x j=0):In (x0::A)=In A:=by
 have hx:In A x0:=In.div hc (((In.of hs).mul (-1)).cast fun j=>by rw[h0];grind)
 refine In.same (fun r hr=>?_) (fun r hr=>In.one (q0h _ hr))
 rcases q0t.mp hr with rfl|hr
 ·exact hx
 ·exact In.one hr
end Rk
end L2
namespace L2
open PySem PySem.Spec PyProof.Rows
theorem z9m {prog:Program}{w:World}{A:Around} (hh:A.handled=none) (b:Bool) (it a:Addr) (hne:a≠it) (its:Array Value):
 Draws prog w A it [it,a] its.size (fun i v=>its[i]? =some v) (fun i h=>SIt b h it a i∧SAt b h a its) where
 live:=fun _ _ st=>let ⟨o,_,ho,_⟩:=st.1.ob;⟨o,ho⟩
 frame:=fun _ _ _ st hk=>⟨st.1.keep fun o e=>hk it (by simp) o e,st.2.keep fun o e=>hk a (by simp) o e⟩
 item:=fun i s Q E hi st hQ=>by
  refine z2Z st.1 st.2 (x:=its[i]) (by simp[hi]) fun h' hit' hs'=>?_
  exact hQ _ h' s.toks (by simp[hi]) ⟨hit',st.2.keep fun o e=>hs'.extBut _ o hne e⟩ hs'
 done:=fun s Q E st hE=>z5R hh st.1 st.2 (by simp) hE
abbrev eA (h:Heap) (b:Bool) (a:Addr):Heap:=h.push (itO b a)
abbrev eB (h:Heap) (b:Bool) (a:Addr):Heap:=(eA h b a).push {cls:= .type "enumerate",data:= .fields #[.none,.bool false,.ref h.objs.size,rawInt 0,.none,.none]}
theorem z9T (b:Bool) (l:Addr) (xs:Array Value):
 Meets (Builtin.«enumerate.__new__» ⟨[.type "enumerate",.ref l],[]⟩) (fun _ R s=>SAt b s.heap l xs∧R (.ok (.ret (.ref (eA s.heap b l).objs.size))) {s with heap:=eB s.heap b l}):=
 .of_wp fun prog w A R s h=>by
  obtain⟨hp,g,d,tk,os⟩:=s;obtain⟨h1,h⟩:=h
  have hsub:=sub_enumerate
  have k1:SAt b (Shared.heap ⟨hp,g,d,tk,os⟩) l xs:=h1
  wp_walk
  refine wpAny_stack_any fun st=>wpAny_pure ?_
  split
  ·rename_i c _ _ _ _ _
   cases (c==Value.type "enumerate")
   ·wp_walk using z4s k1
    exact⟨_,rfl,h⟩
   ·wp_walk using z4s k1
    exact⟨_,rfl,h⟩
  ·wp_walk using z4s k1
   exact⟨_,rfl,h⟩
section
variable {prog:Program}{w:World}{A:Around}{E:Value→Shared→Prop}{s:Shared}
theorem y0g {b:Bool}{l:Addr}{xs:Array Value}{Q:Value→Shared→Prop} (hl:SAt b s.heap l xs)
 (h:∀h',IsEnum h' (s.heap.objs.size+1) s.heap.objs.size 0 .none →SIt b h' s.heap.objs.size l 0→(∀p o,s.heap.get? p=some o→h'.get? p=some o)→Q (.ref (s.heap.objs.size+1)) {s with heap:=h'}):
 wpAny (model prog w) A (call (.type "enumerate") [.ref l]) Q E s:=by
 refine callType_new F.called_enumerate (by decide) (F.typeCall_enumerate_1 _) (F.newCall_enumerate_1 _) (fun obj=>F.args_object_init_2 obj _) F.entry_enumerate_new (z9T b l xs) ⟨hl,?_⟩
 have z1:(eA s.heap b l).objs.size =s.heap.objs.size+1:=Heap.size_push ..
 have g2:(eB s.heap b l).get? (eA s.heap b l).objs.size =some _:=q0o _ rfl
 have g1:SIt b (eB s.heap b l) s.heap.objs.size l 0:=SIt.new.keep fun o e=>q0d _ e
 show _∧_
 rw[z1] at g2
 rw[z1]
 exact⟨⟨_,g2,rfl⟩,h _ g2 g1 fun p o e=>q0d _ (q0d _ e)⟩
end
def Iteb (K:PySem.W.Frag) (b:Bool) (a:Addr):It:=
 ⟨fun i H=>∃xs x,SqB b K H a xs∧xs[i]? =some x,
  fun i H x H'=>∃p v,x= .ref p∧H p=none∧(∀xs,SqB b K H a xs→xs[i]? =some v)∧H'=upd H p (.tup [.int i,v]),
  fun i H=>∃xs,SqB b K H a xs∧xs.length=i⟩
theorem z9v {P:Program}{w:World}{K:PySem.W.Frag}{elts:List Expr}{k:Nat}{pos:Pos} (b:Bool) (a e it:Addr) (hne:e≠it):
 y4t P w K (.Tuple elts k pos) (Iteb K b a) [e,it] e (fun i h=>(∃old,IsEnum h e it ((i:Nat):Int) old)∧SIt b h it a i) where
 mem:=by simp
 obj:=fun i h st c hb=>by
  obtain⟨⟨old,st1⟩,st2⟩:=st
  rcases q0t.mp hb with rfl|hb
  ·exact⟨_,st1,fun v z=>by
        have z':Data.fields _=Data.cell v:=z
        cases z'⟩
  ·have e':=q0i.mp hb
   subst e'
   obtain⟨o,_,q,_,_,d⟩:=st2.ob
   exact⟨o,q,fun v z=>by rw[d] at z;cases z⟩
 keep:=fun i h h' st k=>⟨let ⟨old,q⟩:=st.1;⟨old,k e (by simp) _ q⟩,st.2.keep fun o q=>k it (by simp) o q⟩
 item:=by
  intro X hP hw hK hc i pins s σ H E I hf st hg
  subst hP hw hK
  obtain⟨xs,x,hq,hx⟩:=hg
  obtain⟨its,rv,p,hz⟩:=I.sq hq
  obtain⟨u,hu,ru⟩:=rv.get hx
  obtain⟨⟨old,st1⟩,st2⟩:=st
  have he:=hf e (by simp)
  have hi:=hf it (by simp)
  have hlt:e<s.heap.objs.size:=q0n st1
  have hlt2:it<s.heap.objs.size:=by obtain⟨o,_,q,_⟩:=st2.ob;exact q0n q
  have ane:a≠it:=I.sq_ne hq hi
  have aee:a≠e:=I.sq_ne hq he
  have hlt3:i<its.toArray.size:=by
   rw[q0e]
   exact (q0y.mp hu).1
  refine wpAny_pyNext_enum_itemD (z9m (prog:=X.prog) (w:=X.w) (A:=X.A.in1) (I.ok.hd hc) b it a ane its.toArray) st1 ⟨st2,p⟩ hlt3 hne (by simp[hne,Ne.symm aee]) fun x2 h' tk hP ho' st' hT hsz kk=>?_
  have ex:x2=u:=by
   have:its[i]? =some x2:=by simpa using hP
   rw[hu] at this
   exact (Option.some.inj this).symm
  subst ex
  refine⟨_,rfl,wpAny_letOwnedTupleGo_enum ho' fun h2 he2 hs2=>?_⟩
  have hT2:h2.get? s.heap.objs.size=some {cls:= .type "tuple",data:= .seq #[.int i tk,x2]}:=hs2.extBut _ _ (Nat.ne_of_gt hlt) hT
  have I1:Inv X pins σ (upd H s.heap.objs.size (.tup [.int i,x])) {s with heap:=h2,toks:=tk+1}:=by
   refine I.turnedLaid (fp:=[e,it]) hf (fun c ob hb q=>?_) (q0k _) ?_
   ·have hb1:c≠e:=fun z=>hb (by simp[z])
    have hb2:c≠it:=fun z=>hb (by simp[z])
    exact hs2.extBut c ob hb1 (kk c ob hb1 hb2 q)
   ·exact⟨by show 2≤sizeLine;decide,[.int i tk,x2],.cons ⟨_,rfl⟩ (.cons ru .nil),_,hT2,rfl,_,rfl⟩
  refine⟨.ref s.heap.objs.size,_,I1,rfl,⟨_,x,rfl,I.hok.fresh (q0k _),fun ys hy=>by rw[I.sq_inj hy hq];exact hx,rfl⟩,⟨⟨_,by simpa using he2⟩,?_⟩,fun c hb=>?_⟩
  ·exact st'.1.keep fun o q=>hs2.extBut it o (Ne.symm hne) q
  ·rcases q0t.mp hb with rfl|hb
   ·rw[z0i (q0v hlt)];exact he.1
   ·have e':=q0i.mp hb
    subst e'
    rw[z0i (q0v hlt2)];exact hi.1
 done:=by
  intro X hP hw hK hc i pins s σ H E I hf st hg
  subst hP hw hK
  obtain⟨xs,hq,hx⟩:=hg
  obtain⟨its,rv,p,hz⟩:=I.sq hq
  obtain⟨⟨old,st1⟩,st2⟩:=st
  have hl:=rv.length
  have ane:a≠it:=I.sq_ne hq (hf it (by simp))
  have en:i=its.toArray.size:=by rw[q0e];lia
  subst en
  refine wpAny_pyNext_enum_endD (z9m (prog:=X.prog) (w:=X.w) (A:=X.A.in1) (I.ok.hd hc) b it a ane its.toArray) st1 ⟨st2,p⟩ fun h' eb=>⟨rfl,?_⟩
  exact I.turnedAll (t':=s.toks) (fp:=[e,it]) hf fun c ob hb q=>eb c ob (fun z=>hb (by simp[z])) q
 self:=fun _ _ _ _ _ st h=>let ⟨_,q⟩:=st.1;wpAny_pyIter_enum q h
section
variable {X:Cx}{K:PySem.W.Frag}
def y6I (K:PySem.W.Frag) (tl:TA):TI:=fun σ H R=>tl σ H fun vs H1=>∃a b xs,vs=[.ref a]∧SqB b K H1 a xs∧R (Iteb K b a) H1
theorem z5J (h:X.K=K) {elts:List Expr}{k:Nat}{tpos:Pos}{l:Expr}{tl:TA}{p pos:Pos} (hg:Gl X "enumerate") (hm:X.mg "enumerate"=none) (ha:PA X [l] tl) (hs:starEach [l] X.env=[(false,eval l X.env)]:=by rfl):
 PI X (.Tuple elts k tpos) (.Call (.Name "enumerate" p) [l] [] pos) (y6I K tl):=by
 subst h
 intro pins s σ H R I h
 refine Call_ (z3b I hg hm boot_enumerate (PyProof.Rows.callWith_type1 (thn (ha pos pins s σ H _ I h) fun us s1 ⟨vs,H1,I1,r1,q1⟩=>?_) hs rfl))
 obtain⟨a,b,xs,e,hq,q⟩:=q1
 subst e
 cases r1 with
 |cons r rr=>
  cases rr
  cases r
  obtain⟨its,rv,p1,_⟩:=I1.sq hq
  refine y0g p1 fun h' he hit kk=>wpAny_pyIter_enum he ?_
  have I2:Inv X pins σ H1 {s1 with heap:=h'}:=I1.kept (t':=s1.toks) kk
  refine⟨_,[s1.heap.objs.size+1,s1.heap.objs.size],_,_,H1,rfl,I2,z9v b a _ _ (Nat.succ_ne_self _),⟨⟨_,he⟩,hit⟩,fun c hb=>?_,q⟩
  have fr:∀c,s1.heap.objs.size≤c→H1 c=none:=fun c hc=>I1.hok.fresh hc
  rcases q0t.mp hb with rfl|hb
  ·exact I1.fpOk (q1U _) (fr _ (q1U _))
  ·have e':=q0i.mp hb
   subst e'
   exact I1.fpOk (q0k _) (fr _ (q0k _))
theorem z9E (K:PySem.W.Frag) (b:Bool) (a:Addr) (xs:List V):z6m (Iteb K b a) xs.length (fun H=>SqB b K H a xs) (fun i H x H'=>∃p v,x= .ref p∧H p=none∧xs[i]? =some v∧H'=upd H p (.tup [.int i,v])) where
 go:=fun i H h hi=>⟨xs,xs[i],h,by simp[hi]⟩
 stop:=fun H h=>⟨xs,h,rfl⟩
 yld:=fun i H x H' h hi y=>let ⟨p,v,e,hn,hv,e2⟩:=y;⟨p,v,e,hn,hv xs h,e2⟩
end
end L2
namespace L2
open PySem PySem.Spec PyProof.Rows
theorem y4N {α:Type} (L:List α) (a b c d:α):((((L.set 0 a).set 1 b).set 0 c).set 1 d)=(L.set 0 c).set 1 d:=by
 match L with
 |[]=>rfl
 |[_]=>rfl
 |_::_::_=>rfl
theorem z1R {J:It}{n:Nat}{Ok:Hp→Prop}{ps:List (V×V)} (hx:n=ps.length) (R:z6m J n Ok (fun i H x H'=>∃p u v,x= .ref p∧H p=none∧ps[i]? =some (u,v)∧H'=upd H p (.tup [u,v]))) {fr:List (Option Nat)}{g:TG}{tt:TT}{te:TE}{σ:St}{H1:Hp}{Q:VK}{D:Addr} (hD:H1 D=none) (tst:V×V→Bool) (val:V×V→V)
 (hg:∀p u v σ H,H p=some (.tup [u,v])→∀S:St→Hp→Prop,S ((σ.set 0 (some u)).set 1 (some v)) H→g (.ref p) σ H S)
 (hok:∀H,Same H1 H→Ok H) (hn:n≤sizeLine)
 (ht:∀c∈ps,∀Hc,Same H1 Hc→∀S:Bool→Hp→Prop,S (tst c) Hc→tt (((z0C fr σ).set 0 (some c.1)).set 1 (some c.2)) Hc S)
 (hv:∀c∈ps,tst c=true→∀Hc,Same H1 Hc→∀S:VK,S (val c) Hc→te (((z0C fr σ).set 0 (some c.1)).set 1 (some c.2)) Hc S)
 (q:∀H',Same H1 H'→H' D=some (.lst ((ps.filter tst).map val))→Q (.ref D) H'):
 z3C J g tt te Q D (z0C fr σ) (upd H1 D (.lst [])):=by
 subst hx
 refine z4C R (fun i acc σ' H'=>((∃o1 o2,σ'=((z0C fr σ).set 0 o1).set 1 o2)∨σ'=z0C fr σ)∧Same H1 H'∧H' D=some (.lst acc)∧acc=((ps.take i).filter tst).map val) ⟨.inr rfl,z0e hD _,z0b,by simp⟩ ?_ hn ?_ ?_
 ·rintro i acc σ' H' hi ⟨_,hs,_,rfl⟩
  refine⟨hok _ hs,?_⟩
  rw[q0a]
  refine q0m (q1q _ _) ?_
  rw[q0q];lia
 ·rintro N i x acc σ' H' H'' hi ⟨hσ,hs,hd,ha⟩ ⟨p,u,v,rfl,hp,hc,rfl⟩ n1 n2
  have g2:=z0e hp (.tup [u,v])
  have hs2:=hs.trans g2
  have hd2:=g2 _ _ hd
  have e2:upd H' p (.tup [u,v]) p=some (.tup [u,v]):=z0b
  generalize upd H' p (.tup [u,v])=H2 at*
  have hm:(u,v)∈ps:=q0B hc
  have tk:ps.take (i+1)=ps.take i++[(u,v)]:=by rw[q0E,hc];rfl
  have eσ:(σ'.set 0 (some u)).set 1 (some v)=((z0C fr σ).set 0 (some u)).set 1 (some v):=by
   rcases hσ with⟨o1,o2,rfl⟩|rfl
   ·exact y4N _ _ _ _ _
   ·rfl
  refine hg p u v σ' H2 e2 _ ?_
  rw[eσ]
  refine ht (u,v) hm H2 hs2 _ ?_
  cases hb:tst (u,v) with
  |true=>
   refine z5h ?_
   refine hv (u,v) hm hb H2 hs2 _ ?_
   refine n1 _ _ _ hd2 ⟨.inl ⟨_,_,rfl⟩,fun b o e=>?_,z0b,?_⟩
   ·rw[z0i (z0g e hD)];exact hs2 _ _ e
   ·rw[tk,ha,q0U,q0p,q1t hb];rfl
  |false=>
   refine z3t ?_
   refine n2 _ _ ⟨.inl ⟨_,_,rfl⟩,hs2,hd2,?_⟩
   rw[tk,ha,q0U,q0p,q1u (by simp[hb])];simp
 ·rintro acc σ' H' ⟨_,hs,hd,ha⟩
  rw[q0P] at ha
  exact q H' hs (by rw[hd,ha])
def z3v (xs:List V):List (V×V):=xs.mapIdx fun i x=>(.int (i:Nat),x)
theorem z3m (K:PySem.W.Frag) (b:Bool) (a:Addr) (xs:List V):z6m (Iteb K b a) (z3v xs).length (fun H=>SqB b K H a xs) (fun i H x H'=>∃p u v,x= .ref p∧H p=none∧(z3v xs)[i]? =some (u,v)∧H'=upd H p (.tup [u,v])):=by
 have r:=z9E K b a xs
 have el:(z3v xs).length =xs.length:=List.length_mapIdx
 rw[el]
 exact⟨r.go,r.stop,fun i H x H' h hi y=>by
  obtain⟨p,v,e,hn,hv,e2⟩:=r.yld i H x H' h hi y
  exact⟨p,_,v,e,hn,by unfold z3v;rw[List.getElem?_mapIdx,hv];rfl,e2⟩⟩
theorem z1L (K:PySem.W.Frag) (b c:Bool) (l m:Addr) (xs ys:List V):z6m (Itz K b c l m) (xs.zip ys).length (fun H=>SqB b K H l xs∧SqB c K H m ys) (fun i H x H'=>∃p u v,x= .ref p∧H p=none∧(xs.zip ys)[i]? =some (u,v)∧H'=upd H p (.tup [u,v])):=by
 have r:=y2V K b c l m xs ys
 have el:(xs.zip ys).length =min xs.length ys.length:=q0I
 rw[el]
 exact⟨r.go,r.stop,fun i H x H' h hi y=>by
  obtain⟨p,u,v,e,hn,hu,hv,e2⟩:=r.yld i H x H' h hi y
  exact⟨p,u,v,e,hn,by rw[q0G];exact⟨hu,hv⟩,e2⟩⟩
end L2
namespace L2
open PySem PySem.Spec PyProof.Rows
open Builtin.Int (intBits)
namespace Rk
def fp (r:List Int):Nat:=r.findIdx (· != 0)
theorem y2c {r:List Int} (h:∃n∈r,n≠0):fp r<r.length:=by
 unfold fp
 rw[List.findIdx_lt_length]
 obtain⟨n,hn,h0⟩:=h
 exact⟨n,hn,by simpa using h0⟩
theorem z1Q {r:List Int} (h:∃n∈r,n≠0):v r (fp r)≠0:=by
 have hl:=y2c h
 show r.getD (fp r) 0≠0
 rw[q0b,q0c hl,Option.getD_some]
 have:=List.findIdx_getElem (xs:=r) (p:=fun n=>n != 0) (w:=hl)
 intro z
 have z':r[List.findIdx (fun n=>n != 0) r]=0:=z
 rw[z'] at this
 exact absurd this (by decide)
theorem z1k {r:List Int}{j:Nat} (h:j<fp r):v r j=0:=by
 show r.getD j 0=0
 rw[q0b]
 cases e:r[j]? with
 |none=>rfl
 |some n=>
  obtain⟨hl,e2⟩:=q0y.mp e
  have:=List.not_of_lt_findIdx (p:=fun n=>n != 0) (xs:=r) h
  rw[←e2]
  simpa using this
theorem z4w {r:List Int}{l:Nat} (h1:v r l≠0) (h2:∀j,j<l→v r j=0):fp r=l:=by
 have hex:∃n∈r,n≠0:=by
  have hl:l<r.length:=q0H fun hn=>h1 (by
   show r.getD l 0=0
   rw[q0b,q1r (by lia)];rfl)
  refine⟨r[l],q0w hl,fun z=>h1 ?_⟩
  show r.getD l 0=0
  rw[q0b,q0c hl,Option.getD_some,z]
 rcases Nat.lt_trichotomy (fp r) l with h|h|h
 ·exact absurd (h2 _ h) (z1Q hex)
 ·exact h
 ·exact absurd (z1k h) h1
theorem z5k:∀(r:List Int) (k:Nat),(∃n∈r,n≠0)→((((r.map V.int).mapIdx fun i x=>(V.int ((i+k:Nat):Int),x)).filter fun c=>match c.2 with| .int n=> !decide (V.int n=V.int 0)|_=>false).map Prod.fst)[0]? =some (V.int ((fp r+k:Nat):Int))
 |[],_,h=>by obtain⟨n,hn,_⟩:=h;simp at hn
 |m::r,k,h=>by
  rw[q0L,List.mapIdx_cons]
  by_cases hm:m=0
  ·subst hm
   rw[q1u (by simp)]
   have h':∃n∈r,n≠0:=by
        obtain⟨n,hn,h0⟩:=h
        rcases q0t.mp hn with rfl|hn
        ·exact absurd rfl h0
        ·exact⟨n,hn,h0⟩
   have ih:=z5k r (k+1) h'
   have e:fp (0::r)=fp r+1:=by unfold fp;rw[List.findIdx_cons];rfl
   rw[e,show fp r+1+k=fp r+(k+1) by lia]
   rw[show (fun i x=>(fun i x=>(V.int ((i+k:Nat):Int),x)) (i+1) x)=(fun (i:Nat) (x:V)=>(V.int ((i+(k+1):Nat):Int),x)) from by funext i x;show (V.int ((i+1+k:Nat):Int),x)=_;rw[show i+1+k=i+(k+1) by lia]]
   exact ih
  ·rw[q1t (by simp[hm])]
   have e:fp (m::r)=0:=by unfold fp;rw[List.findIdx_cons,show (m != 0)=true from by simpa using hm];rfl
   rw[e];rfl
def z4F (xs rs:List Int):Int:=(v rs (fp rs)).fdiv (Int.gcd (v rs (fp rs)) (v xs (fp rs)))
def z2h (xs rs:List Int):Int:=(v xs (fp rs)).fdiv (Int.gcd (v rs (fp rs)) (v xs (fp rs)))
def z0o (xs rs:List Int):List Int:=List.zipWith (fun one other=>z4F xs rs*one - z2h xs rs*other) xs rs
theorem z9i {a b:Int} (h:a≠0):((Int.gcd a b:Nat):Int)≠0:=fun z=>h (Int.gcd_eq_zero_iff.mp (Int.ofNat_eq_zero.mp z)).1
theorem z6L {xs rs:List Int} (h:∃n∈rs,n≠0):z4F xs rs≠0:=Wl.fdiv_ne (q1O ..) (z1Q h)
theorem z3J {xs rs:List Int} (h:∃n∈rs,n≠0):z4F xs rs*v xs (fp rs)=z2h xs rs*v rs (fp rs):=by
 have g0:=z9i (b:=v xs (fp rs)) (z1Q h)
 have e1:=Wl.fdiv_mul (q1O (a:=v rs (fp rs)) (b:=v xs (fp rs)))
 have e2:=Wl.fdiv_mul (Int.gcd_dvd_right (a:=v rs (fp rs)) (b:=v xs (fp rs)))
 unfold z4F z2h
 generalize ((Int.gcd (v rs (fp rs)) (v xs (fp rs)):Nat):Int)=g at*
 generalize (v rs (fp rs)).fdiv g=o at*
 generalize (v xs (fp rs)).fdiv g=l at*
 rw[←e1,←e2]
 grind
theorem z2o {xs rs:List Int} (hl:xs.length=rs.length) (j:Nat):v (z0o xs rs) j=z4F xs rs*v xs j - z2h xs rs*v rs j:=
 y5G (f:=fun one other=>z4F xs rs*one - z2h xs rs*other) (by simp) xs rs hl j
theorem z1b {xs rs:List Int} (hl:xs.length=rs.length):(z0o xs rs).length =xs.length:=by
 unfold z0o;rw[List.length_zipWith];lia
end Rk
end L2
namespace L2
open PySem PySem.Spec PyProof.Rows
open Builtin.Int (intBits)
namespace Rk
open Wl
theorem z1W {r:List Int} (j:Nat):v (z0m r) j*byL r=v r j:=by
 show (z0m r).getD j 0*byL r=r.getD j 0
 unfold z0m
 rw[q0b,q0b,q0g]
 cases e:r[j]? with
 |none=>simp
 |some n=>
  show n.fdiv (byL r)*byL r=n
  exact fdiv_mul (z3x (q0B e))
theorem plain_len (r:List Int):(z0m r).length =r.length:=by unfold z0m;rw[List.length_map]
theorem z1j {r:List Int} (h:∃n∈r,n≠0) (j:Nat):v (z0m r) j=0↔v r j=0:=by
 constructor
 ·intro z
  rw[←z1W,z];lia
 ·intro z
  have:=z1W (r:=r) j
  rw[z] at this
  exact (q1z.mp this).resolve_right (z2g h)
theorem z5I {r:List Int} (h:∃n∈r,n≠0):∃n∈z0m r,n≠0:=by
 obtain⟨n,hn,h0⟩:=h
 refine⟨n.fdiv (byL r),?_,fdiv_ne (z3x hn) h0⟩
 unfold z0m
 exact q0A hn
theorem z8Z {s:Int}:∀(r:List Int),(∀n∈r,s∣n)→z1a (r.map fun n=>n.fdiv s)=(z1a r).fdiv s
 |[],_=>by show (0:Int)=(0:Int).fdiv s;simp
 |n::r,h=>by
  show (if n.fdiv s=0 then z1a (r.map fun n=>n.fdiv s) else n.fdiv s)=(if n=0 then z1a r else n).fdiv s
  have ih:=z8Z r fun m hm=>h m (q0h _ hm)
  by_cases h0:n=0
  ·subst h0
   rw[if_pos (by simp),if_pos rfl,ih]
  ·rw[if_neg (fdiv_ne (h n q0j) h0),if_neg h0]
theorem z1X {r:List Int} (h:∃n∈r,n≠0):z0m (z0m r)=z0m r:=by
 have b0:=z2g h
 have dv:∀n∈r,byL r∣n:=fun n hn=>z3x hn
 have el:z1a (z0m r)=(z1a r).fdiv (byL r):=z8Z r dv
 have ln:=z5Z h
 have ld:byL r∣z1a r:=by
  have:z1a r∈r∨z1a r=0:=by
   clear h b0 dv el ln
   induction r with
   |nil=>exact .inr rfl
   |cons n r ih=>
    by_cases h0:n=0
    ·have e:z1a (n::r)=z1a r:=if_pos h0
     rw[e]
     rcases ih with ih|ih
     ·exact .inl (q0h _ ih)
     ·exact .inr ih
    ·have e:z1a (n::r)=n:=if_neg h0
     rw[e];exact .inl q0j
  rcases this with h1|h1
  ·exact dv _ h1
  ·exact absurd h1 ln
 have em:=fdiv_mul ld
 have pos:0<z1a (z0m r):=by
  rw[el]
  generalize hq:(z1a r).fdiv (byL r)=q at*
  have hg:0<(z1p r:Int):=by have:=z2a h;lia
  by_cases hn:z1a r<0
  ·have eb:byL r= -(z1p r:Int):=by unfold byL;rw[if_pos hn]
   rw[eb] at em
   refine q0H fun hc=>?_
   have:0≤(-q)*(z1p r:Int):=q1y (by lia) (by lia)
   have e2:q* -(z1p r:Int)=(-q)*(z1p r:Int):=by grind
   lia
  ·have eb:byL r=(z1p r:Int):=by unfold byL;rw[if_neg hn]
   rw[eb] at em
   refine q0H fun hc=>?_
   have:0≤(-q)*(z1p r:Int):=q1y (by lia) (by lia)
   have e2:q*(z1p r:Int)= -((-q)*(z1p r:Int)):=by grind
   lia
 have g1:(z1p (z0m r):Int)∣1:=by
  have hb:∀n∈r,(z1p (z0m r):Int)*byL r∣n:=fun n hn=>by
   have h1:(z1p (z0m r):Int)∣n.fdiv (byL r):=z3N (by unfold z0m;exact List.mem_map_of_mem hn)
   have:=Int.mul_dvd_mul h1 (Int.dvd_refl (byL r))
   rw[fdiv_mul (dv n hn)] at this
   exact this
  have h2:=y3z hb
  have h3:(z1p r:Int)∣byL r:=by
   unfold byL
   split
   ·exact Int.dvd_neg.mpr (Int.dvd_refl _)
   ·exact Int.dvd_refl _
  have h4:=Int.dvd_trans h2 h3
  obtain⟨c,hc⟩:=h4
  refine⟨c,?_⟩
  have:byL r*(z1p (z0m r)*c)=byL r*1:=by rw[Int.mul_one];conv=>rhs;rw[hc]
                                         grind
  exact (q1X b0 this).symm
 have g2:(z1p (z0m r):Int)=1:=by
  have:=Int.eq_one_of_dvd_one (by lia) g1
  exact this
 have eb:byL (z0m r)=1:=by
  unfold byL
  rw[if_neg (by lia),g2]
 have:z0m (z0m r)=(z0m r).map fun n=>n.fdiv 1:=by
  show (z0m r).map (fun n=>n.fdiv (byL (z0m r)))=_
  rw[eb]
 rw[this]
 conv=>rhs;rw[←List.map_id (z0m r)]
 exact q1d fun n _=>by simp
end Rk
end L2
namespace L2
namespace Rk
open Wl
structure Rws (m:Nat) (us:List (List Int)):Prop where
 row:∀t∈us,t.length=m+1∧fp t<m∧z0m t=t
 up:us.Pairwise fun a b=>fp a<fp b
 off:∀s∈us,∀t∈us,fp s≠fp t→v s (fp t)=0
theorem Rws.nil {m:Nat}:Rws m []:=⟨fun t h=>by simp at h,.nil,fun t h=>by simp at h⟩
theorem z1Y {t:List Int}{j:Nat} (h:v t j≠0):∃n∈t,n≠0:=by
 have h':t.getD j 0≠0:=h
 rw[q0b] at h'
 cases e:t[j]? with
 |none=>rw[e] at h';exact absurd rfl h'
 |some n=>rw[e] at h';exact⟨n,List.mem_of_getElem? e,h'⟩
theorem y1s {t:List Int} (h:fp t<t.length):∃n∈t,n≠0:=by
 unfold fp at h
 rw[List.findIdx_lt_length] at h
 obtain⟨n,hn,h0⟩:=h
 exact⟨n,hn,by simpa using h0⟩
theorem z6f {r:List Int} (h:∃n∈r,n≠0):fp (z0m r)=fp r:=
 z4w (fun z=>z1Q h ((z1j h _).mp z)) fun j hj=>(z1j h j).mpr (z1k hj)
theorem Rws.nz {m:Nat}{us:List (List Int)} (h:Rws m us) {t:List Int} (ht:t∈us):∃n∈t,n≠0:=by
 obtain⟨a,b,_⟩:=h.row t ht
 exact y1s (by lia)
theorem Rws.inj {m:Nat}{us:List (List Int)} (h:Rws m us) {s t:List Int} (hs:s∈us) (ht:t∈us) (e:fp s=fp t):s=t:=by
 have hu:=h.up
 clear h
 induction hu with
 |nil=>simp at hs
 |cons h1 _ ih=>
  rcases q0t.mp hs with e1|h2<;>rcases q0t.mp ht with e2|h3
  ·rw[e1,e2]
  ·have:=h1 _ h3;rw[e1] at e;lia
  ·have:=h1 _ h2;rw[e2] at e;lia
  ·exact ih h2 h3
theorem Rws.red {m:Nat}{us:List (List Int)} (h:Rws m us):Red m (us.map fun t=>(v t,fp t)):=by
 refine⟨fun p hp=>?_,?_,fun p hp q hq hne=>?_⟩
 ·obtain⟨t,ht,rfl⟩:=q0f.mp hp
  exact⟨(h.row t ht).2.1,z1Q (h.nz ht),fun j hj=>z1k hj⟩
 ·rw[q0Y];exact h.up
 ·obtain⟨s,hs,rfl⟩:=q0f.mp hp
  obtain⟨t,ht,rfl⟩:=q0f.mp hq
  exact h.off s hs t ht hne
theorem z4v (us:List (List Int)):(us.map fun t=>(v t,fp t)).map Prod.fst=us.map v:=by rw[q0x];rfl
theorem y0S {m:Nat}{us:List (List Int)} (h:Rws m us) {xs:List Int}:∀(todo:List (List Int)) (y:List Int) (c:Int) (seen:List (List Int)),(∀t∈todo,t∈us)→(∀t∈seen,t∈us∧v y (fp t)=0)→y.length=m+1→c≠0→Sm (us.map v) (fun j=>v y j - c*v xs j)→
 (todo.foldl z0o y).length =m+1∧(∀t∈seen++todo,v (todo.foldl z0o y) (fp t)=0)∧∃c',c'≠0∧Sm (us.map v) fun j=>v (todo.foldl z0o y) j - c'*v xs j
 |[],y,c,seen,_,hs,hl,hc,hS=>⟨hl,fun t ht=>(hs t (by simpa using ht)).2,c,hc,hS⟩
 |t::todo,y,c,seen,ht,hs,hl,hc,hS=>by
  have htu:=ht t q0j
  have hlen:y.length=t.length:=by rw[hl,(h.row t htu).1]
  have st:=y0Q (R:=us.map fun t=>(v t,fp t)) h.red (q:=(v t,fp t)) (q0f.mpr ⟨t,htu,rfl⟩) (x:=v y) (y:=v (z0o y t)) (x0:=v xs) (own:=z4F y t) (less:=z2h y t) (c:=c) (z6L (h.nz htu)) (z3J (h.nz htu)) (fun j=>z2o hlen j) hc (by rw[z4v];exact hS)
  rw[z4v] at st
  obtain⟨a1,a2,a3,a4⟩:=st
  have r:=y0S h (xs:=xs) todo (z0o y t) (z4F y t*c) (seen++[t]) (fun s hs'=>ht s (q0h _ hs')) (fun s hs'=>by
   rcases q0D.mp hs' with h1|h1
   ·obtain⟨b1,b2⟩:=hs s h1
    exact⟨b1,a2 (v s,fp s) (q0f.mpr ⟨s,b1,rfl⟩) b2⟩
   ·rw[q0i.mp h1];exact⟨htu,a1⟩) (by rw[z1b hlen,hl]) a3 a4
  rw[q1h,List.singleton_append] at r
  exact r
theorem Rws.rest {m:Nat}{us:List (List Int)} (h:Rws m us) {xs:List Int} (hl:xs.length=m+1):
 (us.foldl z0o xs).length =m+1∧(∀t∈us,v (us.foldl z0o xs) (fp t)=0)∧∃c,c≠0∧Sm (us.map v) fun j=>v (us.foldl z0o xs) j - c*v xs j:=by
 have:=y0S h (xs:=xs) us xs 1 [] (fun t ht=>ht) (fun t ht=>by simp at ht) hl (by decide) (Sm.zero.cast fun j=>by lia)
 simpa using this
def z2z (r:List Int) (t:List Int):List Int:=z0m (z0o t r)
theorem Rws.more {m:Nat}{us us':List (List Int)}{xs:List Int} (h:Rws m us) (hl:xs.length=m+1) (hnz:∃j,j<m∧v (us.foldl z0o xs) j≠0)
 (hp:us'.Perm (us.map (z2z (z0m (us.foldl z0o xs)))++[z0m (us.foldl z0o xs)])) (hs:us'.Pairwise fun a b=>fp a≤fp b):
 Rws m us'∧In (us'.map v)=In (v xs::us.map v)∧us'.length=us.length+1:=by
 obtain⟨r1,r2,c,c0,r3⟩:=h.rest hl
 generalize us.foldl z0o xs=rest at*
 obtain⟨j0,hj0,hj1⟩:=hnz
 have nzr:∃n∈rest,n≠0:=z1Y hj1
 have ha:z0m (z0m rest)=z0m rest:=z1X nzr
 have nza:=z5I nzr
 have la:(z0m rest).length =m+1:=by rw[plain_len,r1]
 have za:∀t∈us,v (z0m rest) (fp t)=0:=fun t ht=>(z1j nzr _).mpr (r2 t ht)
 have fpa:fp (z0m rest)<m:=by
  rw[z6f nzr]
  refine q0H fun hc=>hj1 (z1k ?_)
  lia
 have spn:In (v (z0m rest)::us.map v)=In (v xs::us.map v):=by
  rw[←z6H c0 r3]
  refine In.same (fun r hr=>?_) (fun r hr=>?_)
  ·rcases q0t.mp hr with rfl|hr
   ·refine In.div (z2g nzr) ?_
    exact (In.one (r:=v rest) q0j).cast fun j=>by rw[←z1W (r:=rest) j,Int.mul_comm]
   ·exact In.one (q0h _ hr)
  ·rcases q0t.mp hr with rfl|hr
   ·exact ((In.one (r:=v (z0m rest)) q0j).mul (byL rest)).cast fun j=>by rw[←z1W (r:=rest) j,Int.mul_comm]
   ·exact In.one (q0h _ hr)
 generalize z0m rest=a at*
 have cl:∀t∈us,t.length=a.length:=fun t ht=>by rw[(h.row t ht).1,la]
 have cv:∀t∈us,∀j,v (z0o t a) j=z4F t a*v t j - z2h t a*v a j:=fun t ht j=>z2o (cl t ht) j
 have ne:∀t∈us,fp t≠fp a:=fun t ht e=>z1Q nza (by rw[←e];exact za t ht)
 have l0:∀t∈us,fp a<fp t→z2h t a=0:=fun t ht hlt=>by
  have e:=z3J (xs:=t) nza
  rw[z1k hlt,q0W] at e
  exact (q1z.mp e.symm).resolve_right (z1Q nza)
 have kn0:∀t∈us,v (z0o t a) (fp t)≠0:=fun t ht=>by
  rw[cv t ht,za t ht,q0W,Int.sub_zero]
  exact q1m (z6L nza) (z1Q (h.nz ht))
 have knz:∀t∈us,∃n∈z0o t a,n≠0:=fun t ht=>z1Y (kn0 t ht)
 have kfp0:∀t∈us,fp (z0o t a)=fp t:=fun t ht=>z4w (kn0 t ht) fun j hj=>by
  rw[cv t ht,z1k hj,q0W]
  by_cases hlt:fp a<fp t
  ·rw[l0 t ht hlt];lia
  ·rw[z1k (r:=a) (j:=j) (by have:=ne t ht;lia)];lia
 have kfp:∀t∈us,fp (z2z a t)=fp t:=fun t ht=>by unfold z2z;rw[z6f (knz t ht),kfp0 t ht]
 have mem':∀u,u∈us'↔u=a∨∃t∈us,u=z2z a t:=fun u=>by
  rw[hp.mem_iff,q0D,q0f,q0i]
  constructor
  ·rintro (⟨t,ht,rfl⟩|rfl)
   ·exact .inr ⟨t,ht,rfl⟩
   ·exact .inl rfl
  ·rintro (rfl|⟨t,ht,rfl⟩)
   ·exact .inr rfl
   ·exact .inl ⟨t,ht,rfl⟩
 have nd:(us'.map fp).Nodup :=by
  have e:(us.map (z2z a)++[a]).map fp=us.map fp++[fp a]:=by
   rw[q0p,q0x]
   congr 1
   exact q1d fun t ht=>kfp t ht
  refine ((hp.map fp).nodup_iff).mpr ?_
  rw[e]
  refine q1w.mpr ⟨?_,by simp,fun x hx y hy=>?_⟩
  ·have:(us.map fp).Pairwise (· < ·):=by rw[q0Y];exact h.up
   exact this.imp fun hlt=>by lia
  ·rw[q0i] at hy
   obtain⟨t,ht,rfl⟩:=q0f.mp hx
   rw[hy];exact ne t ht
 have up':us'.Pairwise fun a b=>fp a<fp b:=by
  have nd':us'.Pairwise fun a b=>fp a≠fp b:=by
   have:(us'.map fp).Pairwise (· ≠ ·):=nd
   rw[q0Y] at this
   exact this
  exact hs.imp₂ (fun hle hne=>by lia) nd'
 let k:(Nat→Int)×Nat→Nat→Int:=fun p=>match us.find? fun t=>fp t==p.2 with
  |some t=>v (z2z a t)
  |none=>fun _=>0
 have kk:∀t∈us,k (v t,fp t)=v (z2z a t):=fun t ht=>by
  show (match us.find? fun s=>fp s==fp t with|some s=>v (z2z a s)|none=>fun _=>0)=_
  cases e:us.find? fun s=>fp s==fp t with
  |none=>
   have:=List.find?_eq_none.mp e t ht
   simp at this
  |some s=>
   have h1:=List.mem_of_find?_eq_some e
   have h2:=List.find?_some e
   rw[h.inj h1 ht (by simpa using h2)]
 have rm:=Red.more (R:=us.map fun t=>(v t,fp t)) (R':=us'.map fun t=>(v t,fp t)) (x:=v a) (l:=fp a) k h.red ⟨fpa,z1Q nza,fun j hj=>z1k hj⟩ (fun p hp=>by
  obtain⟨t,ht,rfl⟩:=q0f.mp hp
  exact za t ht) (fun p hp=>by
  obtain⟨t,ht,rfl⟩:=q0f.mp hp
  refine⟨byL (z0o t a),z4F t a,z2h t a,z2g (knz t ht),z6L nza,z3J nza,fun j=>?_⟩
  rw[kk t ht,Int.mul_comm]
  show v (z0m (z0o t a)) j*_=_
  rw[z1W,cv t ht]) (fun q=>by
  rw[q0f]
  constructor
  ·rintro⟨u,hu,rfl⟩
   rcases (mem' u).mp hu with rfl|⟨t,ht,rfl⟩
   ·exact .inl rfl
   ·exact .inr ⟨(v t,fp t),q0f.mpr ⟨t,ht,rfl⟩,by rw[kk t ht,kfp t ht]⟩
  ·rintro (rfl|⟨p,hp,rfl⟩)
   ·exact⟨a,(mem' a).mpr (.inl rfl),rfl⟩
   ·obtain⟨t,ht,rfl⟩:=q0f.mp hp
    exact⟨z2z a t,(mem' _).mpr (.inr ⟨t,ht,rfl⟩),by rw[kk t ht,kfp t ht]⟩) (by rw[q0Y];exact up')
 rw[z4v,z4v] at rm
 refine⟨⟨fun u hu=>?_,up',fun s hs t ht hne=>?_⟩,rm.2.trans spn,?_⟩
 ·rcases (mem' u).mp hu with rfl|⟨t,ht,rfl⟩
  ·exact⟨la,fpa,ha⟩
  ·refine⟨?_,?_,z1X (knz t ht)⟩
   ·unfold z2z;rw[plain_len,z1b (cl t ht),cl t ht,la]
   ·rw[kfp t ht];exact (h.row t ht).2.1
 ·exact rm.1.off (v s,fp s) (q0f.mpr ⟨s,hs,rfl⟩) (v t,fp t) (q0f.mpr ⟨t,ht,rfl⟩) hne
 ·rw[hp.length_eq,q0l,q0a];rfl
theorem Rws.same {m:Nat}{us:List (List Int)}{xs:List Int} (h:Rws m us) (hl:xs.length=m+1) (h0:∀j,v (us.foldl z0o xs) j=0):In (us.map v)=In (v xs::us.map v):=by
 obtain⟨_,_,c,c0,r3⟩:=h.rest hl
 exact (y0R c0 r3 h0).symm
theorem Rws.off_all {m:Nat}{us:List (List Int)}{xs:List Int} (h:Rws m us) (hl:xs.length=m+1):In (v xs::us.map v) (v (us.foldl z0o xs)):=by
 obtain⟨_,_,c,c0,r3⟩:=h.rest hl
 rw[←z6H c0 r3]
 exact In.one q0j
end Rk
end L2
namespace L2
open PySem PySem.Spec PyProof.Rows
inductive Each {α β:Type} (R:α→β→Prop):List α→List β→Prop
 |nil:Each R [] []
 |cons {a:α}{b:β}{as:List α}{bs:List β}:R a b→Each R as bs→Each R (a::as) (b::bs)
theorem Each.snoc {α β:Type}{R:α→β→Prop}{as:List α}{bs:List β}{a:α}{b:β} (h:Each R as bs) (e:R a b):Each R (as++[a]) (bs++[b]):=by
 induction h with
 |nil=>exact .cons e .nil
 |cons h1 _ ih=>exact .cons h1 ih
theorem Each.imp {α β:Type}{R S:α→β→Prop}{as:List α}{bs:List β} (f:∀a b,R a b→S a b) (h:Each R as bs):Each S as bs:=by
 induction h with
 |nil=>exact .nil
 |cons h1 _ ih=>exact .cons (f _ _ h1) ih
theorem Each.length {α β:Type}{R:α→β→Prop}{as:List α}{bs:List β} (h:Each R as bs):as.length=bs.length:=by
 induction h with
 |nil=>rfl
 |cons _ _ ih=>rw[List.length_cons,List.length_cons,ih]
theorem Each.get {α β:Type}{R:α→β→Prop}{as:List α}{bs:List β} (h:Each R as bs):∀{i:Nat}{a:α}{b:β},as[i]? =some a→bs[i]? =some b→R a b:=by
 induction h with
 |nil=>intro i a b e;simp at e
 |cons h1 _ ih=>
  intro i a b e1 e2
  cases i with
  |zero=>cases e1;cases e2;exact h1
  |succ i=>exact ih (by simpa using e1) (by simpa using e2)
theorem z5m {J:It}{n:Nat}{Ok:Hp→Prop}{xs:List V} (hx:n=xs.length) (R:z6m J n Ok (fun i H x H'=>H'=H∧xs[i]? =some x)) {fr:List (Option Nat)}{tt:TT}{te:TE}{σ:St}{H1:Hp}{Q:VK}{D:Addr} (hD:H1 D=none) (tst:V→Bool) (Rel:Hp→V→V→Prop)
 (hrel:∀H H' x u,(∀b o,b≠D→H b=some o→H' b=some o)→(∃acc,H D=some (.lst acc))→Rel H x u→Rel H' x u)
 (hok:∀H,Same H1 H→Ok H) (hn:n≤sizeLine)
 (ht:∀x∈xs,∀Hc,Same H1 Hc→∀S:Bool→Hp→Prop,(∀H',Same Hc H'→S (tst x) H')→tt ((z0C fr σ).set 0 (some x)) Hc S)
 (hv:∀x∈xs,tst x=true→∀Hc,Same H1 Hc→(∃acc,Hc D=some (.lst acc))→∀S:VK,(∀u H',Same Hc H'→Rel H' x u→S u H')→te ((z0C fr σ).set 0 (some x)) Hc S)
 (q:∀us H',Same H1 H'→H' D=some (.lst us)→Each (Rel H') (xs.filter tst) us→Q (.ref D) H'):
 z3C J (z9Y 0) tt te Q D (z0C fr σ) (upd H1 D (.lst [])):=by
 subst hx
 refine z4C R (fun i acc σ' H'=>(∃o,σ'=(z0C fr σ).set 0 o∨σ'=z0C fr σ)∧Same H1 H'∧H' D=some (.lst acc)∧Each (Rel H') ((xs.take i).filter tst) acc) ⟨⟨none,.inr rfl⟩,z0e hD _,z0b,.nil⟩ ?_ hn ?_ ?_
 ·rintro i acc σ' H' hi ⟨_,hs,_,he⟩
  refine⟨hok _ hs,?_⟩
  rw[←he.length]
  refine q0m (q1q _ _) ?_
  rw[q0q];lia
 ·rintro N i x acc σ' H' H'' hi ⟨hσ,hs,hd,he⟩ ⟨rfl,hx⟩ n1 n2
  have hm:x∈xs:=q0B hx
  have es:σ'.set 0 (some x)=(z0C fr σ).set 0 (some x):=by
   obtain⟨o,e|e⟩:=hσ
   ·rw[e,q1Q]
   ·rw[e]
  show tt (σ'.set 0 (some x)) _ _
  rw[es]
  have tk:xs.take (i+1)=xs.take i++[x]:=by rw[q0E,hx];rfl
  refine ht x hm _ hs _ fun H3 g3=>?_
  have hs3:=hs.trans g3
  have hd3:=g3 _ _ hd
  have he3:Each (Rel H3) ((xs.take i).filter tst) acc:=he.imp fun a b h=>hrel _ _ _ _ (fun c o _ e=>g3 _ _ e) ⟨_,hd⟩ h
  cases hb:tst x with
  |true=>
   refine z5h ?_
   refine hv x hm hb _ hs3 ⟨_,hd3⟩ _ fun u H4 g4 hr=>?_
   have hd4:=g4 _ _ hd3
   refine n1 _ _ _ hd4 ⟨⟨_,.inl rfl⟩,fun c o e=>?_,z0b,?_⟩
   ·rw[z0i (z0g e hD)];exact g4 _ _ (hs3 _ _ e)
   ·have up:∀a b,Rel H4 a b→Rel (upd H4 D (.lst (acc++[u]))) a b:=fun a b h=>hrel _ _ _ _ (fun c o hc e=>by rw[z0i hc];exact e) ⟨_,hd4⟩ h
    rw[tk,q0U,q1t hb]
    exact ((he3.imp fun a b h=>up a b (hrel _ _ _ _ (fun c o _ e=>g4 _ _ e) ⟨_,hd3⟩ h)).snoc (up _ _ hr))
  |false=>
   refine z3t ?_
   refine n2 _ _ ⟨⟨_,.inl rfl⟩,hs3,hd3,?_⟩
   rw[tk,q0U,q1u (by simp[hb])]
   simpa using he3
 ·rintro acc σ' H' ⟨_,hs,hd,he⟩
  rw[q0P] at he
  exact q acc H' hs hd he
theorem z7e {J:It}{n:Nat}{Ok:Hp→Prop}{xs:List V} (hx:n=xs.length) (R:z6m J n Ok (fun i H x H'=>H'=H∧xs[i]? =some x)) {fr:List (Option Nat)}{tt:TT}{te:TE}{σ:St}{H1:Hp}{Q:VK}{D:Addr} (hD:H1 D=none) (tst:V→Bool) (Rel:Hp→V→V→Prop)
 (hrel:∀H H' x u,(∀b o,b≠D→H b=some o→H' b=some o)→(∃acc,H D=some (.lst acc))→Rel H x u→Rel H' x u)
 (hok:∀H,Same H1 H→Ok H) (hn:n≤sizeLine)
 (ht:∀x∈xs,∀Hc,Same H1 Hc→∀S:Bool→Hp→Prop,(∀H',Same Hc H'→S (tst x) H')→tt ((z0C fr σ).set 0 (some x)) Hc S)
 (hv:∀x∈xs,tst x=true→∀Hc,Same H1 Hc→∀S:VK,(∀u H',Same Hc H'→Rel H' x u→S u H')→te ((z0C fr σ).set 0 (some x)) Hc S)
 (q:∀us H',Same H1 H'→H' D=some (.lst us)→Each (Rel H') (xs.filter tst) us→Q (.ref D) H'):
 z3C J (z9Y 0) tt te Q D (z0C fr σ) (upd H1 D (.lst [])):=
 z5m hx R hD tst Rel hrel hok hn ht (fun x hx1 ht1 Hc g1 _=>hv x hx1 ht1 Hc g1) q
end L2
namespace L2
open PySem PySem.Spec PyProof.Rows
theorem z4k {α β:Type}{R:α→β→Prop}{l2 l2':List β} (h:l2'.Perm l2):∀{l1:List α},Paired R l1 l2→∃l1',l1'.Perm l1∧Paired R l1' l2':=by
 induction h with
 |nil=>intro l1 p;cases p;exact⟨[],.nil,.nil⟩
 |cons x _ ih=>
  intro l1 p
  cases p with
  |cons r t=>
   obtain⟨l,h1,h2⟩:=ih t
   exact⟨_::l,h1.cons _,.cons r h2⟩
 |swap x y l=>
  intro l1 p
  cases p with
  |cons r t=>
   cases t with
   |cons r2 t=>exact⟨_,.swap ..,.cons r2 (.cons r t)⟩
 |trans _ _ ih1 ih2=>
  intro l1 p
  obtain⟨l,a,b⟩:=ih2 p
  obtain⟨l',c,d⟩:=ih1 b
  exact⟨l',c.trans a,d⟩
abbrev KR (p:Int×V) (q:Int×Value):Prop:=p.1=q.1∧RelV p.2 q.2
theorem y3Z:∀{xs:List V}{us:List Value} (kz:List Int),Vals xs us→Paired KR (kz.zip xs) (kz.zip us)
 |_,_,[],_=>by simp;exact .nil
 |_,_,_::_,.nil =>by simp;exact .nil
 |_,_,k::kz,.cons r t=> .cons ⟨rfl,r⟩ (y3Z kz t)
theorem y4a:∀{qs:List (Int×V)}{ps:List (Int×Value)},Paired KR qs ps→Vals (qs.map Prod.snd) (ps.map Prod.snd)
 |_,_,.nil => .nil
 |_,_,.cons r t=> .cons r.2 (y4a t)
theorem y4b:∀{qs:List (Int×V)}{ps:List (Int×Value)},Paired KR qs ps→qs.map Prod.fst=ps.map Prod.fst
 |_,_,.nil =>rfl
 |_,_,.cons r t=>by rw[List.map_cons,List.map_cons,r.1,y4b t]
def EL (a:Addr) (e1:Nat):HO:= .ext fun h=>h.get? a=some (seqObj "list" #[] e1)
theorem EL.ok {P:Program}{w:World}{H:Hp}{h:Heap}{a:Addr}{e1:Nat} (e:h.get? a=some (seqObj "list" #[] e1)):ObjOk P w H h a (EL a e1):=⟨e,⟨_,e⟩,fun h1 h2 q k=>k _ q⟩
theorem z4t:∀{kz:List Int}{us:List Value},Vals (kz.map V.int) us→IntsAre us kz
 |[],_,.nil => .nil
 |k::kz,_,.cons r t=>by
  obtain⟨tk,rfl⟩:=r
  exact .cons k tk (z4t t)
section
variable {X:Cx}{pins:List (Addr×Obj)}{σ:St}{H:Hp}{s:Shared}{A:Around}{E:Value→Shared→Prop}{kS a:Addr}{e1:Nat}{xs:List V}{us:List Value}{kz:List Int}{W:PySem.Fin→Shared→Prop}
theorem z6A {keys:Array Value}{st:SortSt} (I:Inv X pins σ H s) (hK:H kS=some (.lst (kz.map V.int))) (hA:H a=some (EL a e1)) (hk:IntsAre keys.toList kz) (hlen:kz.length=us.length) (h64:us.length<64) (hV:Vals xs us)
 (hp:(arrOf st).Perm (keys.zip us.toArray)) (hs:SortedTo (arrOf st) (arrOf st).size) (hfl:failedOf st=none)
 (q:∀(qs:List (Int×V)) (s':Shared),Inv X pins σ (upd (upd H kS (.lst [])) a (.lst (qs.map Prod.snd))) s'→qs.Perm (kz.zip xs)→qs.Pairwise (fun x y=>x.1≤y.1)→W (.done (.ret .none)) s'):
 wpAny (model X.prog X.w) A (ksk_tail a false e1 (.ref kS) st) W E s:=by
 obtain⟨z,its,n,r,hl,ek⟩:=I.lstM hK
 have nA:s.heap.get? a=some (seqObj "list" #[] e1):=(I.hok a _ hA).1
 have hka:kS≠a:=fun z=>by rw[z,hA] at hK;cases hK
 have I1:=I.lset (its':=[]) (ys:=[]) (f:=fun _=> #[]) (t':=s.toks) hK ek rfl .nil (q0K _)
 have nA1:(s.heap.update kS (Obj.mapSeq fun _=>(#[]:Array Value))).get? a=some (seqObj "list" #[] e1):=(q0N s.heap _ hka).trans nA
 have hu1:(upd H kS (.lst [])) a=some (EL a e1):=by rw[z0i hka.symm];exact hA
 have hsz:keys.size=us.length:=by
  have:=hk.length
  rw[q0V] at this
  lia
 have hsz2:(arrOf st).size =us.length:=by rw[hp.size_eq,Array.size_zip,hsz,q0e,Nat.min_self]
 obtain⟨ps,hp2,ho,hw⟩:=ksk_out (b:=false) hk hp hs
 obtain⟨qs,hq1,hq2⟩:=z4k hp2 (y3Z kz hV)
 have out:((arrOf st).map (·.2)).toList =ps.map Prod.snd:=ho
 obtain⟨c2,hc2⟩:∃c2,((s.heap.update kS (Obj.mapSeq fun _=>(#[]:Array Value))).update a (Obj.mapSeq fun _=>(arrOf st).map (·.2))).get? a=some (seqObj "list" ((arrOf st).map (·.2)) c2):=⟨_,get?_update_seq nA1 fun _=>(arrOf st).map (·.2)⟩
 have hle:qs.length=us.length:=by
  rw[hq1.length_eq,q0I,hV.length];lia
 unfold ksk_tail
 dsimp only
 refine wpAny_bind (listUpdate_at ek rfl ?_ (by rw[q0e,←hl];exact z) (q0K _))
 refine wpAny_bind (wpAny_letGo ?_)
 refine wpAny_bind (seqEpoch_at nA1 rfl ?_)
 refine wpAny_bind (listUpdate_at nA1 rfl ?_ (q0K _) (q0m (Nat.le_of_eq (by show (Array.map _ (arrOf st)).size =us.length;rw[Array.size_map];exact hsz2)) (by rw[sizeLine_eq];lia)))
 rw[hfl]
 simp only[bne_self_eq_false,q1j,if_false]
 refine wpAny_pure (q qs _ ?_ hq1 ?_)
 ·refine I1.write (x:=a) (e:=a) (t':=s.toks) (by rw[hu1];exact trivial) (.inl rfl) (fun b u hb hu=>(q0N _ _ (Ne.symm hb)).trans hu) ⟨_,hc2⟩ ?_
  refine⟨by rw[q0a,hle,sizeLine_eq];lia,ps.map Prod.snd,c2,y4a hq2,?_⟩
  rw[hc2,←out,Array.toArray_toList]
 ·have e1:=y4b hq2
  have hw':ps.Pairwise fun x y=>x.1≤y.1:=hw
  have w1:(ps.map Prod.fst).Pairwise (· ≤ ·):=by rw[q0Y];exact hw'
  rw[←e1,q0Y] at w1
  exact w1
theorem y2T {keys:Array Value} (I:Inv X pins σ H s) (hK:H kS=some (.lst (kz.map V.int))) (hA:H a=some (EL a e1)) (hk:IntsAre keys.toList kz) (hlen:kz.length=us.length) (h64:us.length<64) (hV:Vals xs us)
 (q:∀(qs:List (Int×V)) (s':Shared),Inv X pins σ (upd (upd H kS (.lst [])) a (.lst (qs.map Prod.snd))) s'→qs.Perm (kz.zip xs)→qs.Pairwise (fun x y=>x.1≤y.1)→W (.done (.ret .none)) s'):
 wpAny (model X.prog X.w) A (ksk_end a false us.toArray e1 (.ref kS) keys) W E s:=by
 have hsz:keys.size=us.length:=by
  have:=hk.length
  rw[q0V] at this
  lia
 have hzs:(keys.zip us.toArray).size =us.length:=by rw[Array.size_zip,hsz,q0e,Nat.min_self]
 unfold ksk_end
 dsimp only
 simp only[q1j,if_false]
 by_cases h2:us.toArray.size<2
 ·rw[if_pos h2,if_pos h2]
  refine wpAny_bind (wpAny_pure ?_)
  rw[StateT.run_pure]
  refine wpAny_bind (wpAny_pure ?_)
  dsimp only
  refine z6A (st:=SortSt.mk' general' (keys.zip us.toArray) #[] 7 none) I hK hA hk hlen h64 hV (Array.Perm.refl _) (fun i j hij hj=>?_) rfl q
  have hj2:j<(keys.zip us.toArray).size :=hj
  rw[hzs] at hj2
  rw[q0e] at h2
  have:i=j:=by lia
  rw[this]
  exact Int.le_refl _
 ·rw[if_neg h2,if_neg h2]
  rw[q0e] at h2
  rw[ksk_kind hk (by rw[hsz];lia)]
  refine wpAny_bind (wpAny_pure ?_)
  refine wpAny_bind (wpAny_mono (wpS_sortRuns (a₀:=keys.zip us.toArray) (st:=SortSt.mk' oneType' (keys.zip us.toArray) #[] 7 none)
   (Q:=fun _ st'=>(arrOf st').Perm (keys.zip us.toArray)∧failedOf st'=none∧SortedTo (arrOf st') (keys.zip us.toArray).size)
   (ksk_intKeys hk) ⟨Array.Perm.refl _,rfl,rfl,rfl⟩ (by rw[hzs];lia) (by rw[hzs];exact h64) fun st' a1 a2 a3=>⟨a1,a2,a3⟩) ?_ fun _ _ e=>e)
  rintro⟨⟨⟩,st'⟩ s' ⟨rfl,hp,hf,hs⟩
  dsimp only
  exact z6A I hK hA hk hlen h64 hV hp (by rw[hp.size_eq];exact hs) hf q
theorem y0E {f:Value} (I:Inv X pins σ H s) (hK:H kS=some (.lst [])) (hA:H a=some (EL a e1)) (hlen:kz.length=us.length) (h64:us.length<64) (hV:Vals xs us)
 (turn:∀(i:Nat) (x:V) (u:Value) (k:Int),xs[i]? =some x→us[i]? =some u→kz[i]? =some k→∀(H1:Hp) (s1:Shared),Inv X pins σ H1 s1→(∀b o,b≠kS→H b=some o→H1 b=some o)→
  wpAny (model X.prog X.w) A (call f [u]) (fun v s2=>∃H2 t,Inv X pins σ H2 s2∧v= .int k t∧Same H1 H2) (fun _ _=>False) s1)
 (q:∀(H1:Hp) (qs:List (Int×V)) (s':Shared),(∀b o,b≠kS→H b=some o→H1 b=some o)→Inv X pins σ (upd (upd H1 kS (.lst [])) a (.lst (qs.map Prod.snd))) s'→qs.Perm (kz.zip xs)→qs.Pairwise (fun x y=>x.1≤y.1)→W (.done (.ret .none)) s'):
 wpAny (model X.prog X.w) A (ksk_rest a f false us.toArray e1 (.ref kS)) W E s:=by
 have hka:a≠kS:=fun z=>by rw[←z,hA] at hK;cases hK
 unfold ksk_rest
 refine wpAny_bind (wpAny_rule ?_)
 first
  |rw[List.forIn_toArray]
  |(rw[←Array.forIn_toList];simp only[List.toList_toArray])
  |rw[←Array.forIn_toList]
 refine wpAny_bind (ksk_fold (fun i s'=>∃H1,Inv X pins σ H1 s'∧(∀b o,b≠kS→H b=some o→H1 b=some o)∧H1 kS=some (.lst ((kz.take i).map V.int))) us 0 s ⟨H,I,fun _ _ _ e=>e,hK⟩ ?step ?done)
 case step=>
  rintro j u s' hu ⟨H1,I1,g1,k1⟩
  simp only[Nat.zero_add] at k1 ⊢
  have hj:j<us.length:=(q0y.mp hu).1
  obtain⟨k,hkj⟩:∃k,kz[j]? =some k:=⟨_,q0c (by lia)⟩
  obtain⟨x,hx⟩:∃x,xs[j]? =some x:=⟨_,q0c (by rw[hV.length];exact hj)⟩
  refine wpAny_bind (wpAny_attempt (wpAny_mono (turn j x u k hx hu hkj H1 s' I1 g1) (fun v s'' he=>?_) fun _ _ hF=>hF.elim))
  obtain⟨H2,t,I2,rfl,g2⟩:=he
  dsimp only
  have k2:=g2 _ _ k1
  obtain⟨z,its,n,r,hl,ek⟩:=I2.lstM k2
  have ek2:kz.take (j+1)=kz.take j++[k]:=by rw[q0E,hkj];rfl
  have hl2:its.length≤us.length:=by rw[←hl,q0a,q0q];lia
  refine wpAny_bind (listUpdate_at ek rfl ?_ (by rw[q0e,sizeLine_eq];lia) (by rw[Array.size_push,q0e,sizeLine_eq];lia))
  refine wpAny_pure ⟨rfl,upd H2 kS (.lst ((kz.take (j+1)).map V.int)),?_,fun b o hb e=>?_,z0b⟩
  ·refine I2.lset (its':=its++[.int k t]) (f:=(·.push (.int k t))) (t':=_) k2 ek (by simp) ?_ ?_
   ·rw[ek2,q0p]
    exact r.append (.cons ⟨t,rfl⟩ .nil)
   ·rw[q0a,q0q,sizeLine_eq];lia
  ·rw[z0i hb];exact g2 _ _ (g1 b o hb e)
 case done=>
  rintro s' ⟨H1,I1,g1,k1⟩
  have e3:kz.take (0+us.length)=kz:=q1f (by lia)
  rw[e3] at k1
  obtain⟨z,its,n,r,hl,ek⟩:=I1.lstM k1
  try dsimp only
  refine wpAny_bind (listItems_at ek rfl ?_)
  exact y2T I1 k1 (g1 _ _ hka hA) (by rw[q1I];exact z4t r) hlen h64 hV fun qs s2 I2 p1 p2=>q H1 qs s2 g1 I2 p1 p2
end
section
variable {X:Cx}{pins:List (Addr×Obj)}{σ:St}{H:Hp}{s:Shared}{k:Nat}{g l:Addr}{gd:FuncData}{ps:List Str}{sp:Sp}{xs:List V}{kz:List Int}
theorem y0N {Q:VK} (Fn:FnOk X.prog X.w X.K X.mg X.base CX0 k g gd ps sp) (hr:Room (k+2) X.A) (hb:Binds X.K gd ps []) (I:Inv X pins σ H s) (hl:H l=some (.lst xs)) (hk:kz.length=xs.length) (h64:xs.length<64)
 (turn:∀(i:Nat) (x:V) (n:Int),xs[i]? =some x→kz[i]? =some n→∀H1,Same H H1→sp [x] H1 (fun v H2=>v= .int n∧Same H1 H2) E0)
 (q:∀(D:Addr) (qs:List (Int×V)) (H':Hp),H D=none→Same H H'→qs.Perm (kz.zip xs)→qs.Pairwise (fun x y=>x.1≤y.1)→H' D=some (.lst (qs.map Prod.snd))→Q (.ref D) H'):
 wpAny (model X.prog X.w) X.A (call (.builtin "sorted") [.ref l] [(Str.ofString "key",.ref g)]) (EP X pins σ Q) X.xe s:=by
 obtain⟨z,us,n,hV,hlen,el⟩:=I.lstM hl
 refine call_function_entry_kw kind_sorted plain_sorted entry_sorted (ksk_s1 _ _) ?_
 unfold Builtin.«sorted»
 refine wpAny_bind (m:=checkCount "sorted" 1 1 _) (wpAny_pure ?_)
 refine wpAny_bind (collect_list (vs:=us) ⟨_,el,rfl,_,rfl⟩ ?_ (by rw[←hlen];exact z))
 refine wpAny_bind (wpAny_newList ?_ (by rw[←hlen];exact z))
 have hsz:((s.heap.push (seqObj "list" #[] 0)).update s.heap.objs.size (Obj.mapSeq (· ++us.toArray))).objs.size =s.heap.objs.size+1:=by
  rw[Heap.size_update,size_push']
 have hoL:(((s.heap.push (seqObj "list" #[] 0)).update s.heap.objs.size (Obj.mapSeq (· ++us.toArray))).push (seqObj "list" us.toArray 0)).get? (s.heap.objs.size+1)=some (seqObj "list" us.toArray 0):=by
  rw[←hsz];exact q0o _ rfl
 have keep:∀b o,s.heap.get? b=some o→(((s.heap.push (seqObj "list" #[] 0)).update s.heap.objs.size (Obj.mapSeq (· ++us.toArray))).push (seqObj "list" us.toArray 0)).get? b=some o:=fun b o e=>by
  have hlt:b<s.heap.objs.size:=q0n e
  rw[Heap.get?_push_ne _ _ _ (by rw[hsz];exact q0v (q1k hlt)),Heap.get?_update_ne _ _ _ _ (q0v hlt),Heap.get?_push_ne _ _ _ (q0v hlt)]
  exact e
 have fr1:H (s.heap.objs.size+1)=none:=I.hok.fresh (q1U _)
 have I1:=I.laid (a:=s.heap.objs.size+1) (o:= .lst xs) (t':=s.toks) keep (q1U _) ⟨z,us,0,hV,hoL⟩
 show wpAny _ _ _ _ _ {s with heap:=((s.heap.push (seqObj "list" #[] 0)).update s.heap.objs.size (Obj.mapSeq (· ++us.toArray))).push (seqObj "list" us.toArray 0)}
 rw[hsz]
 generalize hD:s.heap.objs.size+1=D at*
 generalize hh1:((s.heap.push (seqObj "list" #[] 0)).update s.heap.objs.size (Obj.mapSeq (· ++us.toArray))).push (seqObj "list" us.toArray 0)=h1 at*
 refine wpAny_bind (wpAny_holding (wpAny_call_entry_kw slot_list_sort ⟨_,hoL,rfl⟩ entry_list_sort ?body (ksk_l1 _ _)))
 case body=>
  show wpAny (model X.prog X.w) X.A.in1.in1 (Builtin.«list.sort» ⟨[.ref D],[(Str.ofString "key",.ref g)]⟩) _ _ _
  rw[ksk_t1]
  unfold ksk_tree
  refine wpAny_bind (listItems_at hoL rfl ?_)
  refine wpAny_bind (listUpdate_at hoL rfl ?_ (by rw[q0e,←hlen];exact z) (q0K _))
  obtain⟨e1,ho1⟩:∃e1,(h1.update D (Obj.mapSeq fun _=>(#[]:Array Value))).get? D=some (seqObj "list" #[] e1):=⟨_,get?_update_seq hoL fun _=> #[]⟩
  have I2:=I1.write (x:=D) (e:=D) (o:=EL D e1) (h':=h1.update D (Obj.mapSeq fun _=>(#[]:Array Value))) (t':=s.toks) (by rw[z0b];exact trivial) (.inl rfl) (fun b u hb hu=>(q0N _ _ (Ne.symm hb)).trans hu) ⟨_,ho1⟩ (EL.ok ho1)
  rw[z7s] at I2
  generalize h1.update D (Obj.mapSeq fun _=>(#[]:Array Value))=h2 at*
  refine wpAny_bind (seqEpoch_at ho1 rfl ?_)
  refine wpAny_bind (wpAny_newTuple ?_ (by rw[q1I,←hlen];exact z))
  refine wpAny_bind (wpAny_newList ?_ (q0K _))
  refine wpAny_holding ?_
  have I3:=I2.kept (h':=h2.push (seqObj "tuple" us.toArray 0)) (t':=s.toks) (fun b u e=>q0d _ e)
  have I4:=I3.laid (a:=(h2.push (seqObj "tuple" us.toArray 0)).objs.size) (o:= .lst []) (h':=(h2.push (seqObj "tuple" us.toArray 0)).push (seqObj "list" #[] 0)) (t':=s.toks) (fun b u e=>q0d _ e) (q0k _) ⟨q0K _,[],0,.nil,q0o _ rfl⟩
  have fr2:upd H D (EL D e1) (h2.push (seqObj "tuple" us.toArray 0)).objs.size =none:=I3.hok.fresh (q0k _)
  generalize (h2.push (seqObj "tuple" us.toArray 0)).objs.size =kS at*
  generalize hh4:(h2.push (seqObj "tuple" us.toArray 0)).push (seqObj "list" #[] 0)=h4 at*
  have hDk:D≠kS:=fun e=>by rw[←e,z0b] at fr2;cases fr2
  have hHk:H kS=none:=by rw[z0i hDk.symm] at fr2;exact fr2
  have key:∀H1:Hp,(∀b o,b≠kS→upd (upd H D (EL D e1)) kS (.lst []) b=some o→H1 b=some o)→Same H H1:=fun H1 gg b o e=>gg b o (z0g e hHk) (by rw[z0i (z0g e hHk),z0i (z0g e fr1)];exact e)
  refine y0E (kS:=kS) (a:=D) (e1:=e1) (kz:=kz) (xs:=xs) I4 z0b (by rw[z0i hDk,z0b]) (by rw[hk,hlen]) (by rw[←hlen];exact h64) hV (fun i x u n hx hu hn H1 s1 J1 g1=>?_) fun H1 qs s2 g1 J2 p1 p2=>⟨_,rfl,?_⟩
  ·have hq:=turn i x n hx hn H1 (key H1 g1)
   obtain⟨u',hu',rxu⟩:=hV.get hx
   rw[hu] at hu'
   cases hu'
   have hll:([u]++[]:List Value).length =ps.length:=by
        have:=Fn.len _ _ _ _ hq
        rw[←this];rfl
   have hbb:=hb s1 [u] J1.kIn hll
   rw[q2c] at hbb
   refine wpAny_call (codeAny_mono (Fn.run X.A.in1.in1 X.stack s1 H1 ⟨[u],[]⟩ [u] [x] _ E0 hr.in1.in1 J1.env0.in1.in1 hbb (.cons rxu .nil) hq) fun rr s' hq'=>?_)
   cases rr with
   |error ev=>exact hq'.elim
   |ok fl=>
    cases fl with
    |ret w'=>
     obtain⟨v,H2,J2,rv,ev,g2⟩:=J1.after hq'
     subst ev
     obtain⟨t,rfl⟩:=rv
     exact⟨H2,t,J2,rfl,g2⟩
    |next=>exact False.elim hq'
    |brk=>exact False.elim hq'
    |cont=>exact False.elim hq'
  ·refine wpAny_pure ⟨_,rfl,?_⟩
   refine⟨.ref D,_,J2,rfl,q D qs _ fr1 (fun b o e=>?_) p1 p2 z0b⟩
   rw[z0i (z0g e fr1),z0i (z0g e hHk)]
   exact key H1 g1 b o e
def y3Q (sp:Sp):V→Hp→VK→Prop:=fun x H Q=>∃(l:Addr) (xs:List V) (kz:List Int),x= .ref l∧H l=some (.lst xs)∧kz.length=xs.length∧xs.length<64∧(∀(i:Nat) (x:V) (n:Int),xs[i]? =some x→kz[i]? =some n→∀H1,Same H H1→sp [x] H1 (fun v H2=>v= .int n∧Same H1 H2) E0)∧
 ∀(D:Addr) (qs:List (Int×V)) (H':Hp),H D=none→Same H H'→qs.Perm (kz.zip xs)→qs.Pairwise (fun x y=>x.1≤y.1)→H' D=some (.lst (qs.map Prod.snd))→Q (.ref D) H'
def y5N (sp:Sp) (ta:TE):TE:=fun σ H Q=>ta σ H fun x H1=>y3Q sp x H1 Q
def oneQ (sp:Sp) (Q:VK):List V→Hp→Prop:=fun vs H=>match vs with
 |[x]=>y3Q sp x H Q
 |_=>False
theorem y3g {f:Str}{p p2 kp pos:Pos}{e:Expr}{te:TE} (c:Cal X.prog X.w X.K X.mg X.base k f ps sp) (hr:Room (k+2) X.A) (hg:Gl X "sorted") (hm:X.mg "sorted"=none) (hgf:Gl X f) (ha:PE X e te) (hd:(f==("__debug__":Str))=false:=by decide)
 (he:starEach [e] X.env=(false,eval e X.env)::starEach [] X.env:=by rfl):PE X (.Call (.Name "sorted" p) [e] [⟨some (Str.ofString "key"),.Name f p2,kp⟩] pos) (y5N sp te):=by
 intro pins s σ H Q I h
 obtain⟨g,gd,F,b,kk,m⟩:=c.ex
 refine wpAny_Call_Name_kw (z3b I hg hm boot_sorted ?_)
 refine callWith_kw (thn (z0a ha z0d he pos pins s σ H (oneQ sp Q) I h) fun us s1 ⟨vs,H1,I1,r1,q1⟩=>?_) (by rw[he];rfl) (by rw[he];rfl)
 match vs,q1 with
 |[x],⟨l,xs,kz,e1,e2,e3,e4,e5,e6⟩=>
  subst e1
  have PKf:PK X [⟨some (Str.ofString "key"),.Name f p2,kp⟩] (y2Q (tC (.ref g)) tNil):=y1a (z2K hgf m rfl hd) y3S
  refine thn (PKf pos pins s1 σ H1 (fun zs H2=>zs=[.ref g]∧H2=H1) I1 ⟨rfl,rfl⟩) fun ws s2 ⟨zs,H2,I2,rz,ez,eh⟩=>?_
  subst ez eh
  obtain⟨u,rfl,ru⟩:=r1.one
  obtain⟨w',rfl,rw'⟩:=rz.one
  cases ru
  cases rw'
  exact y0N F hr b I2 e2 e3 e4 e5 e6
end
end L2
namespace L2
open PySem PySem.Spec PyProof.Rows PySem.MeetsSeq
section
variable {X:Cx}{K:PySem.W.Frag}
end
end L2
namespace L2
open PySem PySem.Spec PyProof.Rows
section
variable {X:Cx}{tg iter elt:Expr}{ifs:List Expr}{scope:Scope}{pos:Pos}{cl:List (Str×Addr)}{Nc:List Str}{fr:List (Option Nat)}{wi:TI}{g:TG}{tt:TT}{te:TE}
end
end L2
namespace L2
open PySem PySem.Spec PyProof.Rows
open Builtin.Int (intBits)
def LsA (H:Hp) (as:List Addr) (ts:List (List Int)):Prop:=as.length=ts.length∧∀(i:Nat) (a:Addr) (t:List Int),as[i]? =some a→ts[i]? =some t→H a=some (.lst (t.map V.int))
theorem LsA.same {H H':Hp}{as:List Addr}{ts:List (List Int)} (g:Same H H') (h:LsA H as ts):LsA H' as ts:=⟨h.1,fun i a t e1 e2=>g _ _ (h.2 i a t e1 e2)⟩
theorem y2k {H1 H':Hp}{G F:List V→HO}{g:List Int→List Int} (inj:∀xs ys,G xs=G ys→xs=ys) {as:List Addr}{ts:List (List Int)}{us:List V} (hl:as.length=ts.length) (h:∀(i:Nat) (a:Addr) (t:List Int),as[i]? =some a→ts[i]? =some t→H1 a=some (G (t.map V.int)))
 (e:Each (fun x u=>∃(a:Addr) (t:List Int) (p:Addr),x=V.ref a∧u=V.ref p∧H1 a=some (G (t.map V.int))∧H' p=some (F ((g t).map V.int))) (as.map V.ref) us):
 ∃as':List Addr,us=as'.map V.ref∧as'.length=(ts.map g).length ∧∀(i:Nat) (a:Addr) (t:List Int),as'[i]? =some a→(ts.map g)[i]? =some t→H' a=some (F (t.map V.int)):=by
 induction us generalizing as ts with
 |nil=>
  have:=e.length
  rw[q0a] at this
  have h0:as=[]:=q1b.mp this
  subst h0
  have h1:ts=[]:=q1b.mp (by rw[←hl];rfl)
  subst h1
  exact⟨[],rfl,rfl,fun i a t e=>by simp at e⟩
 |cons u us ih=>
  cases as with
  |nil=>cases e
  |cons a as=>
   cases ts with
   |nil=>simp at hl
   |cons t ts=>
    cases e with
    |cons e1 e2=>
     obtain⟨b,t',p,hb,rfl,h1,h2⟩:=e1
     cases hb
     have ht:=h 0 a t rfl rfl
     rw[ht] at h1
     have et:t=t':=by
      have z:t.map V.int=t'.map V.int:=inj _ _ (Option.some.inj h1)
      exact List.map_inj_right (fun x y h=>by injection h) |>.mp z
     subst et
     obtain⟨as',rfl,hh1,hh2⟩:=ih (by simpa using hl) (fun i b u e1 e2=>h (i+1) b u (by simpa using e1) (by simpa using e2)) e2
     refine⟨p::as',rfl,by simpa using hh1,fun i b u e1 e2=>?_⟩
     cases i with
     |zero=>cases e1;cases e2;exact h2
     |succ i=>exact hh2 i b u (by simpa using e1) (by simpa using e2)
namespace Rk
end Rk
end L2
namespace L2
namespace Rk
open Wl
def z1z (ts:List (List Int)):Int:=ts.foldl (fun s t=>s*v t (fp t)) 1
theorem z5x:∀(ts:List (List Int)) (s:Int),s∣ts.foldl (fun s t=>s*v t (fp t)) s∧∀t∈ts,v t (fp t)∣ts.foldl (fun s t=>s*v t (fp t)) s
 |[],s=>⟨Int.dvd_refl _,fun t h=>by cases h⟩
 |u::ts,s=>by
  obtain⟨h1,h2⟩:=z5x ts (s*v u (fp u))
  refine⟨Int.dvd_trans (Int.dvd_mul_right s _) h1,fun t ht=>?_⟩
  rcases q0t.mp ht with rfl|ht
  ·exact Int.dvd_trans (Int.dvd_mul_left _ _) h1
  ·exact h2 t ht
theorem z6t {α β:Type}{f:β→Int}{g:α→β}:∀l:List α,z1e f (l.map g)=z1e (fun a=>f (g a)) l
 |[]=>rfl
 |a::l=>by rw[List.map_cons,z1e,z1e,z6t l]
theorem v_map {c:Int} (rs:List Int) (j:Nat):v (rs.map fun n=>c*n) j=c*v rs j:=by
 show (rs.map fun n=>c*n).getD j 0=c*rs.getD j 0
 rw[q0b,q0b,q0g]
 cases rs[j]? with
 |none=>simp
 |some n=>rfl
theorem y3Y:∀r:List Int,z1a r=v r (fp r)
 |[]=>rfl
 |n::r=>by
  by_cases h0:n=0
  ·have e:z1a (n::r)=z1a r:=if_pos h0
   have e2:fp (n::r)=fp r+1:=by unfold fp;rw[List.findIdx_cons,h0];rfl
   rw[e,e2,y3Y r];rfl
  ·have e:z1a (n::r)=n:=if_neg h0
   have e2:fp (n::r)=0:=by unfold fp;rw[List.findIdx_cons,show (n != 0)=true from by simpa using h0];rfl
   rw[e,e2];rfl
theorem z6I {r:List Int} (h:∃n∈r,n≠0):0<v (z0m r) (fp r):=by
 have em:=z1W (r:=r) (fp r)
 have n0:=z1Q h
 rw[←y3Y] at n0 em
 generalize hq:v (z0m r) (fp r)=q at*
 have hg:0<(z1p r:Int):=by have:=z2a h;lia
 by_cases hn:z1a r<0
 ·have eb:byL r= -(z1p r:Int):=by unfold byL;rw[if_pos hn]
  rw[eb] at em
  refine q0H fun hc=>?_
  have:0≤(-q)*(z1p r:Int):=q1y (by lia) (by lia)
  have e2:q* -(z1p r:Int)=(-q)*(z1p r:Int):=by grind
  lia
 ·have eb:byL r=(z1p r:Int):=by unfold byL;rw[if_neg hn]
  rw[eb] at em
  refine q0H fun hc=>?_
  have:0≤(-q)*(z1p r:Int):=q1y (by lia) (by lia)
  have e2:q*(z1p r:Int)= -((-q)*(z1p r:Int)):=by grind
  lia
theorem Rws.pos {m:Nat}{us:List (List Int)} (h:Rws m us) {t:List Int} (ht:t∈us):0<v t (fp t):=by
 have:=z6I (h.nz ht)
 rw[(h.row t ht).2.2] at this
 exact this
end Rk
end L2
namespace L2
namespace Dm
open Rk
end Dm
end L2
namespace L2
namespace Pt
open Rk
end Pt
end L2
namespace L2
namespace Rk
open Wl
theorem z8F {m:Nat}{us:List (List Int)} (h:Rws m us):z1z us≠0:=by
 unfold z1z
 have:∀(ts:List (List Int)) (s:Int),s≠0→(∀t∈ts,v t (fp t)≠0)→ts.foldl (fun s t=>s*v t (fp t)) s≠0:=by
  intro ts
  induction ts with
  |nil=>intro s hs _;exact hs
  |cons t ts ih=>intro s hs ht;exact ih _ (Int.mul_ne_zero hs (ht t List.mem_cons_self)) fun u hu=>ht u (List.mem_cons_of_mem _ hu)
 exact this us 1 (by decide) fun t ht=>z1Q (h.nz ht)
theorem Rws.told {m:Nat}{us:List (List Int)} (h:Rws m us) {x:Nat→Int} (hx:In (us.map v) x) (j:Nat):z1z us*x j=z1e (fun t=>x (fp t)*(z1z us/v t (fp t))*v t j) us:=by
 have:=held h.red (share:=z1z us) (fun p hp=>by
  obtain⟨t,ht,rfl⟩:=q0f.mp hp
  exact (z5x us 1).2 t ht) (x:=x) (by rw[z4v];exact hx) j
 rw[z6t] at this
 exact this
theorem z4U {α:Type}{f:α→Int}:∀{l:List α},z1e f l≠0→∃a∈l,f a≠0
 |[],h=>absurd rfl h
 |a::l,h=>by
  by_cases h0:f a=0
  ·rw[z1e,h0,Int.zero_add] at h
   obtain⟨b,hb,hn⟩:=z4U h
   exact⟨b,q0h _ hb,hn⟩
  ·exact⟨a,q0j,h0⟩
theorem Rws.first {m:Nat}{us:List (List Int)} (h:Rws m us) {x:Nat→Int} (hx:In (us.map v) x) {p:Nat} (hp:x p≠0) (h0:∀j,j<p→x j=0):∃t∈us,fp t=p:=by
 have e:=h.told hx p
 have ne:z1e (fun t=>x (fp t)*(z1z us/v t (fp t))*v t p) us≠0:=by
  rw[←e];exact q1m (z8F h) hp
 obtain⟨t,ht,hn⟩:=z4U ne
 refine⟨t,ht,?_⟩
 rcases Nat.lt_trichotomy (fp t) p with hlt|heq|hgt
 ·exact absurd (by rw[h0 _ hlt];simp) hn
 ·exact heq
 ·exact absurd (by rw[z1k hgt];simp) hn
theorem z9g:∀{l1 l2:List Nat},l1.Pairwise (· < ·)→l2.Pairwise (· < ·)→(∀x,x∈l1↔x∈l2)→l1=l2
 |[],[],_,_,_=>rfl
 |[],y::l2,_,_,h=>absurd ((h y).mpr List.mem_cons_self) (by simp)
 |x::l1,[],_,_,h=>absurd ((h x).mp List.mem_cons_self) (by simp)
 |x::l1,y::l2,h1,h2,h=>by
  have a1:=q1i.mp h1
  have a2:=q1i.mp h2
  have exy:x=y:=by
   rcases q0t.mp ((h x).mp q0j) with e|hx
   ·exact e
   ·rcases q0t.mp ((h y).mpr q0j) with e|hy
    ·exact e.symm
    ·have:=a2.1 x hx;have:=a1.1 y hy;lia
  subst exy
  congr 1
  refine z9g a1.2 a2.2 fun z=>?_
  constructor
  ·intro hz
   rcases q0t.mp ((h z).mp (q0h _ hz)) with e|hz'
   ·have:=a1.1 z hz;lia
   ·exact hz'
  ·intro hz
   rcases q0t.mp ((h z).mpr (q0h _ hz)) with e|hz'
   ·have:=a2.1 z hz;lia
   ·exact hz'
theorem y3c {r:List Int} (h:∃n∈r,n≠0) (hp:z0m r=r):byL r=1:=by
 have e:=z1W (r:=r) (fp r)
 rw[hp] at e
 have n0:=z1Q h
 have:v r (fp r)*byL r=v r (fp r)*1:=by rw[Int.mul_one];exact e
 exact q1X n0 this
theorem z6J {r:List Int} (h:∃n∈r,n≠0) (hp:z0m r=r):(z1p r:Int)=1:=by
 have hb:=y3c h hp
 unfold byL at hb
 have hg:=z2a h
 split at hb<;>lia
theorem mem_v {r:List Int}{n:Int} (h:n∈r):∃j,v r j=n:=by
 obtain⟨j,hj,e⟩:=q0C.mp h
 refine⟨j,?_⟩
 show r.getD j 0=n
 rw[q0b,q0c hj,e];rfl
theorem y4E {r s:List Int} (hl:r.length=s.length) (h:∀j,v r j=v s j):r=s:=by
 refine List.ext_getElem hl fun j h1 h2=>?_
 have:=h j
 have e1:v r j=r[j]:=by
  show r.getD j 0=_
  rw[q0b,q0c h1];rfl
 have e2:v s j=s[j]:=by
  show s.getD j 0=_
  rw[q0b,q0c h2];rfl
 rw[←e1,←e2,this]
theorem z8Q {a b:Int} (ha:0<a):∀(r:List Int) (g0:Nat),b∣a*(g0:Int)→(∀n∈r,b∣a*n)→b∣a*((r.foldl (fun (g:Nat) n=>Int.gcd (g:Int) n) g0:Nat):Int)
 |[],g0,h,_=>h
 |n::r,g0,h,hr=>by
  rw[q2b]
  refine z8Q ha r _ ?_ fun m hm=>hr m (q0h _ hm)
  have h1:b∣((Int.gcd (a*(g0:Int)) (a*n):Nat):Int):=Int.dvd_coe_gcd h (hr n q0j)
  rw[Int.gcd_mul_left] at h1
  rw[Int.natCast_mul,Int.natAbs_of_nonneg (by lia)] at h1
  exact h1
theorem y0Z {r s:List Int}{a b:Int} (hl:r.length=s.length) (hr:∃n∈r,n≠0) (hs:∃n∈s,n≠0) (pr:z0m r=r) (ps:z0m s=s) (ha:0<a) (hb:0<b) (h:∀j,a*v r j=b*v s j):r=s:=by
 have g1:=z6J hr pr
 have g2:=z6J hs ps
 have d:∀{r s:List Int}{a b:Int},0<a→(z1p r:Int)=1→(∀j,a*v r j=b*v s j)→b∣a:=fun {r s a b} a0 g h=>by
  have:=z8Q a0 r 0 (by simp) fun n hn=>by
   obtain⟨j,rfl⟩:=mem_v hn
   exact⟨v s j,h j⟩
  have e:((r.foldl (fun (g:Nat) n=>Int.gcd (g:Int) n) 0:Nat):Int)=1:=g
  rw[e,Int.mul_one] at this
  exact this
 have d1:=d ha g1 h
 have d2:=d hb g2 fun j=>(h j).symm
 have e:a=b:=Int.dvd_antisymm (by lia) (by lia) d2 d1
 subst e
 exact y4E hl fun j=>q1X (by lia) (h j)
theorem z4p {m:Nat}{us ws:List (List Int)} (h:Rws m us) (h2:Rws m ws) (e:In (us.map v)=In (ws.map v)) {t:List Int} (ht:t∈us):∃u∈ws,fp u=fp t:=
 h2.first (x:=v t) (by rw[←e];exact In.one (q0A ht)) (z1Q (h.nz ht)) fun j hj=>z1k hj
theorem Rws.one {m:Nat}{us ws:List (List Int)} (h:Rws m us) (h2:Rws m ws) (e:In (us.map v)=In (ws.map v)):us=ws:=by
 have ef:us.map fp=ws.map fp:=by
  refine z9g (by rw[q0Y];exact h.up) (by rw[q0Y];exact h2.up) fun x=>?_
  constructor
  ·intro hx
   obtain⟨t,ht,rfl⟩:=q0f.mp hx
   obtain⟨u,hu,eu⟩:=z4p h h2 e ht
   exact q0f.mpr ⟨u,hu,eu⟩
  ·intro hx
   obtain⟨t,ht,rfl⟩:=q0f.mp hx
   obtain⟨u,hu,eu⟩:=z4p h2 h e.symm ht
   exact q0f.mpr ⟨u,hu,eu⟩
 have same:∀t∈us,∀u∈ws,fp u=fp t→t=u:=fun t ht u hu etu=>by
  have hin:In (ws.map v) (v t):=by rw[←e];exact In.one (q0A ht)
  have tv:∀j,z1z ws*v t j=v t (fp u)*(z1z ws/v u (fp u))*v u j:=fun j=>by
   rw[h2.told hin j]
   have key:∀(l:List (List Int)),(∀w∈l,w∈ws)→l.Pairwise (fun a b=>fp a<fp b)→u∈l→z1e (fun w=>v t (fp w)*(z1z ws/v w (fp w))*v w j) l=v t (fp u)*(z1z ws/v u (fp u))*v u j:=by
        have zero:∀w∈ws,fp w≠fp u→v t (fp w)=0:=fun w hw hne=>by
         obtain⟨t',ht',e'⟩:=z4p h2 h e.symm hw
         rw[←e']
         exact h.off t ht t' ht' (by rw[e',←etu];exact fun z=>hne z.symm)
        intro l
        induction l with
        |nil=>intro _ _ hm;cases hm
        |cons w l ih=>
         intro hs hp hm
         have lo:=q1i.mp hp
         rw[z1e]
         rcases q0t.mp hm with rfl|hm
         ·rw[z1J fun w' hw'=>by rw[zero w' (hs w' (q0h _ hw')) (by have:=lo.1 w' hw';lia)];simp]
          lia
         ·rw[ih (fun w' hw'=>hs w' (q0h _ hw')) lo.2 hm,zero w (hs w q0j) (by have:=lo.1 u hm;lia)]
          simp
   exact key ws (fun w hw=>hw) h2.up hu
  have pu:=h2.pos hu
  have pt:=h.pos ht
  rw[←etu] at pt
  have prop:∀j,v u (fp u)*v t j=v t (fp u)*v u j:=fun j=>by
   have e1:=tv j
   have hd:v u (fp u)∣z1z ws:=(z5x ws 1).2 u hu
   have e2:v u (fp u)*(z1z ws/v u (fp u))=z1z ws:=Int.mul_ediv_cancel' hd
   have q0:z1z ws/v u (fp u)≠0:=fun z=>by rw[z,q0W] at e2;exact z8F h2 e2.symm
   rw[←e2] at e1
   refine q1X q0 ?_
   rw[Int.mul_ediv_cancel_left _ (by lia)] at e1
   grind
  exact y0Z (by rw[(h.row t ht).1,(h2.row u hu).1]) (h.nz ht) (h2.nz hu) (h.row t ht).2.2 (h2.row u hu).2.2 pu pt prop
 have hlen:us.length=ws.length:=by have:=congrArg List.length ef;simpa using this
 refine List.ext_getElem hlen fun i h1 h3=>same _ (q0w h1) _ (q0w h3) ?_
 have:(us.map fp)[i]? =(ws.map fp)[i]? :=by rw[ef]
 rw[q0g,q0g,q0c h1,q0c h3] at this
 exact (Option.some.inj this).symm
theorem In.lin {A:List (Nat→Int)}{F:(Nat→Int)→Int} (hadd:∀c x y,F (fun j=>c*x j+y j)=c*F x+F y) (h:∀r∈A,F r=0) {x:Nat→Int} (hx:In A x):F x=0:=by
 obtain⟨d,d0,hd⟩:=hx
 have f0:F (fun _=>0)=0:=by
  have:=hadd 1 (fun _=>0) (fun _=>0)
  have e:(fun j:Nat=>(1:Int)*(fun _=>(0:Int)) j+(fun _=>(0:Int)) j)=fun _=>0:=by funext j;simp
  rw[e] at this
  lia
 have key:∀z,Sm A z→F z=0:=fun z hz=>by
  induction hz with
  |zero=>exact f0
  |more c hr _ ih=>rw[hadd,h _ hr,ih];simp
 have k:=key _ hd
 have e:(fun j=>d*x j)=fun j=>d*x j+(fun _=>(0:Int)) j:=by funext j;simp
 rw[e,hadd,f0,q1A] at k
 exact (q1z.mp k).resolve_left d0
end Rk
end L2
namespace L2
open PySem PySem.Spec PyProof.Rows
section
variable {X:Cx}{K:PySem.W.Frag}
def cSum (K:PySem.W.Frag):List V→Hp→VK→Prop:=fun xs H Q=>∃(p:Addr) (ns:List Int),xs=[.ref p]∧SqL K H p (ns.map V.int)∧Q (.int ns.sum) H
theorem y2y (hK:X.K=K) (hc:X.calm=true):z1x X (.builtin "sum") (cSum K):=by
 subst hK
 intro pins s σ H xs us Q I r h
 obtain⟨p,ns,rfl,hq,q⟩:=h
 obtain⟨u,rfl,rx⟩:=r.one
 cases rx
 obtain⟨its,r',pl,hz⟩:=I.list hq
 have hi:=z4t r'
 have hl:=pl.isList
 have hn:numsOf its.toArray.toList=ns:=by rw[show its.toArray.toList=its from rfl,hi.numsOf]
 obtain⟨zs,e⟩:=hi.allInts.items
 rw[e] at hl hn
 rw[nums_intItems] at hn
 refine sum_intListG (I.ok.hd hc) hl fun h' tk t' hk=>?_
 refine⟨.int ns.sum,H,I.kept (t':=tk) hk,⟨t',?_⟩,q⟩
 rw[preSum_eq,q1f (by simp)]
 rw[←hn]
end
end L2
namespace L2
open PySem PySem.Spec PyProof.Rows
open Builtin.Int (intBits)
namespace Rk
open Wl
theorem y0h {rs:List Int}{k:Nat} (h:∃n∈rs,n≠0) (hb:∀n∈rs,intBits n≤k):∀n∈z0m rs,intBits n≤k:=fun n hn=>by
 unfold z0m at hn
 obtain⟨x,hx,rfl⟩:=q0f.mp hn
 exact intBits_le_of_natAbs (z2b (z3x hx) (z2g h)) (hb x hx)
end Rk
end L2
namespace L2
open PySem PySem.Spec PyProof.Rows
open Builtin.Int (intBits)
namespace Rk
open Wl
def dd (acc l:List (List Int)):List (List Int):=l.foldl (fun acc t=>if t∈acc then acc else acc++[t]) acc
theorem y4m (acc:List (List Int)):dd acc []=acc:=rfl
theorem y5x (acc l:List (List Int)) (t:List Int):dd acc (l++[t])=if t∈dd acc l then dd acc l else dd acc l++[t]:=by
 unfold dd
 rw[List.foldl_append];rfl
theorem y4n {x:List Int}:∀(l acc:List (List Int)),x∈dd acc l↔x∈acc∨x∈l
 |[],acc=>by simp[y4m]
 |t::l,acc=>by
  have:dd acc (t::l)=dd (if t∈acc then acc else acc++[t]) l:=rfl
  rw[this,y4n l]
  by_cases ht:t∈acc
  ·rw[if_pos ht,q0t]
   constructor
   ·rintro (h|h)
    ·exact .inl h
    ·exact .inr (.inr h)
   ·rintro (h|rfl|h)
    ·exact .inl h
    ·exact .inl ht
    ·exact .inr h
  ·rw[if_neg ht,q0D,q0i,q0t]
   grind
theorem y4o:∀(l acc:List (List Int)),(dd acc l).length ≤acc.length+l.length
 |[],acc=>by rw[y4m];simp
 |t::l,acc=>by
  have:dd acc (t::l)=dd (if t∈acc then acc else acc++[t]) l:=rfl
  rw[this]
  have:=y4o l (if t∈acc then acc else acc++[t])
  rw[q0u]
  split at this
  ·rw[if_pos (by assumption)];lia
  ·rw[if_neg (by assumption)];rw[q0l,q0T] at this;lia
end Rk
end L2
namespace L2
namespace Dm
open Rk Wl
end Dm
end L2
namespace L2
namespace Pt
open Rk Wl
end Pt
end L2
namespace L2
namespace Pt
open Rk Wl Dm
end Pt
end L2
set_option maxHeartbeats 4000000
namespace L2
namespace Pt
open Rk Wl Dm
def skp (pl c:Nat):Nat:=if c<pl then c else c+1
end Pt
end L2
namespace L2
namespace Pt
open Rk Wl Dm
end Pt
end L2
namespace L2
namespace Pt
open Rk Wl Dm
def z3c (pl:Nat) (z:Int) (y:List Int):List Int:=y.take pl++z::y.drop pl
def drR (t u:List Int):List Int:=(z0o u t).eraseIdx (fp t)
def wd (F:List Int→Option (List Int)) (ts:List (List Int)):List (List Int):=dd [] (ts.filterMap F)
theorem z3T (l:List Int) (pl c:Nat):v (l.eraseIdx pl) c=v l (skp pl c):=by
 show (l.eraseIdx pl).getD c 0=l.getD (skp pl c) 0
 rw[q0b,q0b,List.getElem?_eraseIdx]
 unfold skp
 split<;>rfl
theorem y5w {t u:List Int} (hl:u.length=t.length) (hn:∃n∈t,n≠0):(drR t u).length +1=t.length:=by
 unfold drR
 have:=y2c hn
 rw[List.length_eraseIdx,if_pos (by rw[z1b hl];lia),z1b hl]
 lia
end Pt
end L2
namespace L2
namespace Pt
open Rk Wl Dm
structure WL (m:Nat) (t:List Int):Prop where
 len:t.length=m+1
 pl:z0m t=t
 way:∃j,j<m∧v t j≠0
theorem v_mem {t:List Int}{j:Nat} (h:v t j≠0):j<t.length∧v t j∈t:=by
 have h':t.getD j 0≠0:=h
 rw[q0b] at h'
 cases e:t[j]? with
 |none=>rw[e] at h';exact absurd rfl h'
 |some n=>
  have hv:v t j=n:=by show t.getD j 0=n;rw[q0b,e];rfl
  exact⟨(q0y.mp e).1,by rw[hv];exact q0B e⟩
theorem z3w {m:Nat}{l:List Int} (hl:l.length=m+1):l.dropLast.any (· != 0)=true↔∃j,j<m∧v l j≠0:=by
 rw[q1n]
 have hg:∀j,j<m→l.dropLast[j]? =l[j]? :=fun j hj=>by rw[List.getElem?_dropLast,if_pos (by lia)]
 constructor
 ·rintro⟨n,hn,h0⟩
  obtain⟨j,hj⟩:=q1R.mp hn
  have hjm:j<m:=by
   have:=(q0y.mp hj).1
   rw[List.length_dropLast] at this;lia
  rw[hg j hjm] at hj
  refine⟨j,hjm,?_⟩
  show l.getD j 0≠0
  rw[q0b,hj]
  simpa using h0
 ·rintro⟨j,hj,h0⟩
  have h1:=(v_mem h0).1
  have e:l[j]? =some (v l j):=by
   rw[q0c h1]
   show _=some (l.getD j 0)
   rw[q0b,q0c h1];rfl
  exact⟨v l j,q0B (by rw[hg j hj];exact e),by simpa using h0⟩
end Pt
end L2
namespace L2
namespace Pt
open Rk Wl Dm
theorem z8p (F:List Int→Option (List Int)) (ts:List (List Int)):(wd F ts).length ≤ts.length:=by
 unfold wd
 have:=y4o (ts.filterMap F) []
 have:=List.length_filterMap_le F ts
 simp at*
 lia
end Pt
end L2
set_option maxHeartbeats 1000000
namespace L2
open Fr Wl Pt
namespace Rk
def y2I (m:Nat) (L:List (List Int)):Prop:=∃z,In (L.map v) z∧(∀j,j<m→z j=0)∧z m≠0
def lf (pl:Nat) (y:List Int):List Int:=z3c pl 0 y
theorem y4D {pl:Nat}{y:List Int} (h:pl≤y.length):v (lf pl y) pl=0:=by
 show (z3c pl 0 y).getD pl 0=0
 unfold z3c
 rw[q0b,q0R (by rw[q0q];lia),q0q,Nat.min_eq_left h,Nat.sub_self];rfl
theorem y4B {pl j:Nat}{y:List Int} (h:pl≤y.length) (hj:j<pl):v (lf pl y) j=v y j:=by
 show (z3c pl 0 y).getD j 0=y.getD j 0
 unfold z3c
 rw[q0b,q0b,q1e (by rw[q0q];lia),List.getElem?_take,if_pos hj]
theorem y4C {pl j:Nat}{y:List Int} (h:pl≤y.length) (hj:pl≤j):v (lf pl y) (j+1)=v y j:=by
 show (z3c pl 0 y).getD (j+1) 0=y.getD j 0
 unfold z3c
 rw[q0b,q0b,q0R (by rw[q0q];lia),q0q,Nat.min_eq_left h,show j+1 - pl=(j - pl)+1 by lia,List.getElem?_cons_succ,List.getElem?_drop,show pl+(j - pl)=j by lia]
theorem z8X {pl:Nat}{y:List Int} (h:pl≤y.length):(lf pl y).length =y.length+1:=by
 show (z3c pl 0 y).length =_
 unfold z3c
 rw[q0l,q0u,q0q,q2f];lia
theorem y2N {pl j:Nat}{y:List Int} (h:pl≤y.length):v (lf pl y) (skp pl j)=v y j:=by
 unfold skp
 by_cases h1:j<pl
 ·rw[if_pos h1,y4B h h1]
 ·rw[if_neg h1,y4C h (by lia)]
end Rk
end L2
namespace L2
open Fr Wl Pt Rk
namespace Ld
def sumTo:Nat→(Nat→Int)→Int
 |0,_=>0
 |n+1,f=>sumTo n f+f n
def hg (w:Nat) (a s:Nat→Int):Int:=sumTo w (fun j=>a j*s j) - a w*s w
theorem z3V (c d:Int) (f g:Nat→Int):∀n,sumTo n (fun j=>c*f j+d*g j)=c*sumTo n f+d*sumTo n g
 |0=>by simp[sumTo]
 |n+1=>by rw[sumTo,sumTo,sumTo,z3V c d f g n];grind
theorem sumTo_congr {f g:Nat→Int}:∀n,(∀j,j<n→f j=g j)→sumTo n f=sumTo n g
 |0,_=>rfl
 |n+1,h=>by rw[sumTo,sumTo,sumTo_congr n fun j hj=>h j (by lia),h n (by lia)]
theorem z0L {w:Nat}{a b s t:Nat→Int} (h1:∀j,j≤w→a j=b j) (h2:∀j,j≤w→s j=t j):hg w a s=hg w b t:=by
 unfold hg
 rw[sumTo_congr w (g:=fun j=>b j*t j) fun j hj=>by rw[h1 j (by lia),h2 j (by lia)],h1 w (q0k _),h2 w (q0k _)]
theorem z5j (w:Nat) (a:Nat→Int) (c d:Int) (x y:Nat→Int):hg w a (fun j=>c*x j+d*y j)=c*hg w a x+d*hg w a y:=by
 unfold hg
 have:(fun j=>a j*(c*x j+d*y j))=fun j=>c*(a j*x j)+d*(a j*y j):=by funext j;grind
 rw[this,z3V]
 grind
theorem z6d (w:Nat) (s:Nat→Int) (c d:Int) (a b:Nat→Int):hg w (fun j=>c*a j+d*b j) s=c*hg w a s+d*hg w b s:=by
 unfold hg
 have:(fun j=>(c*a j+d*b j)*s j)=fun j=>c*(a j*s j)+d*(b j*s j):=by funext j;grind
 rw[this,z3V]
 grind
theorem z9h (w:Nat) (a:Nat→Int) (c:Int) (x:Nat→Int):hg w a (fun j=>c*x j)=c*hg w a x:=by
 have:=z5j w a c 0 x x
 rw[z0L (b:=a) (t:=fun j=>c*x j+0*x j) (fun _ _=>rfl) fun j _=>by lia,this]
 lia
theorem y1V (w:Nat) (s:Nat→Int) (c:Int) (a:Nat→Int):hg w (fun j=>c*a j) s=c*hg w a s:=by
 have:=z6d w s c 0 a a
 rw[z0L (b:=fun j=>c*a j+0*a j) (t:=s) (fun j _=>by lia) fun _ _=>rfl,this]
 lia
theorem z4T {p:Nat}{f:Nat→Int}:∀{w:Nat},p≤w→sumTo (w+1) f=sumTo w (fun j=>f (skp p j))+f p
 |0,h=>by
  have:p=0:=by lia
  subst this
  rfl
 |w+1,h=>by
  by_cases c:p≤w
  ·rw[sumTo,z4T c,sumTo]
   have:skp p w=w+1:=by unfold skp;rw[if_neg (by lia)]
   rw[this];lia
  ·have:p=w+1:=by lia
   subst this
   rw[sumTo]
   congr 1
   exact sumTo_congr _ fun j hj=>by unfold skp;rw[if_pos hj]
theorem z8e {p w:Nat}{a s:Nat→Int} (h:p≤w):hg (w+1) a s=hg w (fun j=>a (skp p j)) (fun j=>s (skp p j))+a p*s p:=by
 unfold hg
 rw[z4T h]
 have:skp p w=w+1:=by unfold skp;rw[if_neg (by lia)]
 dsimp only
 rw[this]
 lia
def Spt (w:Nat) (s:List Int):Prop:=s.length=w+1∧0<v s w
def Win (w:Nat) (bs:List (List Int)) (s:List Int):Prop:=Spt w s∧∀b∈bs,0<hg w (v b) (v s)
def Pw (w:Nat) (bs:List (List Int)):Prop:=∃s,Win w bs s
def mkL (w:Nat) (f:Nat→Int):List Int:=(List.range (w+1)).map f
theorem z5S (w:Nat) (f:Nat→Int):(mkL w f).length =w+1:=by unfold mkL;rw[List.length_map,List.length_range]
theorem y1w {w j:Nat}{f:Nat→Int} (h:j≤w):v (mkL w f) j=f j:=by
 show (mkL w f).getD j 0=f j
 unfold mkL
 rw[q0b,q0g,List.getElem?_range (by lia)];rfl
theorem y1W {w:Nat}{a f:Nat→Int}:hg w a (v (mkL w f))=hg w a f:=z0L (fun _ _=>rfl) fun j hj=>y1w hj
theorem y1X {w:Nat}{t u:List Int}{s:Nat→Int} (hp:fp t≤w) (ht:t.length=w+2) (hu:u.length=w+2) (hn:∃n∈t,n≠0):
 hg w (v (drR t u)) (fun j=>s (skp (fp t) j))=z4F u t*hg (w+1) (v u) s+(-z2h u t)*hg (w+1) (v t) s:=by
 have hl:u.length=t.length:=by lia
 rw[←z6d]
 have e:∀j,v (z0o u t) j=z4F u t*v u j+ -z2h u t*v t j:=fun j=>by rw[z2o hl];grind
 rw[z0L (w:=w+1) (b:=v (z0o u t)) (t:=s) (fun j _=>(e j).symm) (fun _ _=>rfl),z8e hp]
 have z:v (z0o u t) (fp t)=0:=by rw[z2o hl,z3J hn];lia
 rw[z,Int.zero_mul,q1A]
 exact z0L (fun j _=>by unfold drR;rw[z3T]) fun _ _=>rfl
theorem z7M {u t:List Int} (h:0<v t (fp t)):0<z4F u t:=by
 unfold z4F
 have g0:0<Int.gcd (v t (fp t)) (v u (fp t)):=Nat.pos_of_ne_zero fun z=>by
  have:=(Int.gcd_eq_zero_iff.mp z).1;lia
 have:=fdiv_mul (q1O (a:=v t (fp t)) (b:=v u (fp t)))
 refine q0H fun c=>?_
 have h2:(v t (fp t)).fdiv (Int.gcd (v t (fp t)) (v u (fp t)))*((Int.gcd (v t (fp t)) (v u (fp t)):Nat):Int)≤0:=Int.mul_nonpos_of_nonpos_of_nonneg (by lia) (by lia)
 lia
theorem cross {w:Nat}{bs:List (List Int)}{b s0 s1:List Int} (h0:Win w bs s0) (h0b:hg w (v b) (v s0)≤0) (h1:Win w bs s1) (h1b:0<hg w (v b) (v s1)):
 ∃s,Win w bs s∧hg w (v b) (v s)=0:=by
 generalize e0:hg w (v b) (v s0)=x0 at*
 generalize e1:hg w (v b) (v s1)=x1 at*
 refine⟨mkL w fun j=>(-x0)*v s1 j+x1*v s0 j,⟨⟨z5S _ _,?_⟩,fun c hc=>?_⟩,?_⟩
 ·rw[y1w (q0k _)]
  have a:=h0.1.2;have b:=h1.1.2
  have:=q1o h1b a
  have:=q1y (show 0≤ -x0 by lia) (q1G b)
  lia
 ·rw[y1W,z5j]
  have:=q1o h1b (h0.2 c hc)
  have:=q1y (show 0≤ -x0 by lia) (q1G (h1.2 c hc))
  lia
 ·rw[y1W,z5j,e0,e1]
  grind
def z3E (s:List Int):List Int:=s.map fun n=>n.fdiv (z1p s:Int)
theorem y1A {s:List Int} (j:Nat):(z1p s:Int)*v (z3E s) j=v s j:=by
 show (z1p s:Int)*(z3E s).getD j 0=s.getD j 0
 unfold z3E
 rw[q0b,q0b,q0g]
 cases e:s[j]? with
 |none=>simp
 |some n=>
  show (z1p s:Int)*n.fdiv (z1p s:Int)=n
  rw[Int.mul_comm]
  exact fdiv_mul ((z3O s 0).2 n (q0B e))
theorem z8T (s:List Int):(z3E s).length =s.length:=by unfold z3E;rw[List.length_map]
theorem z7Z {w:Nat}{s:List Int}{a:Nat→Int}:(z1p s:Int)*hg w a (v (z3E s))=hg w a (v s):=by
 rw[←z9h]
 exact z0L (fun _ _=>rfl) fun j _=>y1A j
theorem z1M {a b c:Int} (ha:0<a) (h:a*b=c) (hc:0<c):0<b:=by
 refine q0H fun z=>?_
 have:=Int.mul_nonpos_of_nonneg_of_nonpos (q1G ha) (show b≤0 by lia)
 lia
theorem z2v {s:List Int}{w:Nat} (h:0<v s w):0<(z1p s:Int):=by
 have:=z2a (rs:=s) (z1Y (j:=w) (by lia))
 lia
theorem Win.low {w:Nat}{bs:List (List Int)}{s:List Int} (h:Win w bs s):Win w bs (z3E s):=by
 have g:=z2v h.1.2
 exact⟨⟨by rw[z8T,h.1.1],z1M g (y1A w) h.1.2⟩,fun b hb=>z1M g z7Z (h.2 b hb)⟩
theorem y3q {w:Nat}{s:List Int}{a:Nat→Int} (hs:0<v s w) (h:hg w a (v s)=0):hg w a (v (z3E s))=0:=by
 have g:=z2v hs
 have:=z7Z (w:=w) (s:=s) (a:=a)
 rw[h] at this
 exact (q1z.mp this).resolve_left (by lia)
def upL (w:Nat) (t f:List Int):List Int:=(((z3c (fp t) 0 f).map fun n=>v t (fp t)*n).set (fp t) (0 - hg w (v t) (v (z3c (fp t) 0 f))))
theorem z6b {pl j:Nat}{f:List Int} (h:pl≤f.length):v (z3c pl 0 f) (skp pl j)=v f j:=y2N h
theorem y4g {pl:Nat}{f:List Int} (h:pl≤f.length):v (z3c pl 0 f) pl=0:=y4D h
theorem y5I {w:Nat}{t f:List Int} (hf:f.length=w+1) (hp:fp t≤w):(upL (w+1) t f).length =w+2:=by
 unfold upL
 rw[q1K,q0a]
 have:=z8X (pl:=fp t) (y:=f) (by lia)
 show (lf (fp t) f).length =_
 lia
theorem z3S {c:Int}{l:List Int}{j:Nat}:v (l.map fun n=>c*n) j=c*v l j:=v_map l j
theorem z8t {w j:Nat}{t f:List Int} (hf:f.length=w+1) (hp:fp t≤w):v (upL (w+1) t f) (skp (fp t) j)=v t (fp t)*v f j:=by
 have ne:fp t≠skp (fp t) j:=by unfold skp;split<;>lia
 have:v (upL (w+1) t f) (skp (fp t) j)=v ((z3c (fp t) 0 f).map fun n=>v t (fp t)*n) (skp (fp t) j):=by
  show (upL (w+1) t f).getD _ 0=List.getD _ _ 0
  unfold upL
  rw[q0b,q0b,q1E ne]
 rw[this,z3S,z6b (by lia)]
theorem up_at {w:Nat}{t f:List Int} (hf:f.length=w+1) (hp:fp t≤w):v (upL (w+1) t f) (fp t)=0 - hg (w+1) (v t) (v (z3c (fp t) 0 f)):=by
 show (upL (w+1) t f).getD _ 0=_
 unfold upL
 rw[q0b,q1L]
 ·rfl
 ·rw[q0a]
  have:=z8X (pl:=fp t) (y:=f) (by lia)
  show fp t<(lf (fp t) f).length
  lia
theorem y5H {w:Nat}{t f:List Int} (hf:f.length=w+1) (hp:fp t≤w):hg (w+1) (v t) (v (upL (w+1) t f))=0:=by
 rw[z8e hp,up_at hf hp]
 have e1:hg w (fun j=>v t (skp (fp t) j)) (fun j=>v (upL (w+1) t f) (skp (fp t) j))=v t (fp t)*hg w (fun j=>v t (skp (fp t) j)) (v f):=by
  rw[←z9h]
  exact z0L (fun _ _=>rfl) fun j _=>z8t hf hp
 have e2:hg (w+1) (v t) (v (z3c (fp t) 0 f))=hg w (fun j=>v t (skp (fp t) j)) (v f):=by
  rw[z8e hp,y4g (by lia),q0W,q1A]
  exact z0L (fun _ _=>rfl) fun j _=>z6b (by lia)
 rw[e1,e2]
 grind
theorem y3K {w:Nat}{t f:List Int}{bs:List (List Int)} (hp:fp t≤w) (ht:t.length=w+2) (hpos:0<v t (fp t)) (hb:∀u∈bs,u.length=w+2) (hf:Win w (bs.map (drR t)) f):
 Win (w+1) bs (upL (w+1) t f):=by
 have hn:∃n∈t,n≠0:=z1Y (j:=fp t) (by lia)
 have hfl:=hf.1.1
 refine⟨⟨y5I hfl hp,?_⟩,fun u hu=>?_⟩
 ·have e:skp (fp t) w=w+1:=by unfold skp;rw[if_neg (by lia)]
  have e2:=z8t (j:=w) hfl hp
  rw[e] at e2
  rw[e2]
  exact q1o hpos hf.1.2
 ·have h1:=y1X (s:=v (upL (w+1) t f)) hp ht (hb u hu) hn
  rw[y5H hfl hp,q0W,q1A] at h1
  have h2:hg w (v (drR t u)) (fun j=>v (upL (w+1) t f) (skp (fp t) j))=v t (fp t)*hg w (v (drR t u)) (v f):=by
   rw[←z9h]
   exact z0L (fun _ _=>rfl) fun j _=>z8t hfl hp
  have h3:=q1o hpos (hf.2 _ (q0A hu))
  exact z1M (z7M hpos) h1.symm (by rw[h2];exact h3)
theorem y3B {w:Nat}{t s:List Int}{bs:List (List Int)} (hp:fp t≤w) (ht:t.length=w+2) (hpos:0<v t (fp t)) (hb:∀u∈bs,u.length=w+2) (hs:Win (w+1) bs s) (ho:hg (w+1) (v t) (v s)=0):
 Win w (bs.map (drR t)) (s.eraseIdx (fp t)):=by
 have hn:∃n∈t,n≠0:=z1Y (j:=fp t) (by lia)
 have hsl:=hs.1.1
 refine⟨⟨by rw[List.length_eraseIdx,if_pos (by lia)];lia,?_⟩,fun d hd=>?_⟩
 ·rw[z3T]
  have e:skp (fp t) w=w+1:=by unfold skp;rw[if_neg (by lia)]
  rw[e];exact hs.1.2
 ·obtain⟨u,hu,rfl⟩:=q0f.mp hd
  have h1:=y1X (s:=v s) hp ht (hb u hu) hn
  rw[ho,q0W,q1A] at h1
  rw[z0L (w:=w) (a:=v (drR t u)) (b:=v (drR t u)) (s:=v (s.eraseIdx (fp t))) (t:=fun j=>v s (skp (fp t) j)) (fun _ _=>rfl) (fun j _=>z3T _ _ _),h1]
  exact q1o (z7M hpos) (hs.2 u hu)
def z3R (w p:Nat) (s:List Int) (bs:List (List Int)):Int:=bs.foldl (fun z b=>max z (((v b p).natAbs :Int)*v s w/hg w (v b) (v s)+1)) 1
theorem z7i {w p:Nat}{s:List Int}:∀(bs:List (List Int)) (z:Int),z≤bs.foldl (fun z b=>max z (((v b p).natAbs :Int)*v s w/hg w (v b) (v s)+1)) z∧∀b∈bs,((v b p).natAbs :Int)*v s w/hg w (v b) (v s)+1≤bs.foldl (fun z b=>max z (((v b p).natAbs :Int)*v s w/hg w (v b) (v s)+1)) z
 |[],z=>⟨Int.le_refl _,fun b h=>by cases h⟩
 |c::bs,z=>by
  obtain⟨h1,h2⟩:=z7i (w:=w) (p:=p) (s:=s) bs (max z (((v c p).natAbs :Int)*v s w/hg w (v c) (v s)+1))
  rw[q2b]
  refine⟨by lia,fun b hb=>?_⟩
  rcases q0t.mp hb with rfl|hb
  ·lia
  ·exact h2 b hb
def z7p (w p:Nat) (sg:Int) (s:List Int) (bs:List (List Int)):List Int:=(s.map fun n=>z3R w p s bs*n).set p (z3R w p s bs*v s p+sg*v s w)
theorem y0s {w p:Nat}{sg:Int}{s:List Int}{bs:List (List Int)}:(z7p w p sg s bs).length =s.length:=by unfold z7p;rw[List.length_set,List.length_map]
theorem y0r {w p j:Nat}{sg:Int}{s:List Int}{bs:List (List Int)} (hp:p<s.length):v (z7p w p sg s bs) j=z3R w p s bs*v s j+if j=p then sg*v s w else 0:=by
 show (z7p w p sg s bs).getD j 0=_
 unfold z7p
 rw[q0b]
 by_cases h:j=p
 ·subst h
  rw[q1L (by rw[q0a];exact hp),if_pos rfl];rfl
 ·rw[q1E (fun z=>h z.symm),if_neg h,←q0b]
  show v (s.map fun n=>z3R w p s bs*n) j=_
  rw[z3S,q1A]
theorem z3U {p:Nat}{f:Nat→Int} (hf:∀j,j≠p→f j=0):∀n,sumTo n f=if p<n then f p else 0
 |0=>rfl
 |n+1=>by
  rw[sumTo,z3U hf n]
  by_cases h:p<n
  ·rw[if_pos h,if_pos (by lia),hf n (by lia),q1A]
  ·rw[if_neg h]
   by_cases h2:p=n
   ·subst h2;rw[if_pos (by lia)];lia
   ·rw[if_neg (by lia),hf n (fun z=>h2 z.symm)];rfl
theorem y6K {w p:Nat}{sg:Int}{s:List Int}{bs:List (List Int)}{a:Nat→Int} (hs:s.length=w+1) (hp:p<w):hg w a (v (z7p w p sg s bs))=z3R w p s bs*hg w a (v s)+a p*(sg*v s w):=by
 have e:hg w a (v (z7p w p sg s bs))=hg w a (fun j=>z3R w p s bs*v s j+1*(if j=p then sg*v s w else 0)):=z0L (fun _ _=>rfl) fun j _=>by rw[y0r (by lia),Int.one_mul]
 rw[e,z5j,Int.one_mul]
 congr 1
 unfold hg
 dsimp only
 rw[z3U (p:=p) (fun j hj=>by rw[if_neg hj,q0W]),if_pos hp,if_pos rfl,if_neg (by lia),q0W,Int.sub_zero]
theorem y3C {a h:Int} (ha:0≤a) (hh:0<h) {z:Int} (hz:a/h+1≤z):a<z*h:=by
 have h1:=Int.lt_ediv_add_one_mul_self a hh
 have h2:=Int.mul_le_mul_of_nonneg_right hz (q1G hh)
 lia
theorem y4K {w p:Nat}{sg:Int}{s b:List Int}{bs:List (List Int)} (hs:Win w bs s) (hp:p<w) (hsg:sg=1∨sg= -1) (hb0:hg w (v b) (v s)=0) (hb:0<v b p*sg):Win w (bs++[b]) (z7p w p sg s bs):=by
 have hl:=hs.1.1
 have hw:=hs.1.2
 have bt1:1≤z3R w p s bs:=(z7i bs 1).1
 refine⟨⟨by rw[y0s,hl],?_⟩,fun c hc=>?_⟩
 ·rw[y0r (by lia),if_neg (by lia),q1A]
  exact q1o (by lia) hw
 ·rw[y6K hl hp]
  rcases q0D.mp hc with hc|hc
  ·have h1:=hs.2 c hc
   have h2:=(z7i (w:=w) (p:=p) (s:=s) bs 1).2 c hc
   have h3:=y3C (q1y (Int.natCast_nonneg (v c p).natAbs) (q1G hw)) h1 h2
   have h4: -(((v c p).natAbs :Int)*v s w)≤v c p*(sg*v s w):=by
     rcases Int.natAbs_eq (v c p) with e|e
     ·generalize (v c p).natAbs =n at*
      rw[e]
      rcases hsg with rfl|rfl
      ·have:=q1y (Int.natCast_nonneg n) (q1G hw);grind
      ·grind
     ·generalize (v c p).natAbs =n at*
      rw[e]
      rcases hsg with rfl|rfl
      ·grind
      ·have:=q1y (Int.natCast_nonneg n) (q1G hw);grind
   have h5:z3R w p s bs*hg w (v c) (v s)=bs.foldl (fun z b=>max z (((v b p).natAbs :Int)*v s w/hg w (v b) (v s)+1)) 1*hg w (v c) (v s):=rfl
   lia
  ·rw[q0i.mp hc,hb0,q0W,Int.zero_add]
   have:=q1o hb hw
   rw[←Int.mul_assoc];exact this
end Ld
end L2
namespace L2
open Fr Wl Pt Rk
namespace Ld
def z0F (sg:Int) (r:List Int):List Int:=r.map fun n=>sg*n
theorem z2P {sg:Int}{r:List Int} (j:Nat):v (z0F sg r) j=sg*v r j:=z3S
theorem z3F {sg:Int}{r:List Int}:(z0F sg r).length =r.length:=by unfold z0F;rw[List.length_map]
theorem z3u {w:Nat}{sg:Int}{r:List Int}{s:Nat→Int}:hg w (v (z0F sg r)) s=sg*hg w (v r) s:=by
 rw[←y1V]
 exact z0L (fun j _=>z2P j) fun _ _=>rfl
def ldL (b:List Int):Int:=if 0<v b (fp b) then 1 else -1
theorem z1v (b:List Int):ldL b=1∨ldL b= -1:=by unfold ldL;split<;>simp
theorem z6U {b:List Int} (h:∃n∈b,n≠0):0<ldL b*v b (fp b):=by
 have:=z1Q h
 unfold ldL
 split<;>lia
theorem z8f {b:List Int} (h:∃n∈b,n≠0) {sg:Int} (hs:sg=1∨sg= -1):fp (z0F sg b)=fp b:=by
 refine z4w ?_ fun j hj=>?_
 ·rw[z2P]
  exact q1m (by rcases hs with h|h<;>rw[h]<;>decide) (z1Q h)
 ·rw[z2P,z1k hj,q0W]
theorem y2f {w:Nat}{bs:List (List Int)}{b s0:List Int} (hz:∀j,j<w→v b j=0) (h0:Spt w s0) (hb:hg w (v b) (v s0)≤0):¬Pw w (bs++[b]):=by
 rintro⟨s,hs,hw⟩
 have e:∀s:Nat→Int,hg w (v b) s= -(v b w*s w):=fun s=>by
  unfold hg
  rw[sumTo_congr w (g:=fun _=>0) fun j hj=>by rw[hz j hj,Int.zero_mul]]
  have:∀n,sumTo n (fun _=>0)=0:=fun n=>by
   induction n with
   |zero=>rfl
   |succ n ih=>rw[sumTo,ih];rfl
  rw[this];lia
 have h1:=hw b (by simp)
 rw[e] at h1 hb
 have c0:0≤v b w:=by
  refine q0H fun z=>?_
  have:=Int.mul_neg_of_neg_of_pos (show v b w<0 by lia) h0.2
  lia
 have:=q1y c0 (q1G hs.2)
 lia
theorem z8k {w:Nat}{bs:List (List Int)}{b s0:List Int} (hbl:b.length=w+2) (hl:∀u∈bs,u.length=w+2) (hfp:fp b≤w) (h0:Win (w+1) bs s0) (hb:hg (w+1) (v b) (v s0)≤0)
 (hn:¬Pw w (bs.map (drR (z0F (ldL b) b)))):¬Pw (w+1) (bs++[b]):=by
 rintro⟨s1,h1,h2⟩
 have nz:∃n∈b,n≠0:=y1s (by lia)
 obtain⟨s,hs,ho⟩:=cross h0 hb ⟨h1,fun c hc=>h2 c (q0J _ hc)⟩ (h2 b (by simp))
 have ft:=z8f nz (z1v b)
 refine hn ⟨_,y3B (t:=z0F (ldL b) b) (by lia) (by rw[z3F,hbl]) (by rw[z2P,ft];exact z6U nz) hl hs (by rw[z3u,ho,q0W])⟩
theorem z8j {w:Nat}{bs:List (List Int)}{b f:List Int} (hbl:b.length=w+2) (hl:∀u∈bs,u.length=w+2) (hfp:fp b≤w) (hf:Win w (bs.map (drR (z0F (ldL b) b))) f):
 Win (w+1) bs (z3E (upL (w+1) (z0F (ldL b) b) f))∧hg (w+1) (v b) (v (z3E (upL (w+1) (z0F (ldL b) b) f)))=0∧
 Win (w+1) (bs++[b]) (z3E (z7p (w+1) (fp b) (ldL b) (z3E (upL (w+1) (z0F (ldL b) b) f)) bs)):=by
 have nz:∃n∈b,n≠0:=y1s (by lia)
 have ft:=z8f nz (z1v b)
 have hpos:0<v (z0F (ldL b) b) (fp (z0F (ldL b) b)):=by rw[z2P,ft];exact z6U nz
 have hw:=y3K (t:=z0F (ldL b) b) (by lia) (by rw[z3F,hbl]) hpos hl hf
 have ho:=y5H (w:=w) (t:=z0F (ldL b) b) hf.1.1 (by lia)
 have hob:hg (w+1) (v b) (v (upL (w+1) (z0F (ldL b) b) f))=0:=by
  rw[z3u] at ho
  exact (q1z.mp ho).resolve_left (by rcases z1v b with h|h<;>rw[h]<;>decide)
 have hlow:=hw.low
 have holow:=y3q hw.1.2 hob
 refine⟨hlow,holow,(y4K hlow (by lia) (z1v b) holow ?_).low⟩
 rw[Int.mul_comm];exact z6U nz
def bdL (ts:List (List Int)) (sg:List Int):List (List Int):=List.zipWith (fun t s=>z0F s t) ts sg
def y5E (w:Nat) (ts:List (List Int)) (sg:List Int):Prop:=Pw w (bdL ts sg)
theorem z8i {ts:List (List Int)}{sg:List Int} (h:ts.length=sg.length) (t:List Int) (s:Int):bdL (ts++[t]) (sg++[s])=bdL ts sg++[z0F s t]:=by
 unfold bdL
 rw[List.zipWith_append h];rfl
theorem Pw.less {w:Nat}{bs cs:List (List Int)} (h:Pw w (bs++cs)):Pw w bs:=let ⟨s,a,b⟩:=h;⟨s,a,fun c hc=>b c (q0J _ hc)⟩
open Classical in
noncomputable def z1q (w:Nat) (ts:List (List Int)) (t s:List Int):List (List Int):=[s++[-1],s++[1]].filter fun s'=>decide (y5E w (ts++[t]) s')
noncomputable def sgN (w:Nat) (ts:List (List Int)):Nat→List (List Int)
 |0=>[[]]
 |i+1=>(sgN w ts i).flatMap (z1q w (ts.take i) (ts.getD i []))
def Sgn (s:List Int):Prop:=∀x∈s,x=1∨x= -1
open Classical in
theorem z7Y {w:Nat}{ts:List (List Int)}:∀{i:Nat},i≤ts.length→∀{s:List Int},s∈sgN w ts i↔s.length=i∧Sgn s∧y5E w (ts.take i) s
 |0,_,s=>by
  show s∈[[]]↔_
  rw[q0i,List.take_zero]
  constructor
  ·rintro rfl
   refine⟨rfl,(fun x h=>by cases h),mkL w (fun _=>1),⟨z5S _ _,by rw[y1w (q0k _)];decide⟩,fun b hb=>?_⟩
   exact absurd hb (by unfold bdL;simp)
  ·exact fun h=>q1b.mp h.1
 |i+1,hi,s=>by
  have ih:=fun {s}=>z7Y (w:=w) (ts:=ts) (i:=i) (by lia) (s:=s)
  have et:ts[i]? =some (ts.getD i []):=by rw[q0b,q0c (by lia)];rfl
  have tk:ts.take (i+1)=ts.take i++[ts.getD i []]:=by rw[q0E,et];rfl
  have tl:(ts.take i).length =i:=by rw[q0q];lia
  rw[sgN,List.mem_flatMap,tk]
  constructor
  ·rintro⟨u,hu,hs⟩
   obtain⟨h1,h2,h3⟩:=ih.mp hu
   unfold z1q at hs
   obtain⟨h4,h5⟩:=q1a.mp hs
   have h6:=of_decide_eq_true h5
   simp only[q0t,q1M,or_false] at h4
   rcases h4 with rfl|rfl
   ·exact⟨by simp[h1],fun x hx=>by rcases q0D.mp hx with h|h;exact h2 x h;exact .inr (q0i.mp h),h6⟩
   ·exact⟨by simp[h1],fun x hx=>by rcases q0D.mp hx with h|h;exact h2 x h;exact .inl (q0i.mp h),h6⟩
  ·rintro⟨h1,h2,h3⟩
   obtain⟨u,x,rfl⟩:∃u x,s=u++[x]:=⟨s.dropLast,s.getLast (fun z=>by rw[z] at h1;simp at h1),(q0X _).symm⟩
   have ul:u.length=i:=by simpa using h1
   refine⟨u,ih.mpr ⟨ul,fun y hy=>h2 y (q0J _ hy),?_⟩,?_⟩
   ·unfold y5E at h3 ⊢
    rw[z8i (by lia)] at h3
    exact h3.less
   ·unfold z1q
    refine q1a.mpr ⟨?_,decide_eq_true h3⟩
    rcases h2 x (by simp) with rfl|rfl<;>simp
theorem y4L (w:Nat) (ts:List (List Int)) (t s:List Int):(z1q w ts t s).length ≤2:=by
 unfold z1q
 exact q1q _ _
theorem z7B (w:Nat) (ts:List (List Int)):∀i,(sgN w ts i).length ≤2^i
 |0=>Nat.le_refl _
 |i+1=>by
  have ih:=z7B w ts i
  rw[sgN]
  generalize sgN w ts i=L at*
  have:∀L:List (List Int),(L.flatMap (z1q w (ts.take i) (ts.getD i []))).length ≤2*L.length:=fun L=>by
   induction L with
   |nil=>simp
   |cons a L ih2=>
    rw[List.flatMap_cons,q0l,q0u]
    have:=y4L w (ts.take i) (ts.getD i []) a
    lia
  have:=this L
  rw[Nat.pow_succ];lia
end Ld
end L2
namespace L2
open Fr Wl Rk Pt
open PySem.Builtin.Int (intBits)
namespace Pa
structure PartsI (m:Nat) (bn:Nat→Nat) (ws:List (List Int)) (L:List (List (List Int))):Prop where
 nd:L.Nodup
 good:∀us∈L,Rws m us∧∀t∈us,∀n∈t,intBits n≤bn us.length
 lot:∀us∈L,∃S:List (List Int),S.Sublist ws∧In (us.map v)=In (S.map v)
 all:∀S:List (List Int),S.Sublist ws→(∃us∈L,In (us.map v)=In (S.map v))∨y2I m S
structure MidI (m:Nat) (bn:Nat→Nat) (ws:List (List Int)) (w:List Int) (L L':List (List (List Int))) (j:Nat):Prop where
 nd:L'.Nodup
 good:∀us∈L',Rws m us∧∀t∈us,∀n∈t,intBits n≤bn us.length
 lot:∀us∈L',∃S:List (List Int),S.Sublist (ws++[w])∧In (us.map v)=In (S.map v)
 old:∀us∈L,us∈L'
 new:∀us∈L.take j,(∃us'∈L',In (us'.map v)=In ((w::us).map v))∨y2I m (w::us)
theorem y4h {A:List (Nat→Int)}{B:List (Nat→Int)}{x:Nat→Int} (e:In A=In B):In (x::A)=In (B++[x]):=by
 have h1:∀r∈A,In B r:=fun r hr=>by rw[←e];exact In.one hr
 have h2:∀r∈B,In A r:=fun r hr=>by rw[e];exact In.one hr
 refine In.same (fun r hr=>?_) (fun r hr=>?_)
 ·rcases q0t.mp hr with rfl|hr
  ·exact In.one (by simp)
  ·exact In.mono (fun s hs=>q0J _ hs) (h1 r hr)
 ·rcases q0D.mp hr with hr|hr
  ·exact In.mono (fun s hs=>q0h _ hs) (h2 r hr)
  ·rw[q0i.mp hr];exact In.one q0j
theorem y3p {m:Nat}{S T:List (List Int)} (h:∀t∈S,t∈T) (o:y2I m S):y2I m T:=by
 obtain⟨z,h1,h2,h3⟩:=o
 refine⟨z,In.mono (fun r hr=>?_) h1,h2,h3⟩
 obtain⟨t,ht,rfl⟩:=q0f.mp hr
 exact q0f.mpr ⟨t,h t ht,rfl⟩
theorem y3o {m:Nat}{S T:List (List Int)} (e:In (S.map v)=In (T.map v)) (o:y2I m S):y2I m T:=by
 obtain⟨z,h1,h2,h3⟩:=o
 exact⟨z,by rw[←e];exact h1,h2,h3⟩
theorem PartsI.start {m:Nat}{bn:Nat→Nat}:PartsI m bn [] [[]] where
 nd:=by simp
 good:=fun us h=>by
  rw[q0i.mp h]
  exact⟨Rws.nil,fun t ht=>nomatch ht⟩
 lot:=fun us h=>⟨[],.refl _,by rw[q0i.mp h]⟩
 all:=fun S h=> .inl ⟨[],q0i.mpr rfl,by rw[List.sublist_nil.mp h]⟩
theorem PartsI.mid {m:Nat}{bn:Nat→Nat}{ws:List (List Int)}{L:List (List (List Int))} (h:PartsI m bn ws L) (w:List Int):MidI m bn ws w L L 0 where
 nd:=h.nd
 good:=h.good
 lot:=fun us hu=>by
  obtain⟨S,h1,h2⟩:=h.lot us hu
  exact⟨S,h1.trans (List.sublist_append_left _ _),h2⟩
 old:=fun _ hu=>hu
 new:=fun us hu=>by simp at hu
theorem MidI.off {m:Nat}{bn:Nat→Nat}{ws:List (List Int)}{w:List Int}{L L':List (List (List Int))}{j:Nat}{us:List (List Int)} (h:MidI m bn ws w L L' j) (e:L[j]? =some us) (o:y2I m (w::us)):MidI m bn ws w L L' (j+1) where
 nd:=h.nd
 good:=h.good
 lot:=h.lot
 old:=h.old
 new:=fun x hx=>by
  rw[q0E,e] at hx
  rcases q0D.mp hx with hx|hx
  ·exact h.new x hx
  ·rw[q0i.mp hx];exact .inr o
theorem MidI.put {m:Nat}{bn:Nat→Nat}{ws:List (List Int)}{w:List Int}{L L' L2:List (List (List Int))}{j:Nat}{us us':List (List Int)} (h:MidI m bn ws w L L' j) (h0:PartsI m bn ws L) (e:L[j]? =some us) (hR:Rws m us') (hb:∀t∈us',∀n∈t,intBits n≤bn us'.length) (hI:In (us'.map v)=In ((w::us).map v))
 (hn:L2.Nodup) (hm:∀x,x∈L2↔x∈L'∨x=us'):MidI m bn ws w L L2 (j+1) where
 nd:=hn
 good:=fun x hx=>by
  rcases (hm x).mp hx with hx|rfl
  ·exact h.good x hx
  ·exact⟨hR,hb⟩
 lot:=fun x hx=>by
  rcases (hm x).mp hx with hx|rfl
  ·exact h.lot x hx
  ·obtain⟨S,h1,h2⟩:=h0.lot us (q0B e)
   refine⟨S++[w],List.Sublist.append h1 (.refl _),?_⟩
   rw[hI,q0L,q0p]
   exact y4h h2
 old:=fun x hx=>(hm x).mpr (.inl (h.old x hx))
 new:=fun x hx=>by
  rw[q0E,e] at hx
  rcases q0D.mp hx with hx|hx
  ·rcases h.new x hx with⟨u,h1,h2⟩|o
   ·exact .inl ⟨u,(hm u).mpr (.inl h1),h2⟩
   ·exact .inr o
  ·rw[q0i.mp hx]
   exact .inl ⟨us',(hm us').mpr (.inr rfl),hI⟩
theorem MidI.done {m:Nat}{bn:Nat→Nat}{ws:List (List Int)}{w:List Int}{L L':List (List (List Int))} (h:MidI m bn ws w L L' L.length) (h0:PartsI m bn ws L):PartsI m bn (ws++[w]) L' where
 nd:=h.nd
 good:=h.good
 lot:=h.lot
 all:=fun S hS=>by
  obtain⟨S1,S2,rfl,s1,s2⟩:=List.sublist_append_iff.mp hS
  have hw:S2=[]∨S2=[w]:=by
    cases S2 with
    |nil=>exact .inl rfl
    |cons x S2=>
     have hl:=s2.length_le
     have:S2=[]:=q1b.mp (by rw[q0u,q0T] at hl;lia)
     subst this
     have:=s2.subset q0j
     rw[q0i.mp this]
     exact .inr rfl
  rcases hw with rfl|rfl
  ·rw[q2c]
   rcases h0.all S1 s1 with⟨us,h1,h2⟩|o
   ·exact .inl ⟨us,h.old us h1,h2⟩
   ·exact .inr o
  ·rcases h0.all S1 s1 with⟨us,h1,h2⟩|o
   ·have e2:In ((w::us).map v)=In ((S1++[w]).map v):=by
     rw[q0L,q0p]
     exact y4h h2
    rcases h.new us (by rw[q0P];exact h1) with⟨u,k1,k2⟩|o
    ·exact .inl ⟨u,k1,by rw[k2,e2]⟩
    ·exact .inr (y3o e2 o)
   ·exact .inr (y3p (fun t ht=>q0J _ ht) o)
end Pa
end L2
namespace L2
open Fr Wl Rk Pt Ld
open PySem.Builtin.Int (intBits)
namespace Fc
def z0P (n:Nat) (F:List Nat):List Nat:=(List.range n).filter fun j=>decide (j∉F)
def z3n (n:Nat) (F:List Nat) (x:Nat→Int):List Int:=(z0P n F).map x
def drL (m:Nat) (us:List (List Int)) (u:List Int):List Int:=z3n (m+1) (us.map fp) (v (us.foldl z0o u))
theorem z4r (m:Nat) (F:List Nat):z0P (m+1) F=if m∈F then z0P m F else z0P m F++[m]:=by
 unfold z0P
 rw[List.range_succ,q0U]
 by_cases h:m∈F
 ·rw[if_pos h];simp[h]
 ·rw[if_neg h];simp[h]
theorem z6V {m:Nat}{F:List Nat} (h:m∉F):z0P (m+1) F=z0P m F++[m]:=by rw[z4r,if_neg h]
theorem mem_keep {n j:Nat}{F:List Nat}:j∈z0P n F↔j<n∧j∉F:=by
 unfold z0P
 rw[q1a,q1c,decide_eq_true_iff]
theorem z3z (f:Nat→Int) (L:List Nat) {j:Nat} (h:j<L.length):v (L.map f) j=f L[j]:=by
 show (L.map f).getD j 0=_
 rw[q0b,q0g,q0c h];rfl
theorem z9b {F:List Nat}{a x:Nat→Int}:∀m,(∀j,j<m→j∈F→a j=0)→Ld.sumTo (z0P m F).length (fun j=>v ((z0P m F).map a) j*v ((z0P m F).map x) j)=Ld.sumTo m fun j=>a j*x j
 |0,_=>rfl
 |m+1,h=>by
  have ih:=z9b (F:=F) (a:=a) (x:=x) m fun j hj=>h j (by lia)
  by_cases hm:m∈F
  ·rw[z4r,if_pos hm,ih,Ld.sumTo,h m (by lia) hm];lia
  ·rw[z4r,if_neg hm,q0l,q0T]
   rw[Ld.sumTo,Ld.sumTo,←ih]
   have e1:∀(f:Nat→Int) (j:Nat),j<(z0P m F).length →v ((z0P m F++[m]).map f) j=v ((z0P m F).map f) j:=fun f j hj=>by
    rw[z3z f _ (by rw[q0l];lia),z3z f _ hj,List.getElem_append_left hj]
   have e2:∀f:Nat→Int,v ((z0P m F++[m]).map f) (z0P m F).length =f m:=fun f=>by
    rw[z3z f _ (by rw[q0l];exact Nat.lt_succ_self _)];simp
   rw[e2,e2,sumTo_congr _ fun j hj=>by rw[e1 a j hj,e1 x j hj]]
theorem y6L {m:Nat}{F:List Nat}{a x:Nat→Int} (hF:m∉F) (hz:∀j,j<m→j∈F→a j=0):hg (z0P m F).length (v (z3n (m+1) F a)) (v (z3n (m+1) F x))=hg m a x:=by
 unfold z3n hg
 rw[z6V hF,←z9b m hz]
 have e1:∀(f:Nat→Int) (j:Nat),j<(z0P m F).length →v ((z0P m F++[m]).map f) j=v ((z0P m F).map f) j:=fun f j hj=>by
  rw[z3z f _ (by rw[q0l];lia),z3z f _ hj,List.getElem_append_left hj]
 have e2:∀f:Nat→Int,v ((z0P m F++[m]).map f) (z0P m F).length =f m:=fun f=>by
  rw[z3z f _ (by rw[q0l];exact Nat.lt_succ_self _)];simp
 rw[e2,e2,sumTo_congr _ fun j hj=>by rw[e1 a j hj,e1 x j hj]]
theorem z8b {α:Type} (p:α→Bool):∀l:List α,l.length=(l.filter p).length +(l.filter fun x=> !p x).length
 |[]=>rfl
 |a::l=>by
  have ih:=z8b p l
  rw[q1N,q1N,q0u]
  cases h:p a<;>simp<;>lia
theorem z9d {m:Nat}{F:List Nat} (hn:F.Nodup) (hF:∀j∈F,j<m):(z0P m F).length =m - F.length:=by
 have h1:((List.range m).filter fun j=>decide (j∈F)).length =F.length:=by
  refine List.Perm.length_eq ((List.perm_ext_iff_of_nodup (List.nodup_range.filter _) hn).mpr fun j=>?_)
  rw[q1a,q1c,decide_eq_true_iff]
  exact⟨fun h=>h.2,fun h=>⟨hF j h,h⟩⟩
 have h2:=z8b (fun j=>decide (j∈F)) (List.range m)
 rw[q1H,h1] at h2
 unfold z0P
 have e:((List.range m).filter fun j=>decide (j∉F))=(List.range m).filter fun j=> !decide (j∈F):=by
  congr 1;funext j;by_cases h:j∈F<;>simp[h]
 rw[e];lia
theorem Rws.pos {m:Nat}{us:List (List Int)} (h:Rws m us) {t:List Int} (ht:t∈us):0<v t (fp t):=by
 have hn:=h.nz ht
 have:=z6I hn
 rw[(h.row t ht).2.2] at this
 exact this
theorem Rws.nd {m:Nat}{us:List (List Int)} (h:Rws m us):(us.map fp).Nodup :=by
 unfold List.Nodup
 rw[q0Y]
 exact h.up.imp fun h=>q0v h
theorem Rws.fpm {m:Nat}{us:List (List Int)} (h:Rws m us):∀j∈us.map fp,j<m:=fun j hj=>by
 obtain⟨t,ht,rfl⟩:=q0f.mp hj
 exact (h.row t ht).2.1
theorem Rws.free {m:Nat}{us:List (List Int)} (h:Rws m us):(z0P m (us.map fp)).length =m - us.length:=by
 rw[z9d (Rws.nd h) (Rws.fpm h),q0a]
theorem y2d {m:Nat}{x:Nat→Int}:∀(us:List (List Int)) (u:List Int),(∀t∈us,t.length=m+1∧0<v t (fp t)∧hg m (v t) x=0)→u.length=m+1→∃c:Int,0<c∧hg m (v (us.foldl z0o u)) x=c*hg m (v u) x
 |[],u,_,_=>⟨1,by decide,by rw[List.foldl_nil,Int.one_mul]⟩
 |t::us,u,h,hu=>by
  obtain⟨t1,t2,t3⟩:=h t q0j
  obtain⟨c,hc,e⟩:=y2d us (z0o u t) (fun t ht=>h t (q0h _ ht)) (by rw[z1b (by lia)];exact hu)
  refine⟨c*z4F u t,q1o hc (z7M t2),?_⟩
  rw[q2b,e]
  have e2:hg m (v (z0o u t)) x=z4F u t*hg m (v u) x+(-z2h u t)*hg m (v t) x:=by
   rw[←z6d]
   exact z0L (fun j _=>by rw[z2o (by lia)];grind) fun _ _=>rfl
  rw[e2,t3,q0W,q1A,Int.mul_assoc]
theorem y5v {m:Nat}{us:List (List Int)} (h:Rws m us) {u:List Int} (hu:u.length=m+1) {x:Nat→Int} (hx:∀t∈us,hg m (v t) x=0):∃c:Int,0<c∧hg (m - us.length) (v (drL m us u)) (v (z3n (m+1) (us.map fp) x))=c*hg m (v u) x:=by
 obtain⟨c,hc,e⟩:=y2d us u (fun t ht=>⟨(h.row t ht).1,Rws.pos h ht,hx t ht⟩) hu
 refine⟨c,hc,?_⟩
 rw[←e,←Rws.free h]
 refine y6L (fun z=>q1F _ (Rws.fpm h m z)) fun j _ hj=>?_
 obtain⟨t,ht,rfl⟩:=q0f.mp hj
 exact (h.rest hu).2.1 t ht
theorem y0V {p:Nat}:∀n,p≤n→(List.range (n+1)).filter (fun j=>decide (j≠p))=(List.range n).map (skp p):=by
 intro n hn
 induction n with
 |zero=>
  have:p=0:=by lia
  subst this
  rfl
 |succ n ih=>
  by_cases e:p=n+1
  ·subst e
   rw[List.range_succ,q0U]
   have e1:(List.range (n+1)).filter (fun j=>decide (j≠n+1))=List.range (n+1):=q1x.mpr fun a ha=>by have:=q1c.mp ha;simp;lia
   have e2:(List.range (n+1)).map (skp (n+1))=List.range (n+1):=by
        refine (q1d fun a ha=>?_).trans (List.map_id _)
        have:=q1c.mp ha
        unfold skp
        rw[if_pos (by lia)];rfl
   rw[e1,e2];simp
  ·rw[List.range_succ,q0U,ih (by lia),List.range_succ (n:=n),q0p]
   have e3:[n+1].filter (fun j=>decide (j≠p))=[n+1]:=q1x.mpr fun a ha=>by simp at ha;simp;lia
   have e4:[n].map (skp p)=[n+1]:=by
        show [skp p n]=_
        unfold skp
        rw[if_neg (by lia)]
   rw[e3,e4]
theorem z9c {n p:Nat}{G:List Nat} (hG:∀g∈G,g<p) (hp:p≤n):z0P (n+1) (G++[p])=(z0P n G).map (skp p):=by
 have e1:z0P (n+1) (G++[p])=((List.range (n+1)).filter fun j=>decide (j≠p)).filter fun j=>decide (j∉G):=by
  unfold z0P
  rw[List.filter_filter]
  refine List.filter_congr fun j _=>?_
  by_cases h1:j∈G<;>by_cases h2:j=p<;>simp[h1,h2]
 rw[e1,y0V n hp,List.filter_map]
 unfold z0P
 congr 1
 refine List.filter_congr fun j _=>?_
 show decide (skp p j∉G)=decide (j∉G)
 rw[decide_eq_decide]
 unfold skp
 by_cases h:j<p
 ·rw[if_pos h]
 ·rw[if_neg h]
  exact⟨fun _ z=>by have:=hG j z;lia,fun _ z=>by have:=hG _ z;lia⟩
def z5i (s:List Int) (F:List Nat):List Int:=F.foldl (fun k p=>z3c p 0 k) s
theorem y4f {s:List Int}:∀(F G:List Nat) (K:List Int),(G++F).Pairwise (· < ·)→(∀p∈F,p<K.length+F.length)→z3n K.length G (v K)=s→(∀g∈G,v K g=0)→
 (z5i K F).length =K.length+F.length∧z3n (K.length+F.length) (G++F) (v (z5i K F))=s∧∀g∈G++F,v (z5i K F) g=0
 |[],G,K,_,_,h,hz=>by
  rw[q2c]
  exact⟨rfl,h,hz⟩
 |p::F,G,K,hs,hF,h,hz=>by
  have hp:p≤K.length:=by
   have h1:(p::F).Pairwise (· < ·):=(List.pairwise_append.mp hs).2.1
   have:∀(F:List Nat) (p n:Nat),(p::F).Pairwise (· < ·)→(∀q∈p::F,q<n+(p::F).length)→p≤n:=by
        intro F
        induction F with
        |nil=>intro p n _ h;have:=h p List.mem_cons_self;simp at this;lia
        |cons q F ih=>
         intro p n hs h
         have hpq:=(q1i.mp hs).1 q q0j
         have:=ih q (n+1) (q1i.mp hs).2 fun x hx=>by have:=h x (q0h _ hx);simp only[q0u] at this ⊢;lia
         lia
   exact this F p K.length h1 hF
  have hG:∀g∈G,g<p:=fun g hg=>(List.pairwise_append.mp hs).2.2 g hg p q0j
  have hl:(z3c p 0 K).length =K.length+1:=z8X hp
  have at_:∀g,g<p→v (z3c p 0 K) g=v K g:=fun g hg=>by
   have:=z6b (j:=g) hp
   unfold skp at this
   rw[if_pos hg] at this
   exact this
  have ih:=y4f (s:=s) F (G++[p]) (z3c p 0 K) (by rw[q1h];exact hs) (fun q hq=>by have:=hF q (q0h _ hq);rw[hl];simp only[q0u] at this;lia) ?_ ?_
  ·rw[hl,q1h] at ih
   rw[q0u,show K.length+(F.length+1)=K.length+1+F.length by lia]
   exact ih
  ·rw[hl]
   unfold z3n
   rw[z9c hG hp,q0x,←h]
   unfold z3n
   exact q1d fun j _=>z6b hp
  ·intro g hg
   rcases q0D.mp hg with hg|hg
   ·rw[at_ g (hG g hg)];exact hz g hg
   ·rw[q0i.mp hg];exact y4g hp
def upS (m:Nat) (k t:List Int):List Int:=(k.map fun n=>v t (fp t)*n).set (fp t) (0 - hg m (v t) (v k))
def z1h (m:Nat) (us:List (List Int)) (s:List Int):List Int:=us.foldl (upS m) (z5i s (us.map fp))
theorem z7t {m:Nat}{k t:List Int}:(upS m k t).length =k.length:=by unfold upS;rw[List.length_set,List.length_map]
theorem y4G {m:Nat}{k t:List Int} (h:fp t<k.length) (j:Nat):v (upS m k t) j=if j=fp t then 0 - hg m (v t) (v k) else v t (fp t)*v k j:=by
 unfold upS
 show ((k.map fun n=>v t (fp t)*n).set (fp t) _).getD j 0=_
 rw[q0b,List.getElem?_set]
 by_cases e:fp t=j
 ·rw[if_pos e,if_pos e.symm,if_pos (by rw[q0a];lia)];rfl
 ·rw[if_neg e,if_neg (fun z=>e z.symm),←q0b]
  exact z3S
theorem y6J {m:Nat}{k t:List Int}{a:Nat→Int} (h:fp t<m) (hk:k.length=m+1) (h0:v k (fp t)=0):hg m a (v (upS m k t))=v t (fp t)*hg m a (v k)+a (fp t)*(0 - hg m (v t) (v k)):=by
 have e:∀j,v (upS m k t) j=v t (fp t)*v k j+(0 - hg m (v t) (v k))*(if j=fp t then 1 else 0):=fun j=>by
  rw[y4G (by lia)]
  by_cases z:j=fp t
  ·rw[if_pos z,if_pos z,z,h0];lia
  ·rw[if_neg z,if_neg z];lia
 rw[z0L (fun _ _=>rfl) fun j _=>e j,z5j]
 have e2:hg m a (fun j=>if j=fp t then 1 else 0)=a (fp t):=by
  unfold hg
  rw[z3U (p:=fp t) (fun j hj=>by dsimp only;rw[if_neg hj];lia),if_pos h]
  dsimp only
  rw[if_pos rfl,if_neg (by lia)];lia
 rw[e2,Int.mul_comm (a (fp t))]
theorem y1E {m:Nat}{us:List (List Int)} (h:Rws m us) {k0:List Int}:∀(todo seen:List (List Int)) (k:List Int) (C:Int),seen++todo=us→k.length=m+1→0<C→(∀j,j∉us.map fp→v k j=C*v k0 j)→(∀t∈seen,hg m (v t) (v k)=0)→(∀t∈todo,v k (fp t)=0)→
 ∃D:Int,0<D∧(todo.foldl (upS m) k).length =m+1∧(∀j,j∉us.map fp→v (todo.foldl (upS m) k) j=D*v k0 j)∧∀t∈us,hg m (v t) (v (todo.foldl (upS m) k))=0
 |[],seen,k,C,e,hl,hC,h1,h2,_=>⟨C,hC,hl,h1,fun t ht=>h2 t (by rw[←e] at ht;simpa using ht)⟩
 |t::todo,seen,k,C,e,hl,hC,h1,h2,h3=>by
  have ht:t∈us:=by rw[←e];simp
  have hm:=(h.row t ht).2.1
  have h0:=h3 t q0j
  have hp:=Rws.pos h ht
  have nd:=Rws.nd h
  rw[←e,q0p,q0L] at nd
  refine y1E h todo (seen++[t]) (upS m k t) (v t (fp t)*C) (by rw[←e];simp) (by rw[z7t];exact hl) (q1o hp hC) (fun j hj=>?_) (fun r hr=>?_) (fun r hr=>?_)
  ·rw[y4G (by lia),if_neg (fun z=>hj (by rw[z];exact q0A ht)),h1 j hj,Int.mul_assoc]
  ·rw[y6J hm hl h0]
   rcases q0D.mp hr with hr|hr
   ·have hru:r∈us:=by rw[←e];exact q0J _ hr
    have hne:fp r≠fp t:=fun z=>(q1w.mp nd).2.2 (fp r) (q0A hr) (fp t) (by simp) z
    rw[h2 r hr,h.off r hru t ht hne];lia
   ·rw[q0i.mp hr,Int.mul_sub];lia
  ·have hne:fp r≠fp t:=fun z=>by
        have:=(List.nodup_cons.mp (q1w.mp nd).2.1).1
        exact this (by rw[←z];exact q0A hr)
   rw[y4G (by lia),if_neg hne,h3 r (q0h _ hr),q0W]
theorem z8a {m:Nat}{us:List (List Int)} (h:Rws m us) {s:List Int} (hs:s.length=m - us.length+1):
 ∃C:Int,0<C∧(z1h m us s).length =m+1∧(∀t∈us,hg m (v t) (v (z1h m us s))=0)∧z3n (m+1) (us.map fp) (v (z1h m us s))=s.map fun n=>C*n:=by
 have hle:us.length≤m:=by
  have:=Rws.free h
  have h2:=z8b (fun j=>decide (j∉us.map fp)) (List.range m)
  have h3:=z9d (Rws.nd h) (Rws.fpm h)
  rw[q0a] at h3
  have h4:(us.map fp).length ≤m:=by
   have:=(List.Perm.length_eq ((List.perm_ext_iff_of_nodup ((List.nodup_range (n:=m)).filter fun j=>decide (j∈us.map fp)) (Rws.nd h)).mpr fun j=>by
        rw[q1a,q1c,decide_eq_true_iff]
        exact⟨fun h=>h.2,fun h'=>⟨Rws.fpm h j h',h'⟩⟩))
   rw[←this]
   exact q0m (q1q _ _) (Nat.le_of_eq q1H)
  rw[q0a] at h4
  exact h4
 have hn:s.length+(us.map fp).length =m+1:=by rw[q0a];lia
 have up:(us.map fp).Pairwise (· < ·):=by rw[q0Y];exact h.up
 obtain⟨i1,i2,i3⟩:=y4f (s:=s) (us.map fp) [] s (by simpa using up) (fun p hp=>by have:=Rws.fpm h p hp;lia) (by
  unfold z3n z0P
  have:(List.range s.length).filter (fun j=>decide (j∉([]:List Nat)))=List.range s.length:=q1x.mpr fun a _=>by simp
  rw[this]
  refine List.ext_getElem (by simp) fun i a b=>?_
  rw[q1C,List.getElem_range]
  show s.getD i 0=_
  rw[q0b,q0c b];rfl) (fun g hg=>by cases hg)
 rw[hn] at i1 i2
 rw[List.nil_append] at i2 i3
 obtain⟨D,d1,d2,d3,d4⟩:=y1E h (k0:=z5i s (us.map fp)) us [] (z5i s (us.map fp)) 1 rfl i1 (by decide) (fun j _=>by rw[Int.one_mul]) (fun t ht=>by cases ht) (fun t ht=>i3 _ (q0A ht))
 refine⟨D,d1,d2,d4,?_⟩
 have e:s.map (fun n=>D*n)=(z3n (m+1) (us.map fp) (v (z5i s (us.map fp)))).map fun n=>D*n:=by rw[i2]
 rw[e]
 unfold z3n
 rw[q0x]
 exact q1d fun j hj=>d3 j (mem_keep.mp hj).2
end Fc
end L2
namespace L2
open Fr Wl Rk Pt Ld
open PySem.Builtin.Int (intBits)
namespace Fc
theorem y3u {m:Nat}{A:List (List Int)}{s:Nat→Int} (h:∀t∈A,hg m (v t) s=0) {x:Nat→Int} (hx:In (A.map v) x):hg m x s=0:=by
 refine In.lin (F:=fun a=>hg m a s) (fun c x y=>?_) (fun r hr=>?_) hx
 ·show hg m (fun j=>c*x j+y j) s=_
  have:=z6d m s c 1 x y
  simp only[Int.one_mul] at this
  exact this
 ·obtain⟨t,ht,rfl⟩:=q0f.mp hr
  exact h t ht
theorem y1t {m:Nat}{A:List (List Int)}{s:List Int} (hs:Spt m s) (h:∀t∈A,hg m (v t) (v s)=0):¬y2I m A:=by
 rintro⟨z,hz,h0,hm⟩
 have:=y3u h hz
 unfold hg at this
 rw[sumTo_congr (g:=fun _=>0) m (fun j hj=>by rw[h0 j hj,Int.zero_mul])] at this
 have e:∀n,Ld.sumTo n (fun _=>(0:Int))=0:=fun n=>by induction n with
  |zero=>rfl
  |succ n ih=>rw[Ld.sumTo,ih];rfl
 rw[e] at this
 have h2:=hs.2
 have:z m*v s m=0:=by lia
 rcases q1z.mp this with h|h
 ·exact hm h
 ·lia
theorem z5H {m:Nat}{F:List Nat}{x:Nat→Int} (h:m∉F):(z3n (m+1) F x).length =(z0P m F).length +1∧v (z3n (m+1) F x) (z0P m F).length =x m:=by
 unfold z3n
 rw[z6V h]
 exact⟨by simp,by rw[z3z x _ (by rw[q0l];exact Nat.lt_succ_self _)];simp⟩
theorem Rws.out {m:Nat}{us:List (List Int)} (h:Rws m us):m∉us.map fp:=fun z=>q1F _ (Rws.fpm h m z)
theorem y0T {m:Nat}{us:List (List Int)} (h:Rws m us) {s:List Int} (hs:Spt m s):Spt (m - us.length) (z3n (m+1) (us.map fp) (v s)):=by
 obtain⟨h1,h2⟩:=z5H (x:=v s) (Rws.out h)
 rw[Rws.free h] at h1 h2
 exact⟨h1,by rw[h2];exact hs.2⟩
theorem z5X {m:Nat}{us:List (List Int)} (h:Rws m us) {s:List Int} (hs:Spt (m - us.length) s):Spt m (z1h m us s):=by
 obtain⟨C,hC,hl,_,hr⟩:=z8a h hs.1
 obtain⟨h1,h2⟩:=z5H (x:=v (z1h m us s)) (Rws.out h)
 rw[Rws.free h,hr,z3S] at h2
 exact⟨hl,by rw[←h2];exact q1o hC hs.2⟩
theorem y1D {m:Nat}{us:List (List Int)} (h:Rws m us) {u s:List Int} (hu:u.length=m+1) (hs:s.length=m - us.length+1):∃c C:Int,0<c∧0<C∧c*hg m (v u) (v (z1h m us s))=C*hg (m - us.length) (v (drL m us u)) (v s):=by
 obtain⟨C,hC,hl,ho,hr⟩:=z8a h hs
 obtain⟨c,hc,e⟩:=y5v h hu ho
 refine⟨c,C,hc,hC,?_⟩
 rw[←e,hr,z0L (fun _ _=>rfl) fun j _=>z3S,z9h]
theorem y4T {m:Nat}{us bs:List (List Int)} (h:Rws m us) (hb:∀b∈bs,b.length=m+1):Pw (m - us.length) (bs.map (drL m us))↔∃s,Win m bs s∧∀t∈us,hg m (v t) (v s)=0:=by
 constructor
 ·rintro⟨s,hs,hw⟩
  refine⟨z1h m us s,⟨z5X h hs,fun b hbm=>?_⟩,?_⟩
  ·obtain⟨c,C,hc,hC,e⟩:=y1D h (hb b hbm) hs.1
   exact z1M hc e (q1o hC (hw _ (q0A hbm)))
  ·obtain⟨_,_,_,ho,_⟩:=z8a h hs.1
   exact ho
 ·rintro⟨s,⟨hs,hw⟩,ho⟩
  refine⟨z3n (m+1) (us.map fp) (v s),y0T h hs,fun d hd=>?_⟩
  obtain⟨b,hbm,rfl⟩:=q0f.mp hd
  obtain⟨c,hc,e⟩:=y5v h (hb b hbm) ho
  rw[e]
  exact q1o hc (hw b hbm)
def sgZ (z:Int):Int:=if z=0 then 0 else if 0<z then 1 else -1
theorem z1C {c z:Int} (hc:0<c):sgZ (c*z)=sgZ z:=by
 unfold sgZ
 by_cases h:z=0
 ·rw[h,q0W]
 ·have hne:c*z≠0:=q1m (by lia) h
  rw[if_neg h,if_neg hne]
  by_cases hp:0<z
  ·rw[if_pos hp,if_pos (q1o hc hp)]
  ·have:c*z<0:=Int.mul_neg_of_pos_of_neg hc (by lia)
   rw[if_neg hp,if_neg (by lia)]
theorem y5X {a b c d:Int} (hc:0<c) (hd:0<d) (e:c*a=d*b):sgZ a=sgZ b:=by rw[←z1C hc,e,z1C hd]
theorem sgZ_zero {z:Int}:sgZ z=0↔z=0:=by
 unfold sgZ
 by_cases h:z=0
 ·simp[h]
 ·rw[if_neg h];split<;>simp[h]
theorem z2U (z:Int):sgZ z= -1∨sgZ z=0∨sgZ z=1:=by
 unfold sgZ
 split
 ·exact .inr (.inl rfl)
 ·split
  ·exact .inr (.inr rfl)
  ·exact .inl rfl
theorem z3H {x z:Int} (hx:x=1∨x= -1):0<x*z↔sgZ z=x:=by
 unfold sgZ
 rcases hx with rfl|rfl
 ·rw[Int.one_mul]
  by_cases h:z=0
  ·simp[h]
  ·rw[if_neg h]
   by_cases hp:0<z
   ·simp[hp]
   ·rw[if_neg hp];lia
 ·by_cases h:z=0
  ·simp[h]
  ·rw[if_neg h]
   by_cases hp:0<z
   ·rw[if_pos hp];lia
   ·rw[if_neg hp];lia
def z2i (m:Nat) (ts:List (List Int)) (s:List Int):List Int:=ts.map fun t=>sgZ (hg m (v t) (v s))
def Fce (m:Nat) (ts:List (List Int)) (sg:List Int):Prop:=∃s,Spt m s∧sg=z2i m ts s
theorem z9B {m:Nat}{ts:List (List Int)}{s:List Int}{i:Nat} (hi:i<ts.length):v (z2i m ts s) i=sgZ (hg m (v ts[i]) (v s)):=by
 show (ts.map _).getD i 0=_
 rw[q0b,q0g,q0c hi];rfl
def Sg3 (s:List Int):Prop:=∀x∈s,x= -1∨x=0∨x=1
theorem y5W {m:Nat}{ts:List (List Int)}{s:List Int}:Sg3 (z2i m ts s):=fun x hx=>by
 obtain⟨t,_,rfl⟩:=q0f.mp hx
 exact z2U _
def y0k (sg:List Int):List Nat:=(List.range sg.length).filter fun i=>decide (v sg i=0)
def z7j (ts:List (List Int)) (sg:List Int):List (List Int):=((ts.zip sg).filter fun p=>decide (p.2≠0)).map fun p=>z0F p.2 p.1
theorem z5V {ts:List (List Int)}{sg:List Int} (hl:sg.length=ts.length) {b:List Int}:b∈z7j ts sg↔∃i,∃h:i<ts.length,v sg i≠0∧b=z0F (v sg i) ts[i]:=by
 unfold z7j
 constructor
 ·intro h
  obtain⟨p,hp,rfl⟩:=q0f.mp h
  obtain⟨hp,h0⟩:=q1a.mp hp
  obtain⟨i,hi,rfl⟩:=q0C.mp hp
  rw[q0I] at hi
  have e:v sg i=sg[i]'(by lia):=by
   show sg.getD i 0=_
   rw[q0b,q0c (by lia)];rfl
  rw[q2g] at h0 ⊢
  exact⟨i,by lia,by rw[e];simpa using h0,by rw[e]⟩
 ·rintro⟨i,hi,h0,rfl⟩
  have e:v sg i=sg[i]'(by lia):=by
   show sg.getD i 0=_
   rw[q0b,q0c (by lia)];rfl
  refine q0f.mpr ⟨(ts[i],sg[i]'(by lia)),q1a.mpr ⟨q0C.mpr ⟨i,by rw[q0I];lia,by rw[q2g]⟩,?_⟩,by rw[e]⟩
  rw[e] at h0
  simpa using h0
theorem y3x {m:Nat}{ts us:List (List Int)}{sg:List Int} (hl:sg.length=ts.length) (h3:Sg3 sg) (ht:∀t∈ts,t.length=m+1) (h:Rws m us) (hI:In (us.map v)=In (((y0k sg).map fun i=>ts.getD i []).map v)):
 Pw (m - us.length) ((z7j ts sg).map (drL m us))↔Fce m ts sg:=by
 have hbl:∀b∈z7j ts sg,b.length=m+1:=fun b hb=>by
  obtain⟨i,hi,_,rfl⟩:=(z5V hl).mp hb
  rw[z3F];exact ht _ (q0w _)
 have at_:∀i (hi:i<ts.length),ts.getD i []=ts[i]:=fun i hi=>by rw[q0b,q0c hi];rfl
 have mz:∀i,i∈y0k sg↔i<ts.length∧v sg i=0:=fun i=>by
  unfold y0k
  rw[q1a,q1c,decide_eq_true_iff,hl]
 rw[y4T h hbl]
 constructor
 ·rintro⟨s,⟨hs,hw⟩,ho⟩
  refine⟨s,hs,y4E (by unfold z2i;rw[List.length_map,hl]) fun i=>?_⟩
  by_cases hi:i<ts.length
  ·rw[z9B hi]
   by_cases h0:v sg i=0
   ·rw[h0]
    refine (sgZ_zero.mpr ?_).symm
    refine y3u ho ?_
    rw[hI]
    exact In.one (q0f.mpr ⟨ts[i],q0f.mpr ⟨i,(mz i).mpr ⟨hi,h0⟩,at_ i hi⟩,rfl⟩)
   ·have hp:=hw _ ((z5V hl).mpr ⟨i,hi,h0,rfl⟩)
    rw[z3u] at hp
    have hx:v sg i=1∨v sg i= -1:=by
      have hm:v sg i∈sg:=by
         show sg.getD i 0∈sg
         rw[q0b,q0c (by lia)]
         exact q0w _
      rcases h3 _ hm with e|e|e
      ·exact .inr e
      ·exact absurd e h0
      ·exact .inl e
    exact ((z3H hx).mp hp).symm
  ·have e1:v sg i=0:=by
        show sg.getD i 0=0
        rw[q0b,q1r (by lia)];rfl
   have e2:v (z2i m ts s) i=0:=by
        show (z2i m ts s).getD i 0=0
        rw[List.getD_eq_getElem?_getD,List.getElem?_eq_none (by unfold z2i;rw[List.length_map];lia)];rfl
   rw[e1,e2]
 ·rintro⟨s,hs,rfl⟩
  refine⟨s,⟨hs,fun b hb=>?_⟩,fun t htu=>?_⟩
  ·obtain⟨i,hi,h0,rfl⟩:=(z5V hl).mp hb
   rw[z3u]
   have e:=z9B (m:=m) (s:=s) hi
   have hx:v (z2i m ts s) i=1∨v (z2i m ts s) i= -1:=by
        rcases z2U (hg m (v ts[i]) (v s)) with e'|e'|e'
        ·rw[e,e'];simp
        ·rw[e,e'] at h0;exact absurd rfl h0
        ·rw[e,e'];simp
   exact (z3H hx).mpr e.symm
  ·refine y3u (A:=(y0k (z2i m ts s)).map fun i=>ts.getD i []) (fun t' ht'=>?_) (hI▸In.one (q0A htu))
   obtain⟨i,hi,rfl⟩:=q0f.mp ht'
   obtain⟨hi1,hi2⟩:=(mz i).mp hi
   rw[at_ i hi1]
   rw[z9B hi1] at hi2
   exact sgZ_zero.mp hi2
theorem y3w {m:Nat}{ts:List (List Int)}{sg:List Int} (hl:sg.length=ts.length) (h:y2I m ((y0k sg).map fun i=>ts.getD i [])):¬Fce m ts sg:=by
 rintro⟨s,hs,rfl⟩
 refine y1t hs (fun t ht=>?_) h
 obtain⟨i,hi,rfl⟩:=q0f.mp ht
 unfold y0k at hi
 rw[q1a,q1c,decide_eq_true_iff] at hi
 have hi1:i<ts.length:=by rw[←hl];exact hi.1
 rw[q0b,q0c hi1]
 have:=hi.2
 rw[z9B hi1] at this
 exact sgZ_zero.mp this
end Fc
end L2
namespace L2
open Fr Wl Rk Pt Ld
open PySem.Builtin.Int (intBits)
namespace Fc
def drG (m:Nat) (us:List (List Int)) (t:List Int):Option (List Int):=if (drL m us t).dropLast.any (· != 0) then some (z0m (drL m us t)) else none
def inW (m:Nat) (us ts:List (List Int)):List (List Int):=wd (drG m us) ts
theorem z4z {m:Nat}{us:List (List Int)} (h:Rws m us) (t:List Int):(drL m us t).length =m - us.length+1:=by
 obtain⟨h1,_⟩:=z5H (x:=v (us.foldl z0o t)) (Rws.out h)
 rw[Rws.free h] at h1
 exact h1
theorem mem_in {m:Nat}{us ts:List (List Int)}{d:List Int}:d∈inW m us ts↔∃t∈ts,drG m us t=some d:=by
 unfold inW wd
 rw[y4n]
 simp only[q1M,false_or,List.mem_filterMap]
theorem z4y {m:Nat}{us:List (List Int)} (h:Rws m us) {t d:List Int} (e:drG m us t=some d):WL (m - us.length) d∧d=z0m (drL m us t)∧∃n∈drL m us t,n≠0:=by
 unfold drG at e
 by_cases c:(drL m us t).dropLast.any (· != 0)=true
 ·rw[if_pos c] at e
  cases e
  obtain⟨j,hj,h0⟩:=(z3w (z4z h t)).mp c
  have hnz:∃n∈drL m us t,n≠0:=z1Y h0
  refine⟨⟨by rw[Rk.plain_len];exact z4z h t,z1X hnz,j,hj,fun z=>h0 ((z1j hnz j).mp z)⟩,rfl,hnz⟩
 ·rw[if_neg c] at e;cases e
theorem y2p {m:Nat}{us:List (List Int)} (h:Rws m us) {t:List Int} (e:drG m us t=none):∀j,j<m - us.length→v (drL m us t) j=0:=fun j hj=>q0H fun z=>by
 unfold drG at e
 rw[if_pos ((z3w (z4z h t)).mpr ⟨j,hj,z⟩)] at e
 cases e
theorem z8g {w:Nat}{a x:Nat→Int} (h:∀j,j<w→a j=0):hg w a x=x w*(-a w):=by
 unfold hg
 rw[sumTo_congr (g:=fun _=>0) w (fun j hj=>by rw[h j hj,Int.zero_mul])]
 have e:∀n,Ld.sumTo n (fun _=>(0:Int))=0:=fun n=>by induction n with
  |zero=>rfl
  |succ n ih=>rw[Ld.sumTo,ih];rfl
 rw[e,Int.mul_comm (a w),Int.mul_neg];lia
theorem z2u {w:Nat}{d:List Int}{x:Nat→Int}:hg w (v d) x=byL d*hg w (v (z0m d)) x:=by
 rw[←y1V]
 exact z0L (fun j _=>by rw[Int.mul_comm];exact (z1W j).symm) fun _ _=>rfl
theorem y4M (z:Int):sgZ (-z)= - sgZ z:=by
 unfold sgZ
 by_cases h:z=0
 ·simp[h]
 ·rw[if_neg h,if_neg (by lia)]
  by_cases hp:0<z
  ·rw[if_pos hp,if_neg (by lia)]
  ·rw[if_neg hp,if_pos (by lia)];rfl
theorem y3N {c a b:Int} (hc:c≠0):sgZ (c*a)=sgZ (c*b)↔sgZ a=sgZ b:=by
 rcases Int.lt_or_lt_of_ne hc with h|h
 ·have e:∀z,sgZ (c*z)= - sgZ z:=fun z=>by
   rw[show c*z= -((-c)*z) by rw[Int.neg_mul,Int.neg_neg],y4M,z1C (by lia)]
  rw[e,e];lia
 ·rw[z1C h,z1C h]
theorem z9W {m:Nat}{us ts:List (List Int)} (h:Rws m us) {x y:List Int} (hx:Spt (m - us.length) x) (hy:Spt (m - us.length) y) (e:∀d∈inW m us ts,sgZ (hg (m - us.length) (v d) (v x))=sgZ (hg (m - us.length) (v d) (v y))) {t:List Int} (ht:t∈ts):
 sgZ (hg (m - us.length) (v (drL m us t)) (v x))=sgZ (hg (m - us.length) (v (drL m us t)) (v y)):=by
 cases c:drG m us t with
 |none=>
  have z:=y2p h c
  rw[z8g z,z8g z,z1C hx.2,z1C hy.2]
 |some d=>
  obtain⟨hw,rfl,hnz⟩:=z4y h c
  have hd:=e _ (mem_in.mpr ⟨t,ht,c⟩)
  rw[z2u,z2u (x:=v y)]
  exact (y3N (z2g hnz)).mpr hd
theorem z5Y {m:Nat}{us:List (List Int)} (h:Rws m us) {t x:List Int} (hu:t.length=m+1) (hx:Spt (m - us.length) x):sgZ (hg m (v t) (v (z1h m us x)))=sgZ (hg (m - us.length) (v (drL m us t)) (v x)):=by
 obtain⟨c,C,hc,hC,e⟩:=y1D h hu hx.1
 exact y5X hc hC e
theorem y3O {m:Nat}{us:List (List Int)} (h:Rws m us) {t:List Int} (hu:t.length=m+1) {s:List Int} (ho:∀t∈us,hg m (v t) (v s)=0):sgZ (hg m (v t) (v s))=sgZ (hg (m - us.length) (v (drL m us t)) (v (z3n (m+1) (us.map fp) (v s)))):=by
 obtain⟨c,hc,e⟩:=y5v h hu ho
 rw[e,z1C hc]
theorem y1Z {m:Nat}{us:List (List Int)} (h:Rws m us) {t:List Int} (hl:t.length=m+1):In (us.map v) (v t)↔∀j,v (drL m us t) j=0:=by
 obtain⟨rl,rz,c,c0,hc⟩:=h.rest hl
 have key:(∀j,v (drL m us t) j=0)↔∀j,v (us.foldl z0o t) j=0:=by
  constructor
  ·intro hd j
   by_cases hj:j<m+1
   ·by_cases hf:j∈us.map fp
    ·obtain⟨r,hr,rfl⟩:=q0f.mp hf
     exact rz r hr
    ·obtain⟨i,hi,e⟩:=q0C.mp (mem_keep.mpr ⟨hj,hf⟩)
     have:=hd i
     unfold drL z3n at this
     rw[z3z _ _ hi,e] at this
     exact this
   ·show (us.foldl z0o t).getD j 0=0
    rw[q0b,q1r (by lia)];rfl
  ·intro hd j
   show (drL m us t).getD j 0=0
   unfold drL z3n
   rw[q0b,q0g]
   cases (z0P (m+1) (us.map fp))[j]? with
   |none=>rfl
   |some i=>exact hd i
 rw[key]
 constructor
 ·intro hi
  have hr':In (us.map v) (v (us.foldl z0o t)):=((In.of hc).add (hi.mul c)).cast fun j=>by lia
  intro p
  induction p using Nat.strongRecOn with
  |_ p ih=>
   refine q0H fun z=>?_
   obtain⟨t',ht',e⟩:=h.first hr' z ih
   exact z (by rw[←e];exact rz t' ht')
 ·intro z
  rw[h.same hl z]
  exact In.one q0j
theorem y3H {w:Nat}{W:List (List Int)}{g x:List Int} (hl:g.length=W.length) (hg3:Sgn g) (hw:Win w (bdL W g) x) {i:Nat} (hi:i<W.length):sgZ (hg w (v W[i]) (v x))=v g i:=by
 have hp:=hw.2 (z0F (v g i) W[i]) (by
  unfold bdL
  refine q0C.mpr ⟨i,by rw[q2e];lia,?_⟩
  rw[List.getElem_zipWith]
  congr 1
  show _=g.getD i 0
  rw[q0b,q0c (by lia)];rfl)
 rw[z3u] at hp
 have hm:v g i∈g:=by
  show g.getD i 0∈g
  rw[q0b,q0c (by lia)]
  exact q0w _
 exact (z3H (hg3 _ hm)).mp hp
theorem y5s {m:Nat}{bn:Nat→Nat}{ts:List (List Int)}{L:List (List (List Int))} (P:Pa.PartsI m bn ts L) (ht:∀t∈ts,t.length=m+1) {s:List Int} (hs:Spt m s):
 ∃us∈L,∃g∈sgN (m - us.length) (inW m us ts) (inW m us ts).length,∀x,Win (m - us.length) (bdL (inW m us ts) g) x→z2i m ts (z1h m us x)=z2i m ts s:=by
 have hZ:∀t∈ts.filter (fun t=>decide (hg m (v t) (v s)=0)),hg m (v t) (v s)=0:=fun t h=>by
  have:=(q1a.mp h).2
  simpa using this
 rcases P.all _ (List.filter_sublist (p:=fun t=>decide (hg m (v t) (v s)=0)) (l:=ts)) with⟨us,hus,hI⟩|ho
 ·refine⟨us,hus,?_⟩
  have h:=(P.good us hus).1
  have ho:∀t∈us,hg m (v t) (v s)=0:=fun t htu=>y3u hZ (hI▸In.one (q0A htu))
  have hx:=y0T h hs
  generalize hxx:z3n (m+1) (us.map fp) (v s)=x0 at hx
  have hne:∀d∈inW m us ts,hg (m - us.length) (v d) (v x0)≠0:=fun d hd z=>by
   obtain⟨t,htm,e⟩:=mem_in.mp hd
   obtain⟨hw,e2,_⟩:=z4y h e
   have z0:hg m (v t) (v s)=0:=by
        have:=y3O h (ht t htm) ho
        rw[hxx,z2u (d:=drL m us t),←e2,z,q0W] at this
        exact sgZ_zero.mp (this.trans (by rfl))
   have hin:In (us.map v) (v t):=by
        rw[hI]
        exact In.one (q0A (q1a.mpr ⟨htm,by simpa using z0⟩))
   have all:=(y1Z h (ht t htm)).mp hin
   unfold drG at e
   have:(drL m us t).dropLast.any (· != 0)=false:=by
        rw[Bool.eq_false_iff]
        intro c
        obtain⟨j,_,hj⟩:=(z3w (z4z h t)).mp c
        exact hj (all j)
   rw[this] at e
   cases e
  have hgl:((inW m us ts).map fun d=>sgZ (hg (m - us.length) (v d) (v x0))).length =(inW m us ts).length :=q0a _
  have hgs:Sgn ((inW m us ts).map fun d=>sgZ (hg (m - us.length) (v d) (v x0))):=fun y hy=>by
   obtain⟨d,hd,rfl⟩:=q0f.mp hy
   rcases z2U (hg (m - us.length) (v d) (v x0)) with e|e|e
   ·exact .inr e
   ·exact absurd (sgZ_zero.mp e) (hne d hd)
   ·exact .inl e
  have hgv:∀i (hi:i<(inW m us ts).length),v ((inW m us ts).map fun d=>sgZ (hg (m - us.length) (v d) (v x0))) i=sgZ (hg (m - us.length) (v (inW m us ts)[i]) (v x0)):=fun i hi=>by
   show (List.map _ _).getD i 0=_
   rw[q0b,q0g,q0c hi];rfl
  refine⟨(inW m us ts).map fun d=>sgZ (hg (m - us.length) (v d) (v x0)),(z7Y (q0k _)).mpr ⟨hgl,hgs,?_⟩,fun x hwx=>?_⟩
  ·rw[q0P]
   refine⟨x0,hx,fun b hb=>?_⟩
   unfold bdL at hb
   obtain⟨i,hi,rfl⟩:=q0C.mp hb
   rw[q2e,hgl,Nat.min_self] at hi
   rw[List.getElem_zipWith,z3u,q1C]
   have hd:(inW m us ts)[i]∈inW m us ts:=q0w _
   refine (z3H ?_).mpr rfl
   rcases z2U (hg (m - us.length) (v (inW m us ts)[i]) (v x0)) with e|e|e
   ·exact .inr e
   ·exact absurd (sgZ_zero.mp e) (hne _ hd)
   ·exact .inl e
  ·unfold z2i
   refine q1d fun t htm=>?_
   rw[z5Y h (ht t htm) hwx.1,y3O h (ht t htm) ho,hxx]
   refine z9W h hwx.1 hx (fun d hd=>?_) htm
   obtain⟨i,hi,rfl⟩:=q0C.mp hd
   rw[y3H hgl hgs hwx hi,hgv i hi]
 ·exact absurd ho (y1t hs hZ)
end Fc
end L2
namespace L2
open Fr Wl Rk Pt Ld
open PySem.Builtin.Int (intBits)
namespace Fc
theorem y2o {m:Nat}{us ts:List (List Int)} (h:Rws m us) {g x:List Int} (hl:g.length=(inW m us ts).length) (hs:Sgn g) (hw:Win (m - us.length) (bdL (inW m us ts) g) x) {t:List Int} (ht:t∈ts) (hlen:t.length=m+1):hg m (v t) (v (z1h m us x))=0↔In (us.map v) (v t):=by
 rw[←sgZ_zero,z5Y h hlen hw.1,sgZ_zero,y1Z h hlen]
 cases c:drG m us t with
 |none=>
  have z:=y2p h c
  rw[z8g z]
  constructor
  ·intro e j
   have h2:=hw.1.2
   have e':v (drL m us t) (m - us.length)=0:=by
        rcases q1z.mp e with e|e<;>lia
   by_cases hj:j<m - us.length
   ·exact z j hj
   ·by_cases hj2:j=m - us.length
    ·rw[hj2];exact e'
    ·show (drL m us t).getD j 0=0
     rw[q0b,q1r (by rw[z4z h];lia)];rfl
  ·intro e
   rw[e,Int.neg_zero,q0W]
 |some d=>
  obtain⟨hwl,rfl,hnz⟩:=z4y h c
  obtain⟨i,hi,e⟩:=q0C.mp (mem_in.mpr ⟨t,ht,c⟩)
  have hb:=y3H hl hs hw hi
  rw[e] at hb
  constructor
  ·intro z
   rw[z2u] at z
   have z2:hg (m - us.length) (v (z0m (drL m us t))) (v x)=0:=by
        rcases q1z.mp z with z|z
        ·exact absurd z (z2g hnz)
        ·exact z
   rw[z2] at hb
   have hm:v g i∈g:=by
        show g.getD i 0∈g
        rw[q0b,q0c (by lia)]
        exact q0w _
   have:(0:Int)=v g i:=hb
   rcases hs _ hm with h|h<;>lia
  ·intro z
   obtain⟨j,_,hj⟩:=hwl.way
   exact absurd ((z1j hnz j).mpr (z j)) hj
theorem z9j {m:Nat}{bn:Nat→Nat}{ts:List (List Int)}{L:List (List (List Int))} (P:Pa.PartsI m bn ts L) (ht:∀t∈ts,t.length=m+1) {u1 u2:List (List Int)} (h1:u1∈L) (h2:u2∈L) {g1 g2 x1 x2:List Int} (l1:g1.length=(inW m u1 ts).length) (s1:Sgn g1) (w1:Win (m - u1.length) (bdL (inW m u1 ts) g1) x1)
 (l2:g2.length=(inW m u2 ts).length) (s2:Sgn g2) (w2:Win (m - u2.length) (bdL (inW m u2 ts) g2) x2) (e:z2i m ts (z1h m u1 x1)=z2i m ts (z1h m u2 x2)):u1=u2∧g1=g2:=by
 have r1:=(P.good u1 h1).1
 have r2:=(P.good u2 h2).1
 have et:∀t∈ts,sgZ (hg m (v t) (v (z1h m u1 x1)))=sgZ (hg m (v t) (v (z1h m u2 x2))):=fun t htm=>by
  obtain⟨i,hi,rfl⟩:=q0C.mp htm
  rw[←z9B hi,←z9B hi,e]
 have same:∀t∈ts,In (u1.map v) (v t)↔In (u2.map v) (v t):=fun t htm=>by
  exact (y2o r1 l1 s1 w1 htm (ht t htm)).symm.trans (Iff.trans (by rw[←sgZ_zero,et t htm,sgZ_zero]) (y2o r2 l2 s2 w2 htm (ht t htm)))
 have hu:u1=u2:=by
  refine r1.one r2 (In.same (fun r hr=>?_) (fun r hr=>?_))
  ·obtain⟨S,hS,hI⟩:=P.lot u1 h1
   have:In (u1.map v) r:=In.one hr
   rw[hI] at this
   refine In.sub (fun r hr=>?_) this
   obtain⟨t,htS,rfl⟩:=q0f.mp hr
   exact (same t (hS.subset htS)).mp (hI▸In.one (q0A htS))
  ·obtain⟨S,hS,hI⟩:=P.lot u2 h2
   have:In (u2.map v) r:=In.one hr
   rw[hI] at this
   refine In.sub (fun r hr=>?_) this
   obtain⟨t,htS,rfl⟩:=q0f.mp hr
   exact (same t (hS.subset htS)).mpr (hI▸In.one (q0A htS))
 subst hu
 refine⟨rfl,y4E (by rw[l1,l2]) fun i=>?_⟩
 by_cases hi:i<(inW m u1 ts).length
 ·rw[←y3H l1 s1 w1 hi,←y3H l2 s2 w2 hi]
  obtain⟨t,htm,c⟩:=mem_in.mp (q0w hi)
  obtain⟨_,e2,hnz⟩:=z4y r1 c
  have:=et t htm
  rw[z5Y r1 (ht t htm) w1.1,z5Y r1 (ht t htm) w2.1,z2u,z2u (x:=v x2),←e2] at this
  exact (y3N (z2g hnz)).mp this
 ·have z:∀g:List Int,g.length=(inW m u1 ts).length →v g i=0:=fun g hg=>by
   show g.getD i 0=0
   rw[q0b,q1r (by lia)];rfl
  rw[z g1 l1,z g2 l2]
structure FI (m:Nat) (ts:List (List Int)) (L:List (List (List Int))) (FS:List (List Int)):Prop where
 nd:FS.Nodup
 src:∀s∈FS,∃us∈L,∃g x,g∈sgN (m - us.length) (inW m us ts) (inW m us ts).length ∧Win (m - us.length) (bdL (inW m us ts) g) x∧s=z2i m ts (z1h m us x)
 all:∀us∈L,∀g∈sgN (m - us.length) (inW m us ts) (inW m us ts).length,∃x,Win (m - us.length) (bdL (inW m us ts) g) x∧z2i m ts (z1h m us x)∈FS
theorem FI.nil {m:Nat}{ts:List (List Int)}:FI m ts [] []:=⟨List.nodup_nil,(fun s h=>by cases h),(fun us h=>by cases h)⟩
theorem FI.more {m:Nat}{bn:Nat→Nat}{ts:List (List Int)}{L0 L:List (List (List Int))}{FS:List (List Int)}{us:List (List Int)} (P:Pa.PartsI m bn ts L0) (ht:∀t∈ts,t.length=m+1) (h:FI m ts L FS) (hL:∀u∈L,u∈L0) (hu:us∈L0) (hn:us∉L)
 {ds:List (List Int×List Int)} (hd:ds.map Prod.fst=sgN (m - us.length) (inW m us ts) (inW m us ts).length) (nd:(ds.map Prod.fst).Nodup) (hw:∀p∈ds,Win (m - us.length) (bdL (inW m us ts) p.1) p.2):FI m ts (L++[us]) (FS++ds.map fun p=>z2i m ts (z1h m us p.2)):=by
 have sg:∀{u:List (List Int)}{g:List Int},g∈sgN (m - u.length) (inW m u ts) (inW m u ts).length →g.length=(inW m u ts).length ∧Sgn g:=fun hg=>let ⟨a,b,_⟩:=(z7Y (q0k _)).mp hg;⟨a,b⟩
 have ing:∀p∈ds,p.1∈sgN (m - us.length) (inW m us ts) (inW m us ts).length :=fun p hp=>by rw[←hd];exact q0A hp
 refine⟨?_,fun s hs=>?_,fun u hu' g hg=>?_⟩
 ·refine q1w.mpr ⟨h.nd,?_,fun a ha b hb e=>?_⟩
  ·unfold List.Nodup at nd ⊢
   rw[q0Y] at nd ⊢
   refine List.Pairwise.imp_of_mem (fun {p q} hp hq hne e=>?_) nd
   obtain⟨a1,a2⟩:=sg (ing p hp)
   obtain⟨b1,b2⟩:=sg (ing q hq)
   exact hne (z9j P ht hu hu a1 a2 (hw p hp) b1 b2 (hw q hq) e).2
  ·subst e
   obtain⟨u,hu',g,x,hg,hx,e1⟩:=h.src a ha
   obtain⟨p,hp,e2⟩:=q0f.mp hb
   obtain⟨a1,a2⟩:=sg hg
   obtain⟨b1,b2⟩:=sg (ing p hp)
   have:=(z9j P ht (hL u hu') hu a1 a2 hx b1 b2 (hw p hp) (e1.symm.trans e2.symm)).1
   exact hn (this▸hu')
 ·rcases q0D.mp hs with hs|hs
  ·obtain⟨u,hu',r⟩:=h.src s hs
   exact⟨u,q0J _ hu',r⟩
  ·obtain⟨p,hp,rfl⟩:=q0f.mp hs
   exact⟨us,by simp,p.1,p.2,ing p hp,hw p hp,rfl⟩
 ·rcases q0D.mp hu' with hu'|hu'
  ·obtain⟨x,hx,hm⟩:=h.all u hu' g hg
   exact⟨x,hx,q0J _ hm⟩
  ·cases q0i.mp hu'
   rw[←hd] at hg
   obtain⟨p,hp,rfl⟩:=q0f.mp hg
   exact⟨p.2,hw p hp,q0M _ (q0f.mpr ⟨p,hp,rfl⟩)⟩
theorem FI.iff {m:Nat}{bn:Nat→Nat}{ts:List (List Int)}{L:List (List (List Int))}{FS:List (List Int)} (P:Pa.PartsI m bn ts L) (ht:∀t∈ts,t.length=m+1) (h:FI m ts L FS) {s:List Int}:s∈FS↔Fce m ts s:=by
 constructor
 ·intro hs
  obtain⟨us,hu,g,x,_,hx,rfl⟩:=h.src s hs
  exact⟨_,z5X (P.good us hu).1 hx.1,rfl⟩
 ·rintro⟨p,hp,rfl⟩
  obtain⟨us,hu,g,hg,hall⟩:=y5s P ht hp
  obtain⟨x,hx,hm⟩:=h.all us hu g hg
  rw[hall x hx] at hm
  exact hm
def y5z:Nat→List (List Int)
 |0=>[[]]
 |n+1=>((y5z n).map fun s=> -1::s)++((y5z n).map fun s=>0::s)++(y5z n).map fun s=>1::s
theorem z9r:∀n,(y5z n).length =3^n
 |0=>rfl
 |n+1=>by rw[y5z,List.length_append,List.length_append,List.length_map,List.length_map,List.length_map,z9r n,Nat.pow_succ];lia
theorem z8S:∀(s:List Int),Sg3 s→s∈y5z s.length
 |[],_=>List.mem_singleton.mpr rfl
 |x::s,h=>by
  have ih:=z8S s fun y hy=>h y (q0h _ hy)
  rw[q0u,y5z]
  rcases h x q0j with rfl|rfl|rfl
  ·exact q0J _ (q0J _ (q0A ih))
  ·exact q0J _ (q0M _ (q0A ih))
  ·exact q0M _ (q0A ih)
theorem FI.few {m:Nat}{ts:List (List Int)}{L:List (List (List Int))}{FS:List (List Int)} (h:FI m ts L FS):FS.length≤3^ts.length:=by
 rw[←z9r]
 refine h.nd.length_le_of_subset fun s hs=>?_
 obtain⟨us,_,g,x,_,_,rfl⟩:=h.src s hs
 have:=z8S _ (y5W (m:=m) (ts:=ts) (s:=z1h m us x))
 unfold z2i at this ⊢
 rw[q0a] at this
 exact this
def ahL (a b:List Int):List Int:=List.zipWith (fun x y=>if x≠0 then x else y) a b
theorem y2E {m:Nat}{ts:List (List Int)}{a b:List Int} (ha:Fce m ts a) (hb:Fce m ts b):Fce m ts (ahL a b):=by
 obtain⟨p,hp,rfl⟩:=ha
 obtain⟨q,hq,rfl⟩:=hb
 have p0:=hp.2
 have q0:=hq.2
 obtain⟨N,hN0,hN⟩:∃N:Int,0<N∧∀t∈ts,-N<v p m*hg m (v t) (v q)∧v p m*hg m (v t) (v q)<N:=by
  clear hp hq
  induction ts with
  |nil=>exact⟨1,by decide,fun t h=>by cases h⟩
  |cons t ts ih=>
   obtain⟨N,h0,hN⟩:=ih
   refine⟨N+((v p m*hg m (v t) (v q)).natAbs :Int)+1,by lia,fun u hu=>?_⟩
   rcases q0t.mp hu with rfl|hu
   ·lia
   ·have:=hN u hu;lia
 have hr:∀t,hg m (v t) (v (mkL m fun j=>N*v q m*v p j+v p m*v q j))=N*v q m*hg m (v t) (v p)+v p m*hg m (v t) (v q):=fun t=>by
  rw[y1W,z5j]
 refine⟨mkL m fun j=>N*v q m*v p j+v p m*v q j,⟨z5S _ _,?_⟩,?_⟩
 ·rw[y1w (q0k _)]
  have:=q1o (q1o hN0 q0) p0
  have:=q1o p0 q0
  lia
 ·unfold ahL z2i
  rw[List.zipWith_map,List.zipWith_self]
  refine q1d fun t ht=>?_
  rw[hr t]
  obtain⟨n1,n2⟩:=hN t ht
  by_cases h0:hg m (v t) (v p)=0
  ·rw[h0,q0W,Int.zero_add,z1C p0]
   rw[if_neg (by simp[sgZ])]
  ·have hne:sgZ (hg m (v t) (v p))≠0:=fun z=>h0 (sgZ_zero.mp z)
   rw[if_pos hne]
   generalize hg m (v t) (v p)=z at*
   generalize v p m*hg m (v t) (v q)=y at*
   have hq1:1≤v q m:=q0
   unfold sgZ
   rw[if_neg h0]
   rcases Int.lt_or_lt_of_ne h0 with hz|hz
   ·have b1:N*v q m*z≤ -N:=by
     have:N*v q m*z= -(N*(v q m* -z)):=by rw[Int.mul_assoc,Int.mul_neg,Int.mul_neg,Int.neg_neg]
     rw[this]
     have h1:1≤v q m* -z:=q1o q0 (by lia)
     have:=Int.mul_le_mul_of_nonneg_left h1 (show 0≤N by lia)
     lia
    rw[if_neg (by lia),if_neg (by lia),if_neg (by lia)]
   ·have b1:N≤N*v q m*z:=by
     rw[Int.mul_assoc]
     have h1:1≤v q m*z:=q1o q0 hz
     have:=Int.mul_le_mul_of_nonneg_left h1 (show 0≤N by lia)
     lia
    rw[if_pos hz,if_neg (by lia),if_pos (by lia)]
end Fc
end L2
namespace L2
open PySem PySem.Spec PyProof.Rows
section
variable {X:Cx}
end
end L2
namespace L2
open PySem PySem.Spec PyProof.Rows
section
variable {κ:Type} [DecidableEq κ]
def y4A (kvs:List (κ×V)) (k:κ):Option V:=(kvs.find? fun kv=>decide (kv.1=k)).map (·.2)
def z9G (kvs:List (κ×V)) (k:κ) (v:V):List (κ×V):=
 if (kvs.any fun kv=>decide (kv.1=k))=true then kvs.map (fun kv=>if kv.1=k then (kv.1,v) else kv) else kvs++[(k,v)]
theorem z8q {p:κ×V}{r:List (κ×V)}{k:κ} (e:p.1=k):y4A (p::r) k=some p.2:=by simp[y4A,List.find?_cons,e]
theorem z8r {p:κ×V}{r:List (κ×V)}{k:κ} (e:¬p.1=k):y4A (p::r) k=y4A r k:=by simp[y4A,List.find?_cons,e]
theorem z8s (k:κ):∀kvs:List (κ×V),(kvs.any fun kv=>decide (kv.1=k))=(y4A kvs k).isSome
 |[]=>rfl
 |p::r=>by
  rw[List.any_cons]
  by_cases e:p.1=k
  ·simp only[z8q e,decide_eq_true e,Bool.true_or,Option.isSome_some]
  ·rw[z8r e,decide_eq_false e,Bool.false_or];exact z8s k r
theorem z4o (kvs:List (κ×V)) (k:κ) (v:V):(z9G kvs k v).length ≤kvs.length+1:=by
 unfold z9G
 split
 ·rw[q0a];lia
 ·rw[q0l,q0u,List.length_nil];lia
theorem RelO.isSome_eq {o:Option V}{u:Option Value} (r:RelO o u):o.isSome=u.isSome:=by
 cases o with
 |none=>cases u with
  |none=>rfl
  |some _=>exact (show False from r).elim
 |some _=>cases u with
  |none=>exact (show False from r).elim
  |some _=>rfl
theorem KV.any {kvs:List (κ×V)}{vs:List (κ×Value)} (r:KV kvs vs) (k:κ):(kvs.any fun kv=>decide (kv.1=k))=vs.any fun kv=>decide (kv.1=k):=by
 unfold KV at r
 induction r with
 |nil=>rfl
 |cons h t ih=>rw[List.any_cons,List.any_cons,ih,h.1]
theorem KV.repl {kvs:List (κ×V)}{vs:List (κ×Value)} (r:KV kvs vs) (k:κ) {y:V}{u:Value} (ry:RelV y u):
 KV (kvs.map fun kv=>if kv.1=k then (kv.1,y) else kv) (vs.map fun kv=>if kv.1=k then (kv.1,u) else kv):=by
 unfold KV at r ⊢
 induction r with
 |nil=>exact .nil
 | @cons p q ps qs h t ih=>
   rw[q0L,q0L]
   refine .cons ?_ ih
   obtain⟨h1,h2⟩:=h
   by_cases e:p.1=k
   ·rw[if_pos e,if_pos (h1.symm.trans e)];exact⟨h1,ry⟩
   ·rw[if_neg e,if_neg (fun z=>e (h1.trans z))];exact⟨h1,h2⟩
theorem KV.put {kvs:List (κ×V)}{vs:List (κ×Value)} (r:KV kvs vs) (k:κ) {y:V}{u:Value} (ry:RelV y u):KV (z9G kvs k y) (stored vs k u):=by
 unfold z9G stored
 rw[r.any k]
 by_cases e:(vs.any fun kv=>decide (kv.1=k))=true
 ·rw[if_pos e,if_pos e];exact r.repl k ry
 ·rw[if_neg e,if_neg e];exact Paired.snoc r ⟨rfl,ry⟩
theorem KV.length {kvs:List (κ×V)}{vs:List (κ×Value)} (r:KV kvs vs):kvs.length=vs.length:=Paired.length r
end
theorem y6E {P:Program}{w:World}{k:Key}{u:Value} (r:RelV (kV k) u):(z0Q P w).is k u=true:=by
 cases k with
 |inl i=>obtain⟨t,e⟩:=(show ∃t,u=Value.int i t from r);subst e;exact z7U P w i t
 |inr x=>obtain⟨t,e⟩:=(show ∃t,u=Value.str x t from r);subst e;exact z7T P w x t
theorem z6W {P:Program}{w:World}:∀{ks:List Key}{us:List Value},Vals (ks.map kV) us→ItemsAre (z0Q P w) ks us
 |[],_,r=>by rw[List.map_nil] at r;cases r;exact .nil
 |k::ks,_,r=>by
  rw[q0L] at r
  cases r with
  |cons h t=>exact .cons (y6E h) (z6W t)
abbrev KT (H:Hp):List (List Key×V)→List (List Key×Addr×Value)→Prop:=Paired fun p q=>p.1=q.1∧H q.2.1=some (.tup (p.1.map kV))∧RelV p.2 q.2.2
theorem KT.val {H:Hp}{kvs:List (List Key×V)}{xs:List (List Key×Addr×Value)} (r:KT H kvs xs) (k:List Key):RelO (y4A kvs k) ((atKey xs k).map (·.2)):=by
 induction r with
 |nil=>exact True.intro
 | @cons p q ps qs h t ih=>
   obtain⟨h1,_,h2⟩:=h
   by_cases e:p.1=k
   ·have e':q.1=k:=h1.symm.trans e
    have b:atKey (q::qs) k=some q.2:=by simp[atKey,List.find?_cons,e']
    rw[z8q e,b];exact h2
   ·have e':¬q.1=k:=fun z=>e (h1.trans z)
    have b:atKey (q::qs) k=atKey qs k:=by simp[atKey,List.find?_cons,e']
    rw[z8r e,b];exact ih
theorem KT.repl {H:Hp}{kvs:List (List Key×V)}{xs:List (List Key×Addr×Value)} (r:KT H kvs xs) (k:List Key) {y:V}{u:Value} (ry:RelV y u):
 KT H (kvs.map fun kv=>if kv.1=k then (kv.1,y) else kv) (xs.map (putAt k u)):=by
 induction r with
 |nil=>exact .nil
 | @cons p q ps qs h t ih=>
   rw[q0L,q0L]
   refine .cons ?_ ih
   obtain⟨h1,h2,h3⟩:=h
   unfold putAt
   by_cases e:p.1=k
   ·rw[if_pos e,if_pos (h1.symm.trans e)];exact⟨h1,h2,ry⟩
   ·rw[if_neg e,if_neg (fun z=>e (h1.trans z))];exact⟨h1,h2,h3⟩
theorem KT.put {H:Hp}{kvs:List (List Key×V)}{xs:List (List Key×Addr×Value)} (r:KT H kvs xs) (k:List Key) {b:Addr}{y:V}{u:Value} (hb:H b=some (.tup (k.map kV))) (ry:RelV y u):
 KT H (z9G kvs k y) (storedH xs k b u):=by
 have e:(kvs.any fun kv=>decide (kv.1=k))=(atKey xs k).isSome :=by
  rw[z8s,(r.val k).isSome_eq,Option.isSome_map]
 unfold z9G storedH
 rw[e]
 by_cases q:(atKey xs k).isSome =true
 ·rw[if_pos q,if_pos q];exact r.repl k ry
 ·rw[if_neg q,if_neg q];exact Paired.snoc r ⟨rfl,hb,ry⟩
theorem KT.keeps {H H':Hp}{kvs:List (List Key×V)}{xs:List (List Key×Addr×Value)} (r:KT H kvs xs) (ht:∀b ys,H b=some (.tup ys)→H' b=some (.tup ys)):KT H' kvs xs:=
 Paired.mapP r fun _ _ z=>⟨z.1,ht _ _ z.2.1,z.2.2⟩
section
variable {P:Program}{w:World}{H:Hp}{h:Heap}{a:Addr}
theorem y6b {u:HO} (ok:HOk P w H h) (e:Rd H a u):ObjOk P w H h a u:=e.ok ok
theorem dk_rd {kvs:List (Key×V)} (ok:HOk P w H h) (e:Rd H a (.dK kvs)):kvs.length≤sizeLine∧(a==sysModules)=false∧∃vs,KV kvs vs∧h.DictOf (z0Q P w) a vs:=
 show ObjOk P w H h a (.dK kvs) from y6b ok e
theorem dk_of {kvs:List (Key×V)} (ok:HOk P w H h) (e:H a=some (.dK kvs)):kvs.length≤sizeLine∧(a==sysModules)=false∧∃vs,KV kvs vs∧h.DictOf (z0Q P w) a vs:=dk_rd ok (.inl e)
theorem y1I {ks:List Key} (ok:HOk P w H h) (e:H a=some (.tup (ks.map kV))):(tupleKind (z0Q P w)).is h ks a:=by
 obtain⟨_,its,r,o,h1,h2,n,h3⟩:=(show ObjOk P w H h a (.tup (ks.map kV)) from ok a _ e)
 exact⟨o,its.toArray,n,h1,h2,h3,by simpa using z6W r⟩
theorem dt_rd {kvs:List (List Key×V)} (ok:HOk P w H h) (e:Rd H a (.dT kvs)):kvs.length≤sizeLine∧(a==sysModules)=false∧
 ∃xs,KT H kvs xs∧h.DictOfH (tupleKind (z0Q P w)) a xs:=by
 obtain⟨z,y,xs,r,o,es,ep,h1,h2,h3,h4,h5⟩:=(show ObjOk P w H h a (.dT kvs) from y6b ok e)
 refine⟨z,y,xs,r,o,es,ep,h1,h2,h3,h4,fun x hx=>?_,h5⟩
 have all:∀{l:List (List Key×V)}{m:List (List Key×Addr×Value)},KT H l m→∀x∈m,(tupleKind (z0Q P w)).is h x.1 x.2.1:=by
  intro l m q
  induction q with
  |nil=>intro x hx;exact nomatch hx
  | @cons p q ps qs hq t ih=>
    intro x hx
    rcases q0t.mp hx with e|hx
    ·subst e
     exact y1I ok (by rw[←hq.1];exact hq.2.1)
    ·exact ih x hx
 exact all r x hx
theorem y6R {kvs:List (List Key×V)} (ok:HOk P w H h) (e:H a=some (.dT kvs)):kvs.length≤sizeLine∧(a==sysModules)=false∧
 ∃xs,KT H kvs xs∧h.DictOfH (tupleKind (z0Q P w)) a xs:=dt_rd ok (.inl e)
end
def DPut (H:Hp) (a:Addr) (y v:V) (H':Hp):Prop:=
 (∃kvs k,H a=some (.dK kvs)∧y=kV k∧kvs.length<sizeLine∧H'=upd H a (.dK (z9G kvs k v)))∨
 ∃kvs k b,H a=some (.dT kvs)∧y= .ref b∧H b=some (.tup (k.map kV))∧kvs.length<sizeLine∧H'=upd H a (.dT (z9G kvs k v))
theorem DPut.t {H:Hp}{a b:Addr}{kvs:List (List Key×V)}{k:List Key}{v:V} (e:H a=some (.dT kvs)) (eb:H b=some (.tup (k.map kV))) (hl:kvs.length<sizeLine):
 DPut H a (.ref b) v (upd H a (.dT (z9G kvs k v))):= .inr ⟨kvs,k,b,e,rfl,eb,hl,rfl⟩
section
variable {X:Cx}{pins:List (Addr×Obj)}{σ:St}{H:Hp}{s:Shared}{a:Addr}{y v:V}{u r:Value}{o:Option V}{A:Around}{E:Value→Shared→Prop}
theorem Inv.big (I:Inv X pins σ H s):sysModules<s.heap.objs.size:=by
 have h:mainGlobals<s.heap.objs.size:=(I.mod.glob.keeps I.bk).lt
 exact Nat.lt_trans (by decide) h
theorem z4A {h':Heap}{t':Nat}{ob:HO} (I:Inv X pins σ H s) (mu:Mut (H a)) (hs:Heap.SameBut a s.heap h') (he:∃q,h'.get? a=some q) (new:ObjOk X.prog X.w (upd H a ob) h' a ob):
 Inv X pins σ (upd H a ob) {s with heap:=h',toks:=t'}:=
 I.write (x:=a) (e:=a) mu (.inl rfl) (fun b q hb z=>(hs.2 b hb).trans z) he new
theorem y6T {P:Program}{w:World}{H':Hp}{h':Heap}{kvs:List (Key×V)}{vs:List (Key×Value)} (z:kvs.length≤sizeLine) (hd:(a==sysModules)=false) (rel:KV kvs vs) (dd:h'.DictOf (z0Q P w) a vs):
 ObjOk P w H' h' a (.dK kvs):=⟨z,hd,vs,rel,dd⟩
theorem y2v {H':Hp}{Q:Unit→Shared→Prop} (hu:A.units+1<cLine) (I:Inv X pins σ H s) (g:DPut H a y v H') (ry:RelV y u) (rv:RelV v r) (h:∀s',Inv X pins σ H' s'→Q () s'):
 wpAny (model X.prog X.w) A (setItem (.ref a) u r) Q E s:=by
 rcases g with⟨kvs,k,e,ey,l,eH⟩|⟨kvs,k,b,e,ey,eb,l,eH⟩
 ·subst ey eH
  obtain⟨z,hd,vs,rel,dd⟩:=dk_of I.hok e
  have hz:vs.length≤sizeLine:=by rw[←rel.length];exact z
  have hl:(z9G kvs k v).length ≤sizeLine:=by have:=z4o kvs k v;lia
  refine wpAny_setItem_pairs (hsz:=hz) (y6E ry) dd fun h' dd' hs=>h _ ?_
  have he:∃q,h'.get? a=some q:=let ⟨q,_,_,hq,_⟩:=dd';⟨q,hq⟩
  exact z4A I (by rw[e];exact True.intro) hs he (y6T hl hd (rel.put k rv) dd')
 ·subst ey eH
  cases (show u=Value.ref b from ry)
  obtain⟨z,hd,xs,rel,dd⟩:=y6R I.hok e
  have hz:xs.length≤sizeLine:=by rw[←Paired.length rel];exact z
  have hl:(z9G kvs k v).length ≤sizeLine:=by have:=z4o kvs k v;lia
  refine wpAny_setItem_heap (hsz:=hz) (tupleKind_room_in1 hu) (y1I I.hok eb) dd fun h' dd' hs=>h _ ?_
  obtain⟨q,es,ep,hq,h2,h3,h4,_,h5⟩:=dd'
  refine z4A I (by rw[e];exact True.intro) hs ⟨q,hq⟩ ⟨hl,hd,_,(rel.put k eb rv).keeps fun c ys ec=>?_,q,es,ep,hq,h2,h3,h4,h5⟩
  rw[z0i (ne_of ec e (fun z=>nomatch z))]
  exact ec
end
section
variable {X:Cx}{pins:List (Addr×Obj)}{σ:St}{H:Hp}{s:Shared}{a:Addr}{kvs:List (Key×V)}{k:Key}{u:Value}{A:Around}{E:Value→Shared→Prop}
end
def sDPut (td ty tv:TE):TS:=fun D σ H=>tv σ H fun v H1=>td σ H1 fun x H2=>ty σ H2 fun y H3=>∃a H4,x= .ref a∧DPut H3 a y v H4∧D.nx σ H4
section
variable {X:Cx}{o i e value:Expr}{pos pos' tpos:Pos}{td ty tv:TE}
theorem y4X (hu:X.A.units+1<cLine) (ho:PE X o td) (hi:PE X i ty) (hv:PE X value tv) (hs:swapsWith value (some (.Subscript o i pos')) pos.line X.env=pure false):
 PS X (.Assign [.Subscript o i pos'] value pos) (sDPut td ty tv):=by
 intro pins s σ H D I h
 refine wpAny_Assign_Subscript (thn (hv pins s σ H _ I h) fun r s1 ⟨v,H1,I1,rv,q1⟩=>thn (ho pins s1 σ H1 _ I1 q1) fun u s2 ⟨x,H2,I2,rx,q2⟩=>thn (hi pins s2 σ H2 _ I2 q2) fun iv s3 ⟨y,H3,I3,ry,a,H4,ex,g,q3⟩=>?_) hs
 subst ex
 obtain rfl:u=Value.ref a:=rx
 exact y2v hu I3 g ry rv fun s4 I4=>⟨σ,H4,I4,q3⟩
end
theorem y3A {P:Program}{w:World}{H:Hp} (h:Heap) (hb:sysModules<h.objs.size):ObjOk P w H (h.push {cls:= .type "dict",data:= .dict #[]}) h.objs.size (.dT []):=
 ⟨q0K _,beq_eq_false_iff_ne.mpr (Ne.symm (q0v hb)),[],.nil,_,#[],0,q0o _ rfl,⟨rfl,rfl,rfl⟩,rfl,rfl,List.nodup_nil⟩
def y5Q:TE:=fun _ H Q=>∀p,H p=none→Q (.ref p) (upd H p (.dT []))
section
variable {X:Cx}{pos:Pos}
theorem y3h:PE X (.Dict [] [] pos) y5Q:=fun pins s σ H Q I h=>
 wpAny_Dict_empty ⟨.ref s.heap.objs.size,_,I.laid (a:=s.heap.objs.size) (o:= .dT []) (t':=s.toks) (fun _ _ q=>q0d _ q) (q0k _) (y3A s.heap I.big),rfl,h _ (I.hok.fresh (q0k _))⟩
end
end L2
namespace L2
open PySem PySem.Spec PyProof.Rows
section
theorem y2R {M:Model}{A:Around}{E:Value→Shared→Prop}{s:Shared}{Q:Value→Shared→Prop}
 (q:∀(h':Heap) (e:Addr),(∀b o,s.heap.get? b=some o→h'.get? b=some o)→(∃oe,h'.get? e=some oe∧oe.cls= .type "StopIteration")→Q (.ref e) {s with heap:=h'}):
 wpAny M A (newExc (Value.type "StopIteration") []) Q E s:=by
 rw[newExc.eq_1]
 obtain⟨hp,g,d,tk,os⟩:=s
 unfold newTuple
 refine wpAny_bind (wpAny_newObj_type ?_ (by size_fits))
 have:firstArgMember (Value.type "StopIteration") []=pure Value.none:=by
  with_unfolding_all rfl
 rw[this]
 refine wpAny_bind (wpAny_pure ?_)
 refine wpAny_newObj_type ?_ (by size_fits)
 refine q _ _ (fun b o e=>q0d _ (q0d _ e)) ⟨_,q0o _ rfl,rfl⟩
variable {prog:Program}{w:World}{A:Around}{E:Value→Shared→Prop}{s:Shared}{it d:Addr}{i n ep:Nat}{o:Obj}{es:Array DictEntry}{e:DictEntry}
section
variable {Q:Option Value→Shared→Prop}
theorem z9a (hI:s.heap.IsKeyIter it d i n ep) (hd:s.heap.get? d=some o) (ho:o.data= .dict es ep) (hn:es.size=n) (he:es[i]? =some e)
 (q:∀h',h'.IsKeyIter it d (i+1) n ep→Heap.ExtBut it s.heap h'→Q (some e.key) {s with heap:=h'}):wpAny (model prog w) A (pyNext (.ref it)) Q E s:=by
 unfold pyNext
 refine wpAny_bind (wpAny_attempt (wpAny_callSpecial?_slot hI.typeIs F.slot_dict_keyiterator_next (call_meetsIn F.slot_dict_keyiterator_next hI.typeIs F.entry_dict_keyiterator_next (F.args_dict_keyiterator_next_1 _) (S:=fun A R s=>wpAny (model prog w) A.in1 (Builtin.«dict_keyiterator.__next__» {pos:=[Value.ref it]}) (fun fin s'=>
  match fin with
  |Fin.done f=>R (Except.ok f) s'
  |Fin.again c'=>c'.quiet=true∧codeAny (model prog w) A c' R s')
        (fun e s'=>R (Except.error e) s') s) (fun _ _ _ h=>h) ?_)))
 obtain⟨oi,h1,h2,h3⟩:=hI
 have hT:s.TypeIs (Value.ref it) "dict_keyiterator":=Heap.IsKeyIter.typeIs (d:=d) (i:=i) (n:=n) (ep:=ep) ⟨oi,h1,h2,h3⟩
 show wpAny _ _ (Builtin.Dict_items.slot0 "__next__" {pos:=[Value.ref it]}>>= _) _ _ s
 refine wpAny_bind ?_
 show wpAny _ _ (pure (Value.ref it)) _ _ s
 refine wpAny_pure ?_
 refine wpAny_bind ?_
 have hbase:∀{s:Shared}{Q:Nat→Shared→Prop}{E:Value→Shared→Prop},s.TypeIs (Value.ref it) "dict_keyiterator"→Q 0 s→wpAny (model prog w) A.in1 (typeNameOfWhole (Value.ref it)>>= fun n=>pure (if Builtin.Dict_items.ownsTuple n=true then 2 else 0)) Q E s:=fun hT q=>
  wpAny_bind (wpAny_typeNameOfWhole_keyiter hT (wpAny_pure q))
 show wpAny _ _ ((typeNameOfWhole (Value.ref it)>>= fun n=>pure (if Builtin.Dict_items.ownsTuple n=true then 2 else 0))>>= _) _ _ s
 refine wpAny_bind (hbase hT ?_)
 refine wpAny_bind (wpAny_fieldsOf h1 h3 ?_)
 show wpAny _ _ (Builtin.Dict_items.addrOf (Value.ref d)>>= _) _ _ s
 refine wpAny_bind (wpAny_pure ?_)
 refine wpAny_bind (wpAny_dictEntries hd ho ?_)
 dsimp only
 rw[if_neg (by rw[hn];simp)]
 refine wpAny_bind (wpAny_pure ?_)
 refine wpAny_bind (wpAny_dictEpoch hd ho ?_)
 rw[if_neg (by simp)]
 refine wpAny_pure ?_
 dsimp only
 rw[if_neg (by lia),q0S,he]
 dsimp only
 refine wpAny_bind (hbase hT ?_)
 refine wpAny_bind (wpAny_isOneOf_keyiter hT ?_)
 rw[if_neg (by decide)]
 have hsz:0+1<(#[Value.ref d,Value.int (i:Int) 0,Value.int (n:Int) 0,Value.int (ep:Int) 0]:Array Value).size :=(by show 0+1<4;decide)
 refine wpAny_bind (wpAny_setField h1 h3 hsz ?_)
 have m1:=z2l h3 (·.setIfInBounds (0+1) (rawInt ((i:Int)+1)))
 have e2:(s.heap.update it (Obj.mapFields (·.setIfInBounds (0+1) (rawInt ((i:Int)+1))))).get? it=some {oi with data:= .fields #[Value.ref d,Value.int ((i+1:Nat):Int) 0,Value.int (n:Int) 0,Value.int (ep:Int) 0]}:=by
  have:=q1S (Obj.mapFields (·.setIfInBounds (0+1) (rawInt ((i:Int)+1)))) h1 (Obj.isFreed_of_fields (Obj.data_mapFields h3 _))
  rw[m1] at this
  exact this
 have kI:(s.heap.update it (Obj.mapFields (·.setIfInBounds (0+1) (rawInt ((i:Int)+1))))).IsKeyIter it d (i+1) n ep:=⟨_,e2,h2,rfl⟩
 have sb:Heap.ExtBut it s.heap (s.heap.update it (Obj.mapFields (·.setIfInBounds (0+1) (rawInt ((i:Int)+1))))):=fun b u hb e=>by rw[q0N _ _ (Ne.symm hb)];exact e
 refine wpAny_bind (wpAny_holding ?_)
 show wpAny _ _ (Builtin.Dict_items.isOneOf (Value.ref it) ["dict_keyiterator","dict_reversekeyiterator"]>>= _) _ _ _
 refine wpAny_bind (wpAny_isOneOf_keyiter kI.typeIs ?_)
 rw[if_pos (by decide)]
 refine wpAny_pure ?_
 refine wpAny_pure ?_
 refine wpAny_pure ?_
 exact q _ kI sb
theorem y1J (hI:s.heap.IsKeyIter it d i n ep) (hd:s.heap.get? d=some o) (ho:o.data= .dict es ep) (hn:es.size=n) (he:es[i]? =none) (hh:A.handled=none)
 (q:∀h',Heap.ExtBut it s.heap h'→Q none {s with heap:=h'}):wpAny (model prog w) A (pyNext (.ref it)) Q E s:=by
 unfold pyNext
 refine wpAny_bind (wpAny_attempt (wpAny_callSpecial?_slot hI.typeIs F.slot_dict_keyiterator_next (call_meetsIn F.slot_dict_keyiterator_next hI.typeIs F.entry_dict_keyiterator_next (F.args_dict_keyiterator_next_1 _) (S:=fun A R s=>wpAny (model prog w) A.in1 (Builtin.«dict_keyiterator.__next__» {pos:=[Value.ref it]}) (fun fin s'=>
  match fin with
  |Fin.done f=>R (Except.ok f) s'
  |Fin.again c'=>c'.quiet=true∧codeAny (model prog w) A c' R s')
        (fun e s'=>R (Except.error e) s') s) (fun _ _ _ h=>h) ?_)))
 obtain⟨oi,h1,h2,h3⟩:=hI
 have hT:s.TypeIs (Value.ref it) "dict_keyiterator":=Heap.IsKeyIter.typeIs (d:=d) (i:=i) (n:=n) (ep:=ep) ⟨oi,h1,h2,h3⟩
 show wpAny _ _ (Builtin.Dict_items.slot0 "__next__" {pos:=[Value.ref it]}>>= _) _ _ s
 refine wpAny_bind ?_
 show wpAny _ _ (pure (Value.ref it)) _ _ s
 refine wpAny_pure ?_
 refine wpAny_bind ?_
 have hbase:∀{s:Shared}{Q:Nat→Shared→Prop}{E:Value→Shared→Prop},s.TypeIs (Value.ref it) "dict_keyiterator"→Q 0 s→wpAny (model prog w) A.in1 (typeNameOfWhole (Value.ref it)>>= fun n=>pure (if Builtin.Dict_items.ownsTuple n=true then 2 else 0)) Q E s:=fun hT q=>
  wpAny_bind (wpAny_typeNameOfWhole_keyiter hT (wpAny_pure q))
 show wpAny _ _ ((typeNameOfWhole (Value.ref it)>>= fun n=>pure (if Builtin.Dict_items.ownsTuple n=true then 2 else 0))>>= _) _ _ s
 refine wpAny_bind (hbase hT ?_)
 refine wpAny_bind (wpAny_fieldsOf h1 h3 ?_)
 show wpAny _ _ (Builtin.Dict_items.addrOf (Value.ref d)>>= _) _ _ s
 refine wpAny_bind (wpAny_pure ?_)
 refine wpAny_bind (wpAny_dictEntries hd ho ?_)
 dsimp only
 rw[if_neg (by rw[hn];simp)]
 refine wpAny_bind (wpAny_pure ?_)
 refine wpAny_bind (wpAny_dictEpoch hd ho ?_)
 rw[if_neg (by simp)]
 refine wpAny_pure ?_
 dsimp only
 rw[if_neg (by lia),q0S,he]
 dsimp only
 refine wpAny_bind (hbase hT ?_)
 have hsz:0<(#[Value.ref d,Value.int (i:Int) 0,Value.int (n:Int) 0,Value.int (ep:Int) 0]:Array Value).size :=(by show 0<4;decide)
 refine wpAny_bind (wpAny_setField h1 h3 hsz ?_)
 have sb:Heap.ExtBut it s.heap (s.heap.update it (Obj.mapFields (·.setIfInBounds 0 Value.none))):=fun b u hb e=>by rw[q0N _ _ (Ne.symm hb)];exact e
 refine wpAny_bind (y2R fun h' e kp ⟨oe,e1,e2⟩=>?_)
 refine wpAny_raiseNew_none hh ?_
 refine wpAny_bind (wpAny_isInstance (T:="StopIteration") ⟨oe,e1,e2⟩ (b:=true) (by with_unfolding_all rfl) ?_)
 rw[if_pos rfl]
 refine wpAny_pure ?_
 exact q _ fun b u hb e=>kp b u (sb b u hb e)
end
theorem z5g {Q:Value→Shared→Prop} (hd:s.heap.get? d=some o) (hc:o.cls= .type "dict") (ho:o.data= .dict es ep) (hs:(d==sysModules)=false)
 (q:Q (.ref s.heap.objs.size) {s with heap:=s.heap.push {cls:= .type "dict_keyiterator",data:= .fields #[.ref d,.int 0 0,.int (es.size:Int) 0,.int (ep:Int) 0]}}):wpAny (model prog w) A (pyIter (.ref d)) Q E s:=by
 have hT:s.TypeIs (Value.ref d) "dict":=⟨o,hd,hc⟩
 refine wpAny_pyIter_slot hT F.slot_dict_iter (call_meetsIn F.slot_dict_iter hT F.entry_dict_iter (F.args_dict_iter_1 _) (S:=fun A R s=>wpAny (model prog w) A.in1 (Builtin.«dict.__iter__» {pos:=[Value.ref d]}) (fun fin s'=>
  match fin with
  |Fin.done f=>R (Except.ok f) s'
  |Fin.again c'=>c'.quiet=true∧codeAny (model prog w) A c' R s')
        (fun e s'=>R (Except.error e) s') s) (fun _ _ _ h=>h) ?_)
 show wpAny _ _ (Builtin.Dict.dictSlotNone "__iter__" {pos:=[Value.ref d]}>>= _) _ _ s
 refine wpAny_bind ?_
 show wpAny _ _ (Builtin.Dict.notOrdered "__iter__" {pos:=[Value.ref d]}>>= _) _ _ s
 refine wpAny_bind ?_
 show wpAny _ _ (typeOf (Value.ref d)>>= _) _ _ s
 refine wpAny_bind (wpAny_typeOf hT ?_)
 rw[if_neg (by decide)]
 refine wpAny_pure ?_
 show wpAny _ _ (pure (Value.ref d)) _ _ s
 refine wpAny_pure ?_
 refine wpAny_bind (wpAny_pure ?_)
 unfold Builtin.Dict.showsAll
 rw[hs]
 refine wpAny_bind ?_
 rw[if_neg (by decide)]
 refine wpAny_pure ?_
 refine wpAny_bind (wpAny_dictEntries hd ho ?_)
 refine wpAny_bind (wpAny_dictEpoch hd ho ?_)
 unfold newFields
 refine wpAny_bind (wpAny_newObj_type ?_ (by size_fits))
 refine wpAny_pure ?_
 exact⟨_,_,⟨_,q0o _ rfl,rfl⟩,F.slot_dict_keyiterator_next.lookup,q⟩
def DAt (d:Addr) (es:Array DictEntry) (ep:Nat) (h:Heap):Prop:=∃o,h.get? d=some o∧o.cls= .type "dict"∧o.data= .dict es ep
theorem y1G (hh:A.handled=none) (I:Addr) (hn:d≠I):Walks prog w A I [I,d] [I] es.size (fun i v=>∃e,es[i]? =some e∧v=e.key) (fun i h=>h.IsKeyIter I d i es.size ep∧DAt d es ep h) where
 sub:=fun b hb=>by rw[q0i.mp hb];exact q0j
 frame:=fun i h h' ⟨⟨oi,a1,a2,a3⟩,⟨o,b1,b2,b3⟩⟩ k=>⟨⟨oi,k _ (by simp) _ a1,a2,a3⟩,⟨o,k _ (by simp) _ b1,b2,b3⟩⟩
 item:=fun i s Q E hi ⟨hI,⟨o,b1,b2,b3⟩⟩ q=>z9a hI b1 b3 rfl (Array.getElem?_eq_getElem hi) fun h' kI x=>q _ h' s.toks ⟨_,Array.getElem?_eq_getElem hi,rfl⟩ ⟨kI,⟨o,x _ _ hn b1,b2,b3⟩⟩ fun b o hb e=>x b o (fun z=>hb (by rw[z];exact q0i.mpr rfl)) e
 done:=fun s Q E ⟨hI,⟨o,b1,b2,b3⟩⟩ q=>y1J hI b1 b3 rfl (Array.getElem?_eq_none (q0k _)) hh fun h' x=>q h' s.toks fun b o hb e=>x b o (fun z=>hb (by rw[z];exact q0i.mpr rfl)) e
 self:=fun i s Q E ⟨hI,_⟩ q=>wpAny_pyIter_keyiter hI q
theorem y1H (hs:(d==sysModules)=false):W.KdlSrc prog w "dict" d d es.size (fun i v=>∃e,es[i]? =some e∧v=e.key) (DAt d es ep) where
 type:=fun s ⟨o,h1,h2,_⟩=>⟨o,h1,h2⟩
 there:=fun h ⟨o,h1,_,_⟩=>⟨q0n h1,q0n h1⟩
 keep:=fun h h' ⟨o,h1,h2,h3⟩ k=>⟨o,k _ (.inl rfl) _ h1,h2,h3⟩
 notList:=by decide
 notTuple:=by decide
 hint:=fun A E s Q ⟨o,h1,h2,_⟩ q=>W.kdl_hint_dict ⟨o,h1,h2⟩ q
 iter:=fun A s hh ⟨o,h1,h2,h3⟩=>⟨_,_,fun E Q q=>z5g h1 h2 h3 hs q,y1G hh _ (q0v (q0n h1)),⟨_,q0o _ rfl,rfl,rfl⟩,⟨o,q0d _ h1,h2,h3⟩⟩
end
section
variable {X:Cx}
def y6W:List V→Hp→VK→Prop:=fun xs H Q=>∃(a:Addr) (kvs:List (List Key×V)),xs=[.ref a]∧H a=some (.dT kvs)∧kvs.length≤1000∧∀(l:Addr) (bs:List Addr),H l=none→bs.length=kvs.length→
 (∀(i:Nat) (b:Addr) (k:List Key) (v:V),bs[i]? =some b→kvs[i]? =some (k,v)→H b=some (.tup (k.map kV)))→Q (.ref l) (upd H l (.lst (bs.map V.ref)))
theorem z4j:∀(bs:List Addr) (us:List Value),us.length=bs.length→(∀(i:Nat) (u:Value),us[i]? =some u→∃b,bs[i]? =some b∧u= .ref b)→Vals (bs.map V.ref) us
 |[],us,h,_=>by
  have:us=[]:=q1b.mp h
  subst this
  exact .nil
 |b::bs,[],h,_=>by simp at h
 |b::bs,u::us,h,hx=>by
  obtain⟨b',e1,e2⟩:=hx 0 u rfl
  have e3:b=b':=by simpa using e1
  subst e3
  rw[q0L]
  exact .cons (by rw[e2];rfl) (z4j bs us (by simpa using h) fun i u hu=>by
   obtain⟨b',z1,z2⟩:=hx (i+1) u (by simpa using hu)
   exact⟨b',by simpa using z1,z2⟩)
theorem kt_at {H:Hp}{kvs:List (List Key×V)}{xs:List (List Key×Addr×Value)} (r:KT H kvs xs):∀(i:Nat) (b:Addr) (k:List Key) (v:V),(xs.map (·.2.1))[i]? =some b→kvs[i]? =some (k,v)→H b=some (.tup (k.map kV)):=by
 induction r with
 |nil=>intro i b k v h;simp at h
 | @cons p q ps qs h t ih=>
   intro i b k v h1 h2
   cases i with
   |zero=>
    have e1:q.2.1=b:=by simpa using h1
    have e2:p=(k,v):=by simpa using h2
    subst e2
    rw[←e1];exact h.2.1
   |succ i=>exact ih i b k v (by simpa using h1) (by simpa using h2)
theorem y0e (hc:X.calm=true):z1x X (.type "list") y6W:=by
 intro pins s σ H xs us Q I r h
 obtain⟨a,kvs,rfl,ha,hn,q⟩:=h
 obtain⟨u,rfl,rx⟩:=r.one
 cases rx
 obtain⟨z,hd,ys,rel,o,es,ep,h1,h2,h3,h4,h5,h6⟩:=y6R I.hok ha
 have hl:es.size=ys.length:=by rw[←q0V,h4,q0a]
 have hl2:kvs.length=ys.length:=Paired.length rel
 have hz:sizeLine=16777216:=sizeLine_eq
 refine W.kdl_call (y1H (es:=es) (ep:=ep) hd) (I.ok.hd hc) ⟨o,h1,h2.1,h3⟩ (by lia) fun h' tk acc' c' kp e itm=>?_
 have rv:Vals ((ys.map (·.2.1)).map V.ref) acc'.toList:=by
  refine z4j _ _ (by rw[q0a,q0V,itm.1,hl]) fun i u hu=>?_
  obtain⟨en,e1,e2⟩:=itm.2 i u (by rw[←Array.getElem?_toList];exact hu)
  have e3:(es.toList)[i]? =some en:=by rw[Array.getElem?_toList];exact e1
  rw[h4,q0g] at e3
  obtain⟨y,y1,y2⟩:=q0r.mp e3
  exact⟨y.2.1,by rw[q0g,y1];rfl,by rw[e2,←y2];rfl⟩
 refine⟨.ref s.heap.objs.size,_,I.laid (o:= .lst ((ys.map (·.2.1)).map V.ref)) (t':=tk) kp (q0k _) ?_,rfl,q _ _ (I.hok.fresh (q0k _)) (by rw[q0a];lia) (kt_at rel)⟩
 exact⟨by rw[q0a,q0a];lia,acc'.toList,c',rv,by simpa using e⟩
end
end L2
namespace L2
open PySem PySem.Spec PyProof.Rows
section
variable {X:Cx}
end
end L2
namespace L2
open PySem PySem.Spec PySem.W PyProof.Rows
section
variable {X:Cx}{mth cx n:Str}{apos cpos xpos hp hpos tpos:Pos}{o e:Expr}{es:List Expr}{tob:TE}{ta:TA}{k j:Nat}{ps:List Str}{sp:Sp}{W C0 g:Addr}{gd:FuncData}{st0:Stmt}{ts:TS}
end
end L2
namespace L2
open PySem PySem.Spec PyProof.Rows
section
variable {X:Cx}
end
end L2
namespace L2
open PySem PySem.Spec PyProof.Rows
theorem z0X {δ:Type}{J:It}{n:Nat}{Ok:Hp→Prop}{xs:List V} (ds:List δ) (hx:n=ds.length) (R:z6m J n Ok (fun i H x H'=>H'=H∧xs[i]? =some x)) {fr:List (Option Nat)}{g:TG}{tt:TT}{te:TE}{σ:St}{H1:Hp}{Q:VK}{D:Addr} (hD:H1 D=none) (pt:δ→St→St) (hpt:∀d e σ,pt d (pt e σ)=pt d σ) (tst:δ→Bool) (Rel:Hp→δ→V→Prop)
 (hrel:∀H H' d u,(∀b o,b≠D→H b=some o→H' b=some o)→(∃acc,H D=some (.lst acc))→Rel H d u→Rel H' d u)
 (hok:∀H,Same H1 H→Ok H) (hn:n≤sizeLine)
 (hg:∀(i:Nat) x d,xs[i]? =some x→ds[i]? =some d→∀σ H,Same H1 H→∀S:St→Hp→Prop,S (pt d σ) H→g x σ H S)
 (ht:∀d∈ds,∀Hc,Same H1 Hc→∀S:Bool→Hp→Prop,(∀H',Same Hc H'→S (tst d) H')→tt (pt d (z0C fr σ)) Hc S)
 (hv:∀d∈ds,tst d=true→∀Hc,Same H1 Hc→(∃acc,Hc D=some (.lst acc))→∀S:VK,(∀u H',Same Hc H'→Rel H' d u→S u H')→te (pt d (z0C fr σ)) Hc S)
 (q:∀us H',Same H1 H'→H' D=some (.lst us)→Each (Rel H') (ds.filter tst) us→Q (.ref D) H'):
 z3C J g tt te Q D (z0C fr σ) (upd H1 D (.lst [])):=by
 subst hx
 refine z4C R (fun i acc σ' H'=>((∃e,σ'=pt e (z0C fr σ))∨σ'=z0C fr σ)∧Same H1 H'∧H' D=some (.lst acc)∧Each (Rel H') ((ds.take i).filter tst) acc) ⟨.inr rfl,z0e hD _,z0b,.nil⟩ ?_ hn ?_ ?_
 ·rintro i acc σ' H' hi ⟨_,hs,_,he⟩
  refine⟨hok _ hs,?_⟩
  rw[←he.length]
  refine q0m (q1q _ _) ?_
  rw[q0q];lia
 ·rintro N i x acc σ' H' H'' hi ⟨hσ,hs,hd,he⟩ ⟨rfl,hx⟩ n1 n2
  have hdi:ds[i]? =some ds[i]:=q0c hi
  have hm:ds[i]∈ds:=q0w hi
  generalize ds[i]=d at hdi hm
  have es:pt d σ'=pt d (z0C fr σ):=by
   rcases hσ with⟨e,rfl⟩|rfl
   ·rw[hpt]
   ·rfl
  refine hg i x d hx hdi _ _ hs _ ?_
  rw[es]
  have tk:ds.take (i+1)=ds.take i++[d]:=by rw[q0E,hdi];rfl
  refine ht d hm _ hs _ fun H3 g3=>?_
  have hs3:=hs.trans g3
  have hd3:=g3 _ _ hd
  have he3:Each (Rel H3) ((ds.take i).filter tst) acc:=he.imp fun a b h=>hrel _ _ _ _ (fun c o _ e=>g3 _ _ e) ⟨_,hd⟩ h
  cases hb:tst d with
  |true=>
   refine z5h ?_
   refine hv d hm hb _ hs3 ⟨_,hd3⟩ _ fun u H4 g4 hr=>?_
   have hd4:=g4 _ _ hd3
   refine n1 _ _ _ hd4 ⟨.inl ⟨_,rfl⟩,fun c o e=>?_,z0b,?_⟩
   ·rw[z0i (z0g e hD)];exact g4 _ _ (hs3 _ _ e)
   ·have up:∀a b,Rel H4 a b→Rel (upd H4 D (.lst (acc++[u]))) a b:=fun a b h=>hrel _ _ _ _ (fun c o hc e=>by rw[z0i hc];exact e) ⟨_,hd4⟩ h
    rw[tk,q0U,q1t hb]
    exact ((he3.imp fun a b h=>up a b (hrel _ _ _ _ (fun c o _ e=>g4 _ _ e) ⟨_,hd3⟩ h)).snoc (up _ _ hr))
  |false=>
   refine z3t ?_
   refine n2 _ _ ⟨.inl ⟨_,rfl⟩,hs3,hd3,?_⟩
   rw[tk,q0U,q1u (by simp[hb])]
   simpa using he3
 ·rintro acc σ' H' ⟨_,hs,hd,he⟩
  rw[q0P] at he
  exact q acc H' hs hd he
theorem z3Z (a b c d:Option V) (σ:St):(((σ.set 0 a).set 1 b).set 0 c).set 1 d=(σ.set 0 c).set 1 d:=by
 rw[List.set_comm _ _ (show (1:Nat)≠0 by decide),q1Q,q1Q]
end L2
namespace L2
open PySem PySem.Spec PyProof.Rows
section
variable {prog:Program}{w:World}{K:Type} [DecidableEq K] (hk:HeapKind prog w K)
inductive Items2 (h:Heap):List K→List Value→Prop
 |nil:Items2 h [] []
 |cons {k:K}{a:Addr}{ks:List K}{vs:List Value}:hk.is h k a→Items2 h ks vs→Items2 h (k::ks) (.ref a::vs)
def IsTup2 (h:Heap) (ks:List K) (a:Addr):Prop:=∃o items n,h.get? a=some o∧o.cls= .type "tuple"∧o.data= .seq items n∧Items2 hk h ks items.toList
variable {hk}
theorem Items2.inj {h:Heap}{x y:List K}{vs:List Value} (hx:Items2 hk h x vs) (hy:Items2 hk h y vs):x=y:=by
 induction hx generalizing y with
 |nil=>cases hy;rfl
 |cons h1 _ ih=>
  cases hy with
  |cons h2 t2=>rw[hk.inj h1 h2,ih t2]
theorem Items2.keeps {h h':Heap}{x:List K}{vs:List Value}{d:Addr}{o:Obj} {es ep} (hx:Items2 hk h x vs) (ho:h.get? d=some o) (hd:o.data= .dict es ep) (hs:Heap.SameBut d h h'):Items2 hk h' x vs:=by
 induction hx with
 |nil=>exact .nil
 |cons h1 _ ih=>exact .cons (hk.keeps h1 ho hd hs) ih
theorem IsTup2.typeIs {s:Shared}{ks:List K}{a:Addr} (x:IsTup2 hk s.heap ks a):s.TypeIs (.ref a) "tuple":=let ⟨o,_,_,ho,hc,_⟩:=x;⟨o,ho,hc⟩
theorem IsTup2.inj {h:Heap}{a:Addr}{x y:List K} (hx:IsTup2 hk h x a) (hy:IsTup2 hk h y a):x=y:=by
 obtain⟨o,items,n,ho,_,hd,hi⟩:=hx
 obtain⟨o',items',n',ho',_,hd',hi'⟩:=hy
 obtain rfl:o=o':=Option.some.inj (ho.symm.trans ho')
 rw[hd] at hd'
 injection hd' with h1 _
 subst h1
 exact hi.inj hi'
theorem IsTup2.keeps {h h':Heap}{ks:List K}{a d:Addr}{o:Obj} {es ep} (x:IsTup2 hk h ks a) (ho:h.get? d=some o) (hd:o.data= .dict es ep) (hs:Heap.SameBut d h h'):IsTup2 hk h' ks a:=by
 obtain⟨o',items,n,ho',hc,hd',hi⟩:=x
 have hne:a≠d:=by
  rintro rfl
  obtain rfl:o'=o:=Option.some.inj (ho'.symm.trans ho)
  rw[hd] at hd';exact nomatch hd'
 exact⟨o',items,n,(hs.2 a hne).trans ho',hc,hd',hi.keeps ho hd hs⟩
def z5p (hk:HeapKind prog w K) (ks:List K):Int:=reduceHash (Builtin.Tuple.tupleHashOf (ks.map hk.hash))
variable {A:Around}{E:Value→Shared→Prop}{s:Shared}
theorem y2a {ks:List K}{a:Addr}{Q:Int→Shared→Prop} (hu:A.units+1<cLine) (hroom:hk.room A.in1) (hx:IsTup2 hk s.heap ks a) (h:Q (z5p hk ks) {s with toks:=s.toks+((ks.map hk.draws).sum +1)}):
 wpAny (model prog w) A (pyHash (.ref a)) Q E s:=by
 have hT:=hx.typeIs
 obtain⟨o,items,n,ho,_,hd,hi⟩:=hx
 unfold pyHash
 first|unfold pyHashByItsType|skip
 first|refine wpAny_bind (wpAny_cRoomFor_or (.inr (Nat.lt_of_succ_lt hu)) ?_)|skip
 refine wpAny_bind (wpAny_specialOf hT F.slot_tuple_hash.lookup ?_)
 show wpAny _ _ (if (some (Value.builtin "tuple.__hash__")==some Value.none)=true then _ else _) Q E s
 rw[if_neg (by rw[beq_builtin_none];exact q0z)]
 refine wpAny_bind (wpAny_specialOf hT F.slot_tuple_hash.lookup ?_)
 show wpAny _ _ (callSpecialIfBoundUnlessNone? (.ref a) "__hash__" _>>= _) Q E s
 refine wpAny_bind (wpAny_callSpecialIfBoundUnlessNone?_slot hT F.slot_tuple_hash (wpAny_call_entry F.slot_tuple_hash hT F.entry_tuple_hash ?_ (F.args_tuple_hash_1 _)))
 show wpAny _ _ (Builtin.Tuple.tupleItemsOf (.ref a)>>= _) _ _ s
 refine wpAny_bind (wpAny_tupleItemsOf ho hd ?_)
 refine wpAny_bind ?_
 rw[←q1T]
 refine wpAny_forIn_list _
  (fun rest (b:Array Int) s'=>∃done left,ks=done++left∧Items2 hk s.heap left rest∧b.toList=done.map hk.hash∧s'={s with toks:=s.toks+(done.map hk.draws).sum})
  _ ?_ ?_ _ _ ⟨[],ks,rfl,hi,rfl,rfl⟩
 ·rintro x rest b s' ⟨done,left,rfl,hl,hb,rfl⟩
  cases hl with
  | @cons k a' ks' _ h1 hl'=>
    refine wpAny_bind (hk.pyHash ?_ h1 ?_)
    ·exact hroom
    ·first
      |exact wpAny_pure ⟨done++[k],ks',by simp,hl',by simp[hb],by simp[Nat.add_assoc]⟩
      |exact wpAny_bind (wpAny_pure (wpAny_pure ⟨done++[k],ks',by simp,hl',by simp[hb],by simp[Nat.add_assoc]⟩))
 ·rintro b s' ⟨done,left,rfl,hl,hb,rfl⟩
  cases hl
  rw[q2c] at h
  show wpAny _ _ (retInt (Builtin.Tuple.tupleHashOf b.toList)) _ _ _
  rw[hb]
  refine wpAny_ret_mkInt ?_
  show wpAny _ _ (if (decide (-(2:Int)^63≤Builtin.Tuple.tupleHashOf (done.map hk.hash))&&decide (Builtin.Tuple.tupleHashOf (done.map hk.hash)<2^63))=true then _ else _) Q E _
  unfold z5p reduceHash at h
  by_cases hr:(decide (-(2:Int)^63≤Builtin.Tuple.tupleHashOf (done.map hk.hash))&&decide (Builtin.Tuple.tupleHashOf (done.map hk.hash)<2^63))=true
  ·rw[if_pos hr]
   rw[if_pos hr] at h
   exact wpAny_pure (by simpa[Nat.add_assoc] using h)
  ·rw[if_neg hr]
   rw[if_neg hr] at h
   exact wpAny_bind (wpAny_rule (wpAny_pure (by simpa[Nat.add_assoc] using h)))
theorem y5t {x y:List K}{a b:Addr}{P:Fin→Shared→Prop} (hroom:hk.room A) (hx:IsTup2 hk s.heap x a) (hy:IsTup2 hk s.heap y b) (h:P (.done (.ret (.bool (decide (x=y))))) s):
 wpAny (model prog w) A (Builtin.«tuple.__eq__» ⟨[.ref a,.ref b],[]⟩) P E s:=by
 have hTb:=hy.typeIs
 obtain⟨oa,xs,na,hoa,_,hda,hia⟩:=hx
 obtain⟨ob,ys,nb,hob,_,hdb,hib⟩:=hy
 show wpAny _ _ (isInstance (.ref b) (.type "tuple")>>= _) _ _ s
 refine wpAny_bind (wpAny_isInstance hTb isSubtype_tuple_tuple ?_)
 simp only[Bool.not_true,q1j,if_false]
 refine wpAny_bind (wpAny_tupleItemsOf hoa hda ?_)
 refine wpAny_bind (wpAny_tupleItemsOf hob hdb ?_)
 refine wpAny_bind ?_
 refine wpAny_forIn_list _
  (fun rest r s'=>r.1=none∧s'=s∧∃x' y' xs' ys',rest=List.zip xs' ys'∧Items2 hk s.heap x' xs'∧Items2 hk s.heap y' ys'∧decide (x'=y')=decide (x=y)∧(xs'.length==ys'.length)=(xs.size==ys.size))
  _ ?_ ?_ _ _ ⟨rfl,rfl,x,y,xs.toList,ys.toList,rfl,hia,hib,rfl,by simp⟩
 ·rintro⟨u,v⟩ rest r s' ⟨hr,rfl,x',y',xs',ys',hz,hx',hy',hdec,hlen⟩
  cases hx' with
  |nil=>simp at hz
  | @cons k1 u' x'' xs'' h1 hx''=>
    cases hy' with
    |nil=>simp at hz
    | @cons k2 v' y'' ys'' h2 hy''=>
      simp only[List.zip_cons_cons,List.cons.injEq,Prod.mk.injEq] at hz
      obtain⟨⟨rfl,rfl⟩,rfl⟩:=hz
      refine wpAny_bind (hk.eqBool (x:=k1) (y:=k2) hroom h1 h2 ?_)
      by_cases hkk:k1=k2
      ·subst hkk
       rw[decide_eq_true rfl]
       simp only[Bool.not_true,q1j,if_false]
       refine wpAny_pure ⟨rfl,rfl,x'',y'',xs'',ys'',rfl,hx'',hy'',?_,by simpa using hlen⟩
       rw[←hdec]
       by_cases hxy:x''=y''
       ·simp[hxy]
       ·simp[hxy]
      ·rw[decide_eq_false hkk]
       simp only[Bool.not_false,if_true]
       have hf:decide (x=y)=false:=by rw[←hdec];simp[hkk]
       rw[hf] at h
       exact wpAny_bind (wpAny_pure (wpAny_pure (wpAny_pure h)))
 ·rintro⟨r1,r2⟩ s' ⟨hr,rfl,x',y',xs',ys',hz,hx',hy',hdec,hlen⟩
  simp only at hr
  subst hr
  refine wpAny_pure ?_
  have hfin:(xs.size==ys.size)=decide (x=y):=by
   rw[←hdec,←hlen]
   cases hx' with
   |nil=>
    cases hy' with
    |nil=>simp
    |cons _ _=>simp
   |cons _ _=>
    cases hy' with
    |nil=>simp
    |cons _ _=>simp at hz
  show P (.done (.ret (.bool (xs.size==ys.size)))) s'
  rw[hfin];exact h
theorem z8h {x y:List K}{a b:Addr}{Q:Bool→Shared→Prop} (hu:A.units<cLine) (hroom:hk.room A.in1) (hx:IsTup2 hk s.heap x a) (hy:IsTup2 hk s.heap y b) (h:Q (decide (x=y)) s):
 wpAny (model prog w) A (eqBool (.ref a) (.ref b)) Q E s:=by
 unfold eqBool
 try with_reducible refine wpAny_holding ?_
 show wpAny _ _ (if (Value.ref a==Value.ref b)=true then _ else _) Q E s
 by_cases hab:(Value.ref a==Value.ref b)=true
 ·rw[if_pos hab]
  have e:a=b:=by have:=eq_of_beq hab;injection this
  subst e
  obtain rfl:=hx.inj hy
  exact wpAny_bind (wpAny_rule (wpAny_pure (by simpa using h)))
 ·rw[if_neg hab]
  exact wpAny_bind (wpAny_richCompare_same_room (op:= .Eq) hx.typeIs hy.typeIs F.slot_tuple_eq
   (wpAny_call_entry F.slot_tuple_eq hx.typeIs F.entry_tuple_eq (y5t hroom hx hy ⟨_,rfl,(fun e=>nomatch e),wpAny_truthy_bool h⟩) (F.args_tuple_eq_2 _ _)) hu)
end
section
variable {prog:Program}{w:World}{K:Type} [DecidableEq K] {knd:KeyKind prog w K}{A:Around}{E:Value→Shared→Prop}{s:Shared}
theorem y0W (n:Nat) {ks:List K}{a:Addr}{Q:Bool→Shared→Prop} (hk:IsTupleKey knd s.heap ks a) (h:Q true s):wpAny (model prog w) A (eqIsQuiet (n+1) (.ref a)) Q E s:=by
 have hT:=hk.typeIs
 obtain⟨o,items,n',ho,_,hd,hi⟩:=hk
 unfold eqIsQuiet
 refine wpAny_bind (wpAny_specialOf hT F.slot_tuple_eq.lookup ?_)
 show wpAny _ _ (isInstance (.ref a) (.type "tuple")>>= _) _ _ s
 refine wpAny_bind (wpAny_isInstance hT isSubtype_tuple_tuple ?_)
 simp only[Bool.not_true,q1j,if_false]
 refine wpAny_bind (wpAny_seqItems ho hd ?_)
 refine wpAny_bind ?_
 show wpAny _ _ (forIn items _ _) _ _ s
 rw[←q1T]
 refine wpAny_forIn_list _ (fun rest r s'=>r.1=none∧s'=s∧∀v∈rest,carriedByValue v=true) _ ?_ ?_ _ _ ⟨rfl,rfl,hi.byValue⟩
 ·rintro v rest r s' ⟨hr,rfl,hall⟩
  rw[eqIsQuiet_byValue _ (hall v q0j)]
  refine wpAny_bind (wpAny_pure ?_)
  simp only[Bool.not_true,q1j,if_false]
  exact wpAny_pure ⟨rfl,rfl,fun u hu'=>hall u (q0h _ hu')⟩
 ·rintro⟨r1,r2⟩ s' ⟨hr,rfl,_⟩
  simp only at hr
  subst hr
  exact wpAny_pure h
theorem z9F {ks:List (List K)}{a:Addr}{Q:Bool→Shared→Prop} (hk:IsTup2 (tupleKind knd) s.heap ks a) (h:Q true s):wpAny (model prog w) A (eqIsQuiet 8 (.ref a)) Q E s:=by
 have hT:=hk.typeIs
 obtain⟨o,items,n',ho,_,hd,hi⟩:=hk
 unfold eqIsQuiet
 refine wpAny_bind (wpAny_specialOf hT F.slot_tuple_eq.lookup ?_)
 show wpAny _ _ (isInstance (.ref a) (.type "tuple")>>= _) _ _ s
 refine wpAny_bind (wpAny_isInstance hT isSubtype_tuple_tuple ?_)
 simp only[Bool.not_true,q1j,if_false]
 refine wpAny_bind (wpAny_seqItems ho hd ?_)
 refine wpAny_bind ?_
 show wpAny _ _ (forIn items _ _) _ _ s
 rw[←q1T]
 refine wpAny_forIn_list _ (fun rest r s'=>r.1=none∧s'=s∧∃ks',Items2 (tupleKind knd) s.heap ks' rest) _ ?_ ?_ _ _ ⟨rfl,rfl,ks,hi⟩
 ·rintro v rest r s' ⟨hr,rfl,ks',hall⟩
  cases hall with
  |cons h1 h2=>
   refine wpAny_bind (y0W 6 h1 ?_)
   simp only[Bool.not_true,q1j,if_false]
   exact wpAny_pure ⟨rfl,rfl,_,h2⟩
 ·rintro⟨r1,r2⟩ s' ⟨hr,rfl,_⟩
  simp only at hr
  subst hr
  exact wpAny_pure h
end
def z2Q {prog:Program}{w:World}{K:Type} [DecidableEq K] (knd:KeyKind prog w K):HeapKind prog w (List (List K)) where
 is:=IsTup2 (tupleKind knd)
 hash:=z5p (tupleKind knd)
 draws:=fun ks=>(ks.map (tupleKind knd).draws).sum +1
 room:=fun A=>A.units+1<cLine
 inj:=fun hx hy=>hx.inj hy
 keeps:=fun x ho hd hs=>x.keeps ho hd hs
 pyHash:=fun hu hk h=>y2a hu hu hk h
 eqBool:=fun hu hx hy h=>z8h (Nat.lt_of_succ_lt hu) hu hx hy h
 quiet:=fun hk h=>z9F hk h
end L2
namespace L2
open PySem PySem.Spec PyProof.Rows
abbrev K2:=List (List Key)
def en2 (ks:List (K2×Addr)):List (K2×Addr×Value):=ks.map fun p=>(p.1,p.2,Value.bool true)
def isD2 (P:Program) (w:World) (a:Addr) (ks:List (K2×Addr)) (h:Heap):Prop:=(a==sysModules)=false∧ks.length≤sizeLine∧∃o es ep,h.get? a=some o∧o.ExactDict∧o.data= .dict es ep∧es.toList=(en2 ks).map (entryOfKey (z2Q (z0Q P w)))∧(ks.map (·.1)).Nodup
def D2 (P:Program) (w:World) (a:Addr) (ks:List (K2×Addr)):HO:= .ext (isD2 P w a ks)
def z4N (H:Hp) (k:K2) (a:Addr):Prop:=∃rs:List Addr,H a=some (.tup (rs.map V.ref))∧rs.length=k.length∧∀(i:Nat) (r:Addr) (x:List Key),rs[i]? =some r→k[i]? =some x→H r=some (.tup (x.map kV))
theorem z6X {P:Program}{w:World}{H:Hp}{h:Heap} (ok:HOk P w H h):∀{rs:List Addr}{k:K2}{us:List Value},rs.length=k.length→(∀(i:Nat) (r:Addr) (x:List Key),rs[i]? =some r→k[i]? =some x→H r=some (.tup (x.map kV)))→Vals (rs.map V.ref) us→Items2 (tupleKind (z0Q P w)) h k us
 |[],[],us,_,_,hv=>by cases hv;exact .nil
 |[],_::_,us,hl,_,_=>by simp at hl
 |_::_,[],us,hl,_,_=>by simp at hl
 |r::rs,x::k,us,hl,hx,hv=>by
  rw[q0L] at hv
  cases hv with
  |cons h1 h2=>
   cases h1
   exact .cons (y1I ok (hx 0 r x rfl rfl)) (z6X ok (by simpa using hl) (fun i r' x' e1 e2=>hx (i+1) r' x' (by simpa using e1) (by simpa using e2)) h2)
theorem z8c {P:Program}{w:World}{H:Hp}{h:Heap}{a:Addr}{k:K2} (ok:HOk P w H h) (e:z4N H k a):(z2Q (z0Q P w)).is h k a:=by
 obtain⟨rs,h1,h2,h3⟩:=e
 obtain⟨_,its,r,o,q1,q2,n,q3⟩:=(show ObjOk P w H h a (.tup (rs.map V.ref)) from ok a _ h1)
 exact⟨o,its.toArray,n,q1,q2,q3,by simpa using z6X ok h2 h3 r⟩
theorem y6U {P:Program}{w:World}{H:Hp}{h:Heap}{a:Addr}{ks:List (K2×Addr)} (ok:HOk P w H h) (e:H a=some (D2 P w a ks)) (hk:∀p∈ks,z4N H p.1 p.2):(a==sysModules)=false∧ks.length≤sizeLine∧h.DictOfH (z2Q (z0Q P w)) a (en2 ks):=by
 obtain⟨⟨z,y,o,es,ep,h1,h2,h3,h4,h5⟩,_⟩:=(show ObjOk P w H h a (D2 P w a ks) from ok a _ e)
 refine⟨z,y,o,es,ep,h1,h2,h3,h4,fun x hx=>?_,?_⟩
 ·obtain⟨p,hp,rfl⟩:=q0f.mp hx
  exact z8c ok (hk p hp)
 ·unfold en2
  rw[q0x]
  exact h5
def z9H (ks:List (K2×Addr)) (k:K2) (b:Addr):List (K2×Addr):=if (ks.any fun p=>decide (p.1=k))=true then ks else ks++[(k,b)]
theorem z4V (ks:List (K2×Addr)) (k:K2) (b:Addr):storedH (en2 ks) k b (.bool true)=en2 (z9H ks k b):=by
 have e:(atKey (en2 ks) k).isSome =ks.any fun p=>decide (p.1=k):=by
  unfold atKey en2
  rw[Option.isSome_map]
  induction ks with
  |nil=>rfl
  |cons p ks ih=>
   rw[q0L,List.find?_cons,List.any_cons]
   by_cases c:p.1=k
   ·rw[decide_eq_true c];rfl
   ·rw[decide_eq_false c]
    simp only
    rw[ih];rfl
 have f:(en2 ks).map (putAt k (.bool true))=en2 ks:=by
  unfold en2
  rw[q0x]
  refine q1d fun p _=>?_
  show putAt k (.bool true) (p.1,p.2,Value.bool true)=_
  unfold putAt
  split<;>rfl
 unfold storedH z9H
 rw[e]
 split
 ·exact f
 ·unfold en2;rw[List.map_append];rfl
section
variable {X:Cx}{pins:List (Addr×Obj)}{σ:St}{H:Hp}{s:Shared}{a b:Addr}{A:Around}{E:Value→Shared→Prop}
theorem y0c {ks:List (K2×Addr)}{k:K2}{Q:Unit→Shared→Prop} (hu:A.units+2<cLine) (I:Inv X pins σ H s) (e:H a=some (D2 X.prog X.w a ks)) (hk:∀p∈ks,z4N H p.1 p.2) (eb:z4N H k b) (hl:ks.length<sizeLine) (h:∀s',Inv X pins σ (upd H a (D2 X.prog X.w a (z9H ks k b))) s'→Q () s'):
 wpAny (model X.prog X.w) A (setItem (.ref a) (.ref b) (.bool true)) Q E s:=by
 obtain⟨z,y,dd⟩:=y6U I.hok e hk
 have hz:(en2 ks).length ≤sizeLine:=by unfold en2;rw[List.length_map];exact y
 refine wpAny_setItem_heap (hsz:=hz) (show A.in1.units+1<cLine from hu) (z8c I.hok eb) dd fun h' dd' hs=>h _ ?_
 rw[z4V] at dd'
 obtain⟨q,es,ep,hq,h2,h3,h4,_,h5⟩:=dd'
 have hl2:(z9H ks k b).length ≤sizeLine:=by
  unfold z9H
  split
  ·exact y
  ·rw[q0l,q0T];lia
 have h5':((z9H ks k b).map (·.1)).Nodup :=by
  unfold en2 at h5
  rw[q0x] at h5
  exact h5
 refine z4A I (by rw[e];exact True.intro) hs ⟨q,hq⟩ ⟨⟨z,hl2,q,es,ep,hq,h2,h3,h4,h5'⟩,⟨q,hq⟩,fun h1 h2 p1 p2=>?_⟩
 obtain⟨a1,a2,o,es,ep,a3,a4⟩:=p1
 exact⟨a1,a2,o,es,ep,p2 _ a3,a4⟩
end
end L2
namespace L2
open PySem PySem.Spec PyProof.Rows
def sPut2 (X:Cx) (td ty tv:TE):TS:=fun D σ H=>tv σ H fun v H1=>td σ H1 fun x H2=>ty σ H2 fun y H3=>∃a b ks k,v= .bl true∧x= .ref a∧y= .ref b∧H3 a=some (D2 X.prog X.w a ks)∧(∀p∈ks,z4N H3 p.1 p.2)∧z4N H3 k b∧ks.length<sizeLine∧D.nx σ (upd H3 a (D2 X.prog X.w a (z9H ks k b)))
def y5P (X:Cx) (te tf:TE):TE:=fun σ H Q=>∀p,H p=none→te σ (upd H p (D2 X.prog X.w p [])) fun x H1=>tf σ H1 fun v H2=>∃b k,x= .ref b∧v= .bl true∧H2 p=some (D2 X.prog X.w p [])∧z4N H2 k b∧Q (.ref p) (upd H2 p (D2 X.prog X.w p [(k,b)]))
def y6X (X:Cx):List V→Hp→VK→Prop:=fun xs H Q=>∃(a:Addr) (ks:List (K2×Addr)),xs=[.ref a]∧H a=some (D2 X.prog X.w a ks)∧ks.length≤1000∧∀l,H l=none→Q (.ref l) (upd H l (.lst (ks.map fun p=>V.ref p.2)))
section
variable {X:Cx}{o i e f value:Expr}{pos pos' tpos:Pos}{td ty tv te tf:TE}
theorem y4W (hu:X.A.units+2<cLine) (ho:PE X o td) (hi:PE X i ty) (hv:PE X value tv) (hs:swapsWith value (some (.Subscript o i pos')) pos.line X.env=pure false):
 PS X (.Assign [.Subscript o i pos'] value pos) (sPut2 X td ty tv):=by
 intro pins s σ H D I h
 refine wpAny_Assign_Subscript (thn (hv pins s σ H _ I h) fun r s1 ⟨v,H1,I1,rv,q1⟩=>thn (ho pins s1 σ H1 _ I1 q1) fun u s2 ⟨x,H2,I2,rx,q2⟩=>thn (hi pins s2 σ H2 _ I2 q2) fun iv s3 ⟨y,H3,I3,ry,a,b,ks,k,ev,ex,ey,g,hk,eb,hl,q3⟩=>?_) hs
 subst ex ey ev
 obtain rfl:u=Value.ref a:=rx
 obtain rfl:iv=Value.ref b:=ry
 obtain rfl:r=Value.bool true:=rv
 exact y0c hu I3 g hk eb hl fun s4 I4=>⟨σ,_,I4,q3⟩
theorem y3D {P:Program}{w:World}{H:Hp} (h:Heap) (hb:sysModules<h.objs.size):ObjOk P w H (h.push {cls:= .type "dict",data:= .dict #[]}) h.objs.size (D2 P w h.objs.size []):=by
 refine⟨⟨beq_eq_false_iff_ne.mpr (Ne.symm (q0v hb)),q0K _,_,#[],0,q0o _ rfl,⟨rfl,rfl,rfl⟩,rfl,rfl,List.nodup_nil⟩,⟨_,q0o _ rfl⟩,fun h1 h2 p1 p2=>?_⟩
 obtain⟨a1,a2,o,es,ep,a3,a4⟩:=p1
 exact⟨a1,a2,o,es,ep,p2 _ a3,a4⟩
theorem y0d {pins:List (Addr×Obj)}{σ:St}{H:Hp}{s:Shared}{a b:Addr}{A:Around}{E:Value→Shared→Prop}{ks:List (K2×Addr)}{k:K2}{Q:Unit→Shared→Prop} (hu:A.units+1<cLine) (I:Inv X pins σ H s) (e:H a=some (D2 X.prog X.w a ks)) (hk:∀p∈ks,z4N H p.1 p.2) (eb:z4N H k b) (hl:ks.length<sizeLine) (h:∀s',Inv X pins σ (upd H a (D2 X.prog X.w a (z9H ks k b))) s'→Q () s'):
 wpAny (model X.prog X.w) A (dictSet a (.ref b) (.bool true)) Q E s:=by
 obtain⟨z,y,dd⟩:=y6U I.hok e hk
 have hz:(en2 ks).length ≤sizeLine:=by unfold en2;rw[List.length_map];exact y
 refine wpAny_dictSet_heap (hsz:=hz) hu (z8c I.hok eb) dd fun h' dd' hs=>h _ ?_
 rw[z4V] at dd'
 obtain⟨q,es,ep,hq,h2,h3,h4,_,h5⟩:=dd'
 have hl2:(z9H ks k b).length ≤sizeLine:=by
  unfold z9H
  split
  ·exact y
  ·rw[q0l,q0T];lia
 have h5':((z9H ks k b).map (·.1)).Nodup :=by
  unfold en2 at h5
  rw[q0x] at h5
  exact h5
 refine z4A I (by rw[e];exact True.intro) hs ⟨q,hq⟩ ⟨⟨z,hl2,q,es,ep,hq,h2,h3,h4,h5'⟩,⟨q,hq⟩,fun h1 h2 p1 p2=>?_⟩
 obtain⟨a1,a2,o,es,ep,a3,a4⟩:=p1
 exact⟨a1,a2,o,es,ep,p2 _ a3,a4⟩
theorem y3i (hu:X.A.units+2<cLine) (he:PE X e te) (hf:PE X f tf):PE X (.Dict [some e] [f] pos) (y5P X te tf):=by
 intro pins s σ H Q I q
 have hn:=I.hok.fresh (q0k s.heap.objs.size)
 have I1:=I.laid (a:=s.heap.objs.size) (o:=D2 X.prog X.w s.heap.objs.size []) (h':=s.heap.push {cls:= .type "dict",data:= .dict #[]}) (t':=s.toks) (fun _ _ q=>q0d _ q) (q0k _) (y3D s.heap I.big)
 refine wpAny_Dict_any rfl rfl (by simp) (by simp) ?_
 refine evalPairs_cons (thn (he pins _ σ _ _ I1 (q _ hn)) fun kv s2 ⟨x,H1,I2,rx,q1⟩=>?_)
 refine wpAny_bind (thn (hf pins s2 σ H1 _ I2 q1) fun vv s3 ⟨v,H2,I3,rv,b,k,ex,ev,e2,kb,q2⟩=>wpAny_bind (wpAny_standAt (wpAny_pure ?_)))
 subst ex ev
 obtain rfl:kv=Value.ref b:=rx
 obtain rfl:vv=Value.bool true:=rv
 refine evalPairs_nil ?_
 unfold storeAll
 rw[List.forIn_cons]
 refine wpAny_bind (wpAny_bind (y0d (by lia) I3 e2 (fun p hp=>nomatch hp) kb (by rw[sizeLine_eq];decide) fun s4 I4=>wpAny_pure ?_))
 show wpAny _ _ (forIn [] PUnit.unit _) _ _ _
 rw[List.forIn_nil]
 exact wpAny_pure ⟨.ref s.heap.objs.size,_,I4,rfl,q2⟩
theorem y0f (hc:X.calm=true):z1x X (.type "list") (y6X X):=by
 intro pins s σ H xs us Q I r h
 obtain⟨a,ks,rfl,ha,hn,q⟩:=h
 obtain⟨u,rfl,rx⟩:=r.one
 cases rx
 obtain⟨⟨hd,z,o,es,ep,h1,h2,h3,h4,h5⟩,_⟩:=(show ObjOk X.prog X.w H s.heap a (D2 X.prog X.w a ks) from I.hok a _ ha)
 have hl:es.size=ks.length:=by rw[←Array.length_toList,h4,List.length_map];unfold en2;rw[List.length_map]
 have hz:sizeLine=16777216:=sizeLine_eq
 refine W.kdl_call (y1H (es:=es) (ep:=ep) hd) (I.ok.hd hc) ⟨o,h1,h2.1,h3⟩ (by lia) fun h' tk acc' c' kp e itm=>?_
 have rv:Vals ((ks.map (·.2)).map V.ref) acc'.toList:=by
  refine z4j _ _ (by rw[q0a,q0V,itm.1,hl]) fun i u hu=>?_
  obtain⟨en,e1,e2⟩:=itm.2 i u (by rw[←Array.getElem?_toList];exact hu)
  have e3:(es.toList)[i]? =some en:=by rw[Array.getElem?_toList];exact e1
  rw[h4,q0g] at e3
  obtain⟨y,y1,y2⟩:=q0r.mp e3
  unfold en2 at y1
  rw[q0g] at y1
  obtain⟨p,p1,p2⟩:=q0r.mp y1
  exact⟨p.2,by rw[q0g,p1];rfl,by rw[e2,←y2,←p2];rfl⟩
 have q':=q s.heap.objs.size (I.hok.fresh (q0k _))
 rw[show (ks.map fun p=>V.ref p.2)=(ks.map (·.2)).map V.ref from by rw[q0x];rfl] at q'
 refine⟨.ref s.heap.objs.size,_,I.laid (o:= .lst ((ks.map (·.2)).map V.ref)) (t':=tk) kp (q0k _) ?_,rfl,q'⟩
 exact⟨by rw[q0a,q0a];lia,acc'.toList,c',rv,by simpa using e⟩
end
end L2
namespace L2
open PySem PySem.Spec PyProof.Rows
def It2 (P:Program) (w:World) (a:Addr) (o:Obj) (ks:List (K2×Addr)):It:=
 ⟨fun i H=>H a=some (.frz o (D2 P w a ks))∧i<ks.length,fun i H x H'=>H'=H∧(ks.map fun p=>V.ref p.2)[i]? =some x,fun i H=>H a=some (.frz o (D2 P w a ks))∧i=ks.length⟩
theorem y4H {P:Program}{w:World}{K:PySem.W.Frag}{tg:Expr} (a it:Addr) (o:Obj) (ks:List (K2×Addr)) (es:Array DictEntry) (ep:Nat) (hdat:o.data= .dict es ep) (hes:es.toList=(en2 ks).map (entryOfKey (z2Q (z0Q P w)))):
 y4t P w K tg (It2 P w a o ks) [it] it (fun i h=>h.IsKeyIter it a i ks.length ep) where
 mem:=by simp
 obj:=fun i h st b hb=>by
  have e:b=it:=by simpa using hb
  subst e
  obtain⟨o,e,c,d⟩:=st
  exact⟨o,e,fun v z=>by rw[d] at z;cases z⟩
 keep:=fun i h h' st k=>by
  obtain⟨o,e,c,d⟩:=st
  exact⟨o,k it (by simp) o e,c,d⟩
 item:=by
  intro X hP hw hK hc i pins s σ H E I hf st hg
  subst hP hw hK
  obtain⟨ha,hi⟩:=hg
  obtain⟨f0,f1,f2,f3,f4,f5⟩:=hf it (by simp)
  have ho:s.heap.get? a=some o:=(show ObjOk X.prog X.w H s.heap a (.frz o (D2 X.prog X.w a ks)) from I.hok a _ ha).1
  have hsz:es.size=ks.length:=by rw[←Array.length_toList,hes,List.length_map];unfold en2;rw[List.length_map]
  obtain⟨p,hp⟩:∃p,ks[i]? =some p:=⟨_,q0c hi⟩
  have he:es[i]? =some (entryOfKey (z2Q (z0Q X.prog X.w)) (p.1,p.2,Value.bool true)):=by
   rw[←Array.getElem?_toList,hes,q0g]
   unfold en2
   rw[q0g,hp];rfl
  refine z9a st ho hdat hsz he fun h' st' sb=>?_
  have I1:Inv X pins σ H {s with heap:=h'}:=I.turned (t':=s.toks) (fun b o hb e=>sb b o hb e) f0 f1 f3 f4 f5
  obtain⟨oi,e,c,d⟩:=id st'
  exact⟨_,rfl,y3v (s:={s with heap:=h'}) e c d (by decide) ⟨V.ref p.2,H,I1,rfl,⟨rfl,by rw[q0g,hp];rfl⟩,st',fun b hb=>(hf b hb).1⟩⟩
 done:=by
  intro X hP hw hK hc i pins s σ H E I hf st hg
  subst hP hw hK
  obtain⟨ha,hi⟩:=hg
  obtain⟨f0,f1,f2,f3,f4,f5⟩:=hf it (by simp)
  have ho:s.heap.get? a=some o:=(show ObjOk X.prog X.w H s.heap a (.frz o (D2 X.prog X.w a ks)) from I.hok a _ ha).1
  have hsz:es.size=ks.length:=by rw[←Array.length_toList,hes,List.length_map];unfold en2;rw[List.length_map]
  exact y1J st ho hdat hsz (Array.getElem?_eq_none (by lia)) (I.ok.hd hc) fun h' eb=>⟨rfl,I.turned (t':=s.toks) (fun b o hb e=>eb b o hb e) f0 f1 f3 f4 f5⟩
 self:=fun _ _ _ _ _ st h=>wpAny_pyIter_keyiter st h
theorem y4P (P:Program) (w:World) (a:Addr) (o:Obj) (ks:List (K2×Addr)):z6m (It2 P w a o ks) (ks.map fun p=>V.ref p.2).length (fun H=>H a=some (.frz o (D2 P w a ks))) (fun i H x H'=>H'=H∧(ks.map fun p=>V.ref p.2)[i]? =some x) where
 go:=fun i H h hi=>⟨h,by rw[q0a] at hi;exact hi⟩
 stop:=fun H h=>⟨h,by rw[q0a]⟩
 yld:=fun i H x H' h hi y=>y
section
variable {X:Cx}
def iD2 (X:Cx) (tl:TE):TI:=fun σ H R=>tl σ H fun v H1=>∃a ks,v= .ref a∧H1 a=some (D2 X.prog X.w a ks)∧∀o,R (It2 X.prog X.w a o ks) (upd H1 a (.frz o (D2 X.prog X.w a ks)))
theorem pi_d2 {tg l:Expr}{tl:TE} (hl:PE X l tl):PI X tg l (iD2 X tl):=by
 intro pins s σ H R I h
 refine thn (hl pins s σ H _ I h) fun v s1 ⟨x,H1,I1,r1,q1⟩=>?_
 obtain⟨a,ks,e,ha,q⟩:=q1
 subst e
 cases r1
 have oo:=(show ObjOk X.prog X.w H1 s1.heap a (D2 X.prog X.w a ks) from I1.hok a _ ha)
 obtain⟨⟨hd,z,o,es,ep,h1,h2,h3,h4,h5⟩,o2⟩:=id oo
 have hsz:es.size=ks.length:=by rw[←Array.length_toList,h4,List.length_map];unfold en2;rw[List.length_map]
 refine z5g h1 h2.1 h3 hd ?_
 have I2:Inv X pins σ (upd H1 a (.frz o (D2 X.prog X.w a ks))) s1:=z4A (t':=s1.toks) (h':=s1.heap) I1 (by rw[ha];exact True.intro) ⟨rfl,fun b _=>rfl⟩ ⟨o,h1⟩ ⟨h1,oo⟩
 refine⟨s1.heap.objs.size,[s1.heap.objs.size],_,_,_,rfl,I2.kept (t':=s1.toks) fun b o e=>q0d _ e,y4H a _ o ks es ep h3 h4,⟨_,q0o _ rfl,rfl,by rw[hsz];rfl⟩,fun b hb=>?_,q o⟩
 have e:b=s1.heap.objs.size:=by simpa using hb
 subst e
 exact I2.fpOk (q0k _) (I2.hok.fresh (q0k _))
end
end L2
namespace L2
open PySem PySem.Spec PyProof.Rows
open Builtin.Int (intBits)
section
variable {X:Cx}
def CFw (i j:Int):Prop:=j≠0∧intBits i≤13000
theorem noPyW {i j:Int} (h:CFw i j):Builtin.divisionGoesByPylong i j=false:=by
 unfold Builtin.divisionGoesByPylong
 have h1:=intBits_le_iff.mp h.2
 simp only[Bool.and_eq_false_iff,decide_eq_false_iff_not]
 by_cases hi:i=0
 ·refine .inr ?_
  rw[if_pos (by simp[hi])]
  lia
 ·have hl:i.natAbs.log2<13000:=(Nat.log2_lt (by lia)).mpr h1
  by_cases hj:(if (j==0)=true then 0 else j.natAbs.log2/30+1)>300
  ·refine .inr ?_
   rw[if_neg (show ¬(i==0)=true by simpa using hi)]
   generalize (if (j==0)=true then 0 else j.natAbs.log2/30+1)=y at*
   lia
  ·exact .inl hj
theorem z3K:OpR X (binaryOp .FloorDiv) (rI CFw fun i j=> .int (i.fdiv j)):=opI fun _ _ _ _ _ _ _ hc q=>floordiv_int hc.1 q (.inl (noPyW hc))
end
end L2
namespace L2
open PySem PySem.Spec PyProof.Rows
theorem z5l {δ:Type}{J:It}{n:Nat}{Ok:Hp→Prop}{ps:List (V×V)} (ds:List δ) (hx:n=ds.length) (R:z6m J n Ok (fun i H x H'=>∃p u v,x= .ref p∧H p=none∧ps[i]? =some (u,v)∧H'=upd H p (.tup [u,v]))) {fr:List (Option Nat)}{g:TG}{tt:TT}{te:TE}{σ:St}{H1:Hp}{Q:VK}{D:Addr} (hD:H1 D=none) (pr:δ→V×V) (hpr:∀(i:Nat) c d,ps[i]? =some c→ds[i]? =some d→c=pr d) (tst:δ→Bool) (Rel:Hp→δ→V→Prop)
 (hrel:∀H H' d u,(∀b o,b≠D→H b=some o→H' b=some o)→(∃acc,H D=some (.lst acc))→Rel H d u→Rel H' d u)
 (hg:∀p u v σ H,H p=some (.tup [u,v])→∀S:St→Hp→Prop,S ((σ.set 0 (some u)).set 1 (some v)) H→g (.ref p) σ H S)
 (hok:∀H,Same H1 H→Ok H) (hn:n≤sizeLine)
 (ht:∀d∈ds,∀Hc,Same H1 Hc→∀S:Bool→Hp→Prop,(∀H',Same Hc H'→S (tst d) H')→tt (((z0C fr σ).set 0 (some (pr d).1)).set 1 (some (pr d).2)) Hc S)
 (hv:∀d∈ds,tst d=true→∀Hc,Same H1 Hc→(∃acc,Hc D=some (.lst acc))→∀S:VK,(∀u H',Same Hc H'→Rel H' d u→S u H')→te (((z0C fr σ).set 0 (some (pr d).1)).set 1 (some (pr d).2)) Hc S)
 (q:∀us H',Same H1 H'→H' D=some (.lst us)→Each (Rel H') (ds.filter tst) us→Q (.ref D) H'):
 z3C J g tt te Q D (z0C fr σ) (upd H1 D (.lst [])):=by
 subst hx
 refine z4C R (fun i acc σ' H'=>((∃o1 o2,σ'=((z0C fr σ).set 0 o1).set 1 o2)∨σ'=z0C fr σ)∧Same H1 H'∧H' D=some (.lst acc)∧Each (Rel H') ((ds.take i).filter tst) acc) ⟨.inr rfl,z0e hD _,z0b,.nil⟩ ?_ hn ?_ ?_
 ·rintro i acc σ' H' hi ⟨_,hs,_,he⟩
  refine⟨hok _ hs,?_⟩
  rw[←he.length]
  refine q0m (q1q _ _) ?_
  rw[q0q];lia
 ·rintro N i x acc σ' H' H'' hi ⟨hσ,hs,hd,he⟩ ⟨p,u,v,rfl,hp,hps,rfl⟩ n1 n2
  have hdi:ds[i]? =some ds[i]:=q0c hi
  have hm:ds[i]∈ds:=q0w hi
  generalize ds[i]=d at hdi hm
  have ec:=hpr i _ d hps hdi
  have gp:=z0e hp (.tup [u,v])
  have es:(σ'.set 0 (some u)).set 1 (some v)=((z0C fr σ).set 0 (some (pr d).1)).set 1 (some (pr d).2):=by
   rw[←ec]
   rcases hσ with⟨o1,o2,rfl⟩|rfl
   ·rw[z3Z]
   ·rfl
  refine hg p u v _ _ z0b _ ?_
  rw[es]
  have tk:ds.take (i+1)=ds.take i++[d]:=by rw[q0E,hdi];rfl
  have hs2:=hs.trans gp
  have hd2:=gp _ _ hd
  have he2:Each (Rel (upd H' p (.tup [u,v]))) ((ds.take i).filter tst) acc:=he.imp fun a b h=>hrel _ _ _ _ (fun c o _ e=>gp _ _ e) ⟨_,hd⟩ h
  generalize upd H' p (.tup [u,v])=H2 at*
  refine ht d hm _ hs2 _ fun H3 g3=>?_
  have hs3:=hs2.trans g3
  have hd3:=g3 _ _ hd2
  have he3:Each (Rel H3) ((ds.take i).filter tst) acc:=he2.imp fun a b h=>hrel _ _ _ _ (fun c o _ e=>g3 _ _ e) ⟨_,hd2⟩ h
  cases hb:tst d with
  |true=>
   refine z5h ?_
   refine hv d hm hb _ hs3 ⟨_,hd3⟩ _ fun u' H4 g4 hr=>?_
   have hd4:=g4 _ _ hd3
   refine n1 _ _ _ hd4 ⟨.inl ⟨_,_,rfl⟩,fun c o e=>?_,z0b,?_⟩
   ·rw[z0i (z0g e hD)];exact g4 _ _ (hs3 _ _ e)
   ·have up:∀a b,Rel H4 a b→Rel (upd H4 D (.lst (acc++[u']))) a b:=fun a b h=>hrel _ _ _ _ (fun c o hc e=>by rw[z0i hc];exact e) ⟨_,hd4⟩ h
    rw[tk,q0U,q1t hb]
    exact ((he3.imp fun a b h=>up a b (hrel _ _ _ _ (fun c o _ e=>g4 _ _ e) ⟨_,hd3⟩ h)).snoc (up _ _ hr))
  |false=>
   refine z3t ?_
   refine n2 _ _ ⟨.inl ⟨_,_,rfl⟩,hs3,hd3,?_⟩
   rw[tk,q0U,q1u (by simp[hb])]
   simpa using he3
 ·rintro acc σ' H' ⟨_,hs,hd,he⟩
  rw[q0P] at he
  exact q acc H' hs hd he
end L2
set_option maxHeartbeats 4000000
namespace L2
open PySem PySem.Spec PyProof.Rows
namespace Srt
open PySem.SeqAt PySem.AutoSeq1 PySem.MeetsSeq PySem.MeetsSeq2 PySem.MeetsSeq3
def LtAt (A:Around) (s:Shared) (y x:Value) (b:Bool):Prop:=
 ∀(prog:Program) (w:World) (E:Value→Shared→Prop) (Q:Value→Shared→Prop),Q (.bool b) s→wpAny (model prog w) A (richCompare .Lt y x) Q E s
def lx (e t:Nat→Bool):List Nat→Bool→Bool
 |[],fin=>fin
 |i::is,fin=>if e i=true then lx e t is fin else t i
theorem y1z (l b:Addr) (items items2:Array Value) (n n2:Nat) (dd dd2:Option Addr) (sl sl2:Array (Option Value)) (e t:Nat→Bool) (k:Nat):
 ∀i:Nat,min items.size items2.size - i=k→Meets (Builtin.«list.__eq__.loop» ⟨[.ref l,.ref b,rawInt i,rawInt 0],[]⟩)
  (fun A R s=>s.heap.get? l=some {cls:= .type "list",dict:=dd,data:= .seq items n,slots:=sl}∧s.heap.get? b=some {cls:= .type "list",dict:=dd2,data:= .seq items2 n2,slots:=sl2}∧
   (∀j (h1:j<items.size) (h2:j<items2.size),EqAt A.in1 s items[j] items2[j] (e j))∧(∀j (h1:j<items.size) (h2:j<items2.size),e j=false→LtAt A.in1 s items[j] items2[j] (t j))∧
   R (.ok (.ret (.bool (lx e t ((List.range (min items.size items2.size)).drop i) (decide (items.size<items2.size)))))) s):=by
 induction k with
 |zero=>
  intro i hk prog w A R s h
  obtain⟨hp,g,d,tk,os⟩:=s;obtain⟨hl,hb,he,ht,h⟩:=h
  wp_walk using wpAny_loadPart' hl,wpAny_loadPart' hb
  have hd:(List.range (min items.size items2.size)).drop i=[]:=by simp;lia
  rw[hd] at h
  by_cases c:items.size≤i
  ·have hi1:items[((i:Nat):Int).toNat]? =none:=by simp;lia
   rw[hi1]
   wp_walk using wpAny_loadPart' hl,wpAny_loadPart' hb
   exact h
  ·have hi1:items[((i:Nat):Int).toNat]? =some items[i]:=by simp[show i<items.size by lia]
   have hi2:items2[((i:Nat):Int).toNat]? =none:=by simp;lia
   rw[hi1,hi2]
   wp_walk using wpAny_loadPart' hl,wpAny_loadPart' hb
   exact h
 |succ k ih=>
  intro i hk prog w A R s h
  obtain⟨hp,g,d,tk,os⟩:=s;obtain⟨hl,hb,he,ht,h⟩:=h
  wp_walk using wpAny_loadPart' hl,wpAny_loadPart' hb
  have hlt:i<items.size:=by lia
  have hlt2:i<items2.size:=by lia
  have hi1:items[((i:Nat):Int).toNat]? =some items[i]:=by simp[hlt]
  have hi2:items2[((i:Nat):Int).toNat]? =some items2[i]:=by simp[hlt2]
  have hd:(List.range (min items.size items2.size)).drop i=i::(List.range (min items.size items2.size)).drop (i+1):=by
   rw[q1W (by simp;lia)];simp
  have hc:((i:Int)+1)=((i+1:Nat):Int):=by push_cast;rfl
  rw[hd,lx] at h
  rw[hi1,hi2]
  refine wpAny_bind (he i hlt hlt2 prog w _ _ ?_)
  cases hb':e i with
  |true=>
   rw[hb',if_pos rfl] at h
   wp_walk
   rw[hc]
   exact⟨plainId_quiet plain_eq_loop _,codeAny_builtin entry_eq_loop (by
        rw[Around.under_plainId plain_eq_loop _]
        exact ih (i+1) (by lia) prog w A R _ ⟨hl,hb,he,ht,h⟩)⟩
  |false=>
   rw[hb',if_neg (by decide)] at h
   wp_walk using wpAny_loadPart' hl,wpAny_loadPart' hb
   rw[hi1,hi2]
   refine wpAny_bind (ht i hlt hlt2 hb' prog w _ _ ?_)
   wp_walk
   exact h
theorem y1C (l b:Addr) (items items2:Array Value) (n n2:Nat) (dd dd2:Option Addr) (sl sl2:Array (Option Value)) (e t:Nat→Bool):
 Meets (Builtin.«list.__lt__» ⟨[.ref l,.ref b],[]⟩)
  (fun A R s=>s.heap.get? l=some {cls:= .type "list",dict:=dd,data:= .seq items n,slots:=sl}∧s.heap.get? b=some {cls:= .type "list",dict:=dd2,data:= .seq items2 n2,slots:=sl2}∧
        (∀j (h1:j<items.size) (h2:j<items2.size),EqAt A.in1 s items[j] items2[j] (e j))∧(∀j (h1:j<items.size) (h2:j<items2.size),e j=false→LtAt A.in1 s items[j] items2[j] (t j))∧
        R (.ok (.ret (.bool (lx e t (List.range (min items.size items2.size)) (decide (items.size<items2.size)))))) s):=by
 intro prog w A R s h
 obtain⟨hp,g,d,tk,os⟩:=s;obtain⟨hl,hb,he,ht,h⟩:=h
 have f3:=AutoSeq1.sub_list_list
 wp_walk using wpAny_loadPart' hl,wpAny_loadPart' hb
 exact⟨plainId_quiet plain_eq_loop _,codeAny_builtin entry_eq_loop (by
  rw[Around.under_plainId plain_eq_loop _]
  exact y1z l b items items2 n n2 dd dd2 sl sl2 e t _ 0 rfl prog w A R _ ⟨hl,hb,he,ht,by simpa using h⟩)⟩
theorem z9w (l b:Addr) (items items2:Array Value) (n n2:Nat) (dd dd2:Option Addr) (sl sl2:Array (Option Value)) (e t:Nat→Bool):
 Meets (Builtin.«tuple.__lt__» ⟨[.ref l,.ref b],[]⟩)
  (fun A R s=>s.heap.get? l=some {cls:= .type "tuple",dict:=dd,data:= .seq items n,slots:=sl}∧s.heap.get? b=some {cls:= .type "tuple",dict:=dd2,data:= .seq items2 n2,slots:=sl2}∧
        (∀j (h1:j<items.size) (h2:j<items2.size),EqAt A.in1 s items[j] items2[j] (e j))∧(∀j (h1:j<items.size) (h2:j<items2.size),e j=false→LtAt A.in1 s items[j] items2[j] (t j))∧
        R (.ok (.ret (.bool (lx e t (List.range (min items.size items2.size)) (decide (items.size<items2.size)))))) s):=
 .of_wp fun prog w A R s h=>by
  obtain⟨hp,g,d,tk,os⟩:=s;obtain⟨hl,hb,he,ht,h⟩:=h
  have f2:=AutoSeq1.sub_tuple_tuple
  have hZ:(items.toList.zip items2.toList).length =min items.size items2.size:=by simp
  wp_walk using wpAny_loadPart' hl,wpAny_loadPart' hb,wpAny_forIn_list _ (fun rest b s'=>b.1=none∧s'=⟨hp,g,d,tk,os⟩∧∃i,rest=(items.toList.zip items2.toList).drop i∧
   R (.ok (.ret (.bool (lx e t ((List.range (min items.size items2.size)).drop i) (decide (items.size<items2.size)))))) ⟨hp,g,d,tk,os⟩) _
  case turn=>
   rintro⟨y,x⟩ rest b s' ⟨hb',rfl,i,hz,hR⟩
   have hlt:i<(items.toList.zip items2.toList).length :=by
        rcases Nat.lt_or_ge i (items.toList.zip items2.toList).length with h'|h'
        ·exact h'
        ·rw[List.drop_of_length_le h'] at hz;cases hz
   have hm:i<min items.size items2.size:=hZ▸hlt
   have h1:i<items.size:=q0F hm (Nat.min_le_left _ _)
   have h2:i<items2.size:=q0F hm (Nat.min_le_right _ _)
   rw[q1W hlt] at hz
   injection hz with hyx hrest
   have hy:y=items[i]:=by have:=congrArg Prod.fst hyx;simpa using this
   have hx:x=items2[i]:=by have:=congrArg Prod.snd hyx;simpa using this
   subst hy hx
   have hd:(List.range (min items.size items2.size)).drop i=i::(List.range (min items.size items2.size)).drop (i+1):=by
        rw[q1W (by simp;lia)];simp
   rw[hd,lx] at hR
   refine wpAny_bind (he i h1 h2 prog w _ _ ?_)
   cases hy:e i with
   |true=>
    rw[hy,if_pos rfl] at hR
    wp_walk
    exact⟨rfl,rfl,i+1,hrest,hR⟩
   |false=>
    rw[hy,if_neg (by decide)] at hR
    refine wpAny_ite_split (fun _=>?_) (fun hn=>absurd rfl hn)
    refine wpAny_bind (wpAny_rule (wpAny_bind (ht i h1 h2 hy prog w _ _ ?_)))
    wp_walk
    exact⟨_,rfl,hR⟩
  case fin=>
   rintro⟨b1,b2⟩ s' ⟨hb',rfl,i,hz,hR⟩
   simp only at hb'
   subst hb'
   have hge:min items.size items2.size≤i:=by
        rcases Nat.lt_or_ge i (items.toList.zip items2.toList).length with h'|h'
        ·rw[q1W h'] at hz;cases hz
        ·exact hZ▸h'
   rw[List.drop_of_length_le (by simpa using hge),lx] at hR
   wp_walk
   exact⟨_,rfl,by simpa[Builtin.Tuple.tupleCompareSizes] using hR⟩
  case h=>
   exact⟨rfl,rfl,0,rfl,by simpa using h⟩
section
variable {A:Around}{s:Shared}
theorem LtAt.int (a:Int) (t:Tok) (b:Int) (u:Tok):LtAt A s (.int a t) (.int b u) (decide (a<b)):=fun prog w E Q h=>wpAny_lt_int h
theorem LtAt.tuples {l b:Addr}{items items2:Array Value}{e t:Nat→Bool} (hl:s.heap.IsTuple l items) (hb:s.heap.IsTuple b items2) (hu:A.units<cLine)
 (he:∀j (h1:j<items.size) (h2:j<items2.size),EqAt A.in1 s items[j] items2[j] (e j)) (ht:∀j (h1:j<items.size) (h2:j<items2.size),e j=false→LtAt A.in1 s items[j] items2[j] (t j)):
 LtAt A s (.ref l) (.ref b) (lx e t (List.range (min items.size items2.size)) (decide (items.size<items2.size))):=fun prog w E Q h=>by
 obtain⟨⟨cls,dd,data,sl⟩,ho,hc,n,hd⟩:=id hl
 obtain⟨⟨cls2,dd2,data2,sl2⟩,ho2,hc2,n2,hd2⟩:=id hb
 simp only at hc hd hc2 hd2
 subst hc hd hc2 hd2
 exact richCompare_meets_room (op:= .Lt) ⟨_,ho,rfl⟩ ⟨_,ho2,rfl⟩ F.slot_tuple_lt F.entry_tuple_lt (F.args_tuple_lt_2 _ _) (z9w l b items items2 n n2 dd dd2 sl sl2 e t)
  ⟨ho,ho2,he,ht,show Value.bool _≠Value.notImplemented∧Q (.bool _) s from⟨(fun x=>nomatch x),h⟩⟩ hu
theorem LtAt.lists {l b:Addr}{items items2:Array Value}{e t:Nat→Bool} (hl:s.heap.IsList l items) (hb:s.heap.IsList b items2) (hu:A.units<cLine)
 (he:∀j (h1:j<items.size) (h2:j<items2.size),EqAt A.in1 s items[j] items2[j] (e j)) (ht:∀j (h1:j<items.size) (h2:j<items2.size),e j=false→LtAt A.in1 s items[j] items2[j] (t j)):
 LtAt A s (.ref l) (.ref b) (lx e t (List.range (min items.size items2.size)) (decide (items.size<items2.size))):=fun prog w E Q h=>by
 obtain⟨⟨cls,dd,data,sl⟩,ho,hc,n,hd⟩:=id hl
 obtain⟨⟨cls2,dd2,data2,sl2⟩,ho2,hc2,n2,hd2⟩:=id hb
 simp only at hc hd hc2 hd2
 subst hc hd hc2 hd2
 exact richCompare_meets_room (op:= .Lt) ⟨_,ho,rfl⟩ ⟨_,ho2,rfl⟩ F.slot_list_lt F.entry_list_lt (F.args_list_lt_2 _ _) (y1C l b items items2 n n2 dd dd2 sl sl2 e t)
  ⟨ho,ho2,he,ht,show Value.bool _≠Value.notImplemented∧Q (.bool _) s from⟨(fun x=>nomatch x),h⟩⟩ hu
end
end Srt
end L2
namespace L2
open PySem PySem.Spec PyProof.Rows
namespace Srt
open PySem.SeqAt
mutual
def ltb:Dt→Dt→Bool
 | .i n,.i m=>decide (n<m)
 | .t a,.t b=>lts a b
 | .l a,.l b=>lts a b
 |_,_=>false
def lts:List Dt→List Dt→Bool
 |[],[]=>false
 |[],_::_=>true
 |_::_,[]=>false
 |x::a,y::b=>if Dt.eqb x y=true then lts a b else ltb x y
end
theorem y3V (e t:Nat→Bool) (fin:Bool):∀is:List Nat,lx e t (is.map (· +1)) fin=lx (fun j=>e (j+1)) (fun j=>t (j+1)) is fin
 |[]=>rfl
 |i::is=>by rw[List.map_cons,lx,lx,y3V e t fin is]
theorem y1y:∀ds es:List Dt,lx (fun j=>Dt.eqb (ds.getD j (.i 0)) (es.getD j (.i 0))) (fun j=>ltb (ds.getD j (.i 0)) (es.getD j (.i 0))) (List.range (min ds.length es.length)) (decide (ds.length<es.length))=lts ds es
 |[],[]=>by simp[lx,lts]
 |[],_::_=>by simp[lx,lts]
 |_::_,[]=>by simp[lx,lts]
 |x::a,y::b=>by
  have ih:=y1y a b
  have hm:min (x::a).length (y::b).length =min a.length b.length+1:=by simp only[q0u];lia
  have hf:decide ((x::a).length <(y::b).length)=decide (a.length<b.length):=by simp
  rw[hm,hf,List.range_succ_eq_map,lx,lts]
  show (if Dt.eqb x y=true then lx _ _ ((List.range (min a.length b.length)).map (· +1)) _ else ltb x y)=_
  rw[y3V,←ih]
  rfl
section
variable {X:Cx}{pins:List (Addr×Obj)}{σ:St}{H:Hp}{s:Shared}
theorem z3B {K:PySem.W.Frag}:∀{xs:List V}{ds:List Dt}{its:List Value},IsDs K H xs ds→Vals xs its→∀j (hj:j<its.length),∃v,IsD K H v (ds.getD j (.i 0))∧RelV v its[j]:=by
 intro xs
 induction xs with
 |nil=>
  intro ds its h1 h2 j hj
  cases h2
  exact absurd hj (Nat.not_lt_zero _)
 |cons x xs ih=>
  intro ds its h1 h2 j hj
  cases h1 with
  |cons a1 a2=>
  cases h2 with
  |cons b1 b2=>
  cases j with
  |zero=>exact⟨x,a1,b1⟩
  |succ j=>exact ih a2 b2 j (by simpa using hj)
theorem z4l {n:Nat}:∀{ds es:List Dt},Dt.oks n ds es=true→∀j,j<ds.length→j<es.length→Dt.ok n (ds.getD j (.i 0)) (es.getD j (.i 0))=true
 |[],_,_,j,h,_=>absurd h (Nat.not_lt_zero _)
 |_::_,[],_,j,_,h=>absurd h (Nat.not_lt_zero _)
 |d::ds,e::es,h,j,h1,h2=>by
  rw[Dt.oks,q1g] at h
  cases j with
  |zero=>exact h.1
  |succ j=>exact z4l h.2 j (by simpa using h1) (by simpa using h2)
def LTold (X:Cx) (H:Hp) (s:Shared) (n:Nat) (A:Around):Prop:=∀(v u:V) (d e:Dt) (x y:Value),IsD X.K H v d→IsD X.K H u e→RelV v x→RelV u y→Dt.ok n d e=true→LtAt A s x y (ltb d e)
theorem y5k (I:Inv X pins σ H s):∀(n:Nat) (A:Around),A.units+n<cLine→LTold X H s n A:=by
 intro n
 induction n with
 |zero=>
  intro A hu v u d e x y hv hw r1 r2 ok
  cases hv with
  |i k=>
   cases hw with
   |i m=>
    obtain⟨t,rfl⟩:=r1
    obtain⟨t',rfl⟩:=r2
    exact LtAt.int k t m t'
   |t _ _=>simp[Dt.ok] at ok
   |l _ _=>simp[Dt.ok] at ok
  |t _ _=>cases hw<;>simp[Dt.ok] at ok
  |l _ _=>cases hw<;>simp[Dt.ok] at ok
 |succ n ih=>
  intro A hu v u d e x y hv hw r1 r2 ok
  have P:=told I n A.in1 (by show A.units+1+n<cLine;lia)
  have P2:=ih A.in1 (by show A.units+1+n<cLine;lia)
  cases hv with
  |i k=>
   cases hw with
   |i m=>
    obtain⟨t,rfl⟩:=r1
    obtain⟨t',rfl⟩:=r2
    exact LtAt.int k t m t'
   |t _ _=>simp[Dt.ok] at ok
   |l _ _=>simp[Dt.ok] at ok
  | @t a xs ds q1 d1=>
    cases hw with
    |i m=>simp[Dt.ok] at ok
    |l _ _=>simp[Dt.ok] at ok
    | @t b ys es q2 d2=>
      cases (show x=Value.ref a from r1)
      cases (show y=Value.ref b from r2)
      obtain⟨its,rv,p,hz⟩:=I.tuple q1
      obtain⟨its2,rv2,p2,hz2⟩:=I.tuple q2
      have ok':Dt.oks n ds es=true:=by simpa[Dt.ok] using ok
      have l1:its.length=ds.length:=by rw[←rv.length,d1.length]
      have l2:its2.length=es.length:=by rw[←rv2.length,d2.length]
      have z:=LtAt.tuples (A:=A) (s:=s) (e:=fun j=>Dt.eqb (ds.getD j (.i 0)) (es.getD j (.i 0))) (t:=fun j=>ltb (ds.getD j (.i 0)) (es.getD j (.i 0))) (show s.heap.IsTuple a its.toArray from p) (show s.heap.IsTuple b its2.toArray from p2) (by lia)
       (fun j h1 h2=>by
        obtain⟨v1,c1,c2⟩:=z3B d1 rv j (by simpa using h1)
        obtain⟨v2,c3,c4⟩:=z3B d2 rv2 j (by simpa using h2)
        simpa using P v1 v2 _ _ _ _ c1 c3 c2 c4 (z4l ok' j (by rw[←l1];simpa using h1) (by rw[←l2];simpa using h2)))
       (fun j h1 h2 _=>by
        obtain⟨v1,c1,c2⟩:=z3B d1 rv j (by simpa using h1)
        obtain⟨v2,c3,c4⟩:=z3B d2 rv2 j (by simpa using h2)
        simpa using P2 v1 v2 _ _ _ _ c1 c3 c2 c4 (z4l ok' j (by rw[←l1];simpa using h1) (by rw[←l2];simpa using h2)))
      rw[q0e,q0e,l1,l2,y1y] at z
      exact z
  | @l a xs ds q1 d1=>
    cases hw with
    |i m=>simp[Dt.ok] at ok
    |t _ _=>simp[Dt.ok] at ok
    | @l b ys es q2 d2=>
      cases (show x=Value.ref a from r1)
      cases (show y=Value.ref b from r2)
      obtain⟨its,rv,p,hz⟩:=I.list q1
      obtain⟨its2,rv2,p2,hz2⟩:=I.list q2
      have ok':Dt.oks n ds es=true:=by simpa[Dt.ok] using ok
      have l1:its.length=ds.length:=by rw[←rv.length,d1.length]
      have l2:its2.length=es.length:=by rw[←rv2.length,d2.length]
      have z:=LtAt.lists (A:=A) (s:=s) (e:=fun j=>Dt.eqb (ds.getD j (.i 0)) (es.getD j (.i 0))) (t:=fun j=>ltb (ds.getD j (.i 0)) (es.getD j (.i 0))) p.isList p2.isList (by lia)
       (fun j h1 h2=>by
        obtain⟨v1,c1,c2⟩:=z3B d1 rv j (by simpa using h1)
        obtain⟨v2,c3,c4⟩:=z3B d2 rv2 j (by simpa using h2)
        simpa using P v1 v2 _ _ _ _ c1 c3 c2 c4 (z4l ok' j (by rw[←l1];simpa using h1) (by rw[←l2];simpa using h2)))
       (fun j h1 h2 _=>by
        obtain⟨v1,c1,c2⟩:=z3B d1 rv j (by simpa using h1)
        obtain⟨v2,c3,c4⟩:=z3B d2 rv2 j (by simpa using h2)
        simpa using P2 v1 v2 _ _ _ _ c1 c3 c2 c4 (z4l ok' j (by rw[←l1];simpa using h1) (by rw[←l2];simpa using h2)))
      rw[q0e,q0e,l1,l2,y1y] at z
      exact z
end
end Srt
end L2
namespace L2
open PySem PySem.Spec PyProof.Rows
namespace Srt
open PySem.W (KasT kas_sort kas_count kas_bin kas_place kas_descPart kas_tail3 kas_desc kas_asc kas_rev kas_item kas_st kas_cmp kas_runs kasC kas_range)
section
variable {n:Nat} (hn:0<n)
include hn
end
section
variable {X:Cx}{pins:List (Addr×Obj)}{σ:St}{H:Hp}{s:Shared}{l:Addr}{xs:List V}
end
end Srt
open Srt
section
variable {X:Cx}{K:PySem.W.Frag}
end
end L2
namespace L2
open PySem PySem.Spec PyProof.Rows
namespace Srt
open PySem.W (KasT kas_sort kas_count kas_bin kas_place kas_descPart kas_tail3 kas_desc kas_asc kas_rev kas_item kas_st kas_cmp kas_runs kasC kas_range KatLex KatTups kat_lt kat_cons kat_yes kat_no kat_nil kat_one)
section
variable {X:Cx}{pins:List (Addr×Obj)}{σ:St}{H:Hp}{s:Shared}{l:Addr}{xs:List V}
theorem bT:(Value.type "int" != Value.type "tuple")=true:=by first|rfl|decide|simp
theorem y4c (I:Inv X pins σ H s):∀{xs:List V}{ds:List (List Dt)}{us:List Value},IsDs X.K H xs (ds.map Dt.t)→(∀a∈ds,∃n r,a=Dt.i n::r)→Vals xs us→∃fs,KatTups s.heap us fs∧fs.length=us.length∧∀f∈fs,∃n t,f=Value.int n t
 |[],[],us,_,_,hV=>by
  cases hV
  exact⟨[],trivial,rfl,fun f hf=>nomatch hf⟩
 |[],_::_,us,h,_,_=>nomatch h
 |_::_,[],us,h,_,_=>nomatch h
 |x::xs,d::ds,us,h,hf,hV=>by
  cases hV with
  |cons r1 r2=>
  cases h with
  |cons h1 h2=>
  obtain⟨fs,t1,t2,t3⟩:=y4c I h2 (fun a ha=>hf a (q0h _ ha)) r2
  obtain⟨n,r,rfl⟩:=hf d q0j
  cases h1 with
  | @t a ys es q1 d1=>
  cases d1 with
  |cons e1 e2=>
  obtain⟨its,rv,p,hz⟩:=I.tuple q1
  cases rv with
  |cons v1 v2=>
  cases e1
  obtain⟨t,rfl⟩:=v1
  obtain⟨o,p1,p2,k,p3⟩:=id p
  cases (show _=Value.ref a from r1)
  refine⟨_::fs,⟨⟨a,o,_,k,rfl,p1,p2,p3,by rw[List.getElem?_toArray];rfl⟩,t1⟩,by rw[q0u,q0u,t2],fun f hf=>?_⟩
  rcases q0t.mp hf with rfl|hf
  ·exact⟨_,_,rfl⟩
  ·exact t3 f hf
theorem z8Y (I:Inv X pins σ H s) {A:Around}{Q:Bool→Shared→Prop}{n:Nat} (hu:A.units+n<cLine):∀{xs ys:List V}{ds es:List Dt}{its its2:List Value} (i:Nat),IsDs X.K H xs ds→IsDs X.K H ys es→Vals xs its→Vals ys its2→Dt.oks n ds es=true→(i=0→(∃k r,ds= .i k::r)∧∃k r,es= .i k::r)→Q (lts ds es) s→KatLex X.prog X.w A true (decide (its.length<its2.length)) Q (its.zip its2) i s
 |[],ys,ds,es,its,its2,i,h1,h2,v1,v2,ok,hi,h=>by
  cases h1
  cases v1
  have e:lts [] es=decide (([]:List Value).length <its2.length):=by
    cases h2<;>cases v2<;>simp[lts]
  rw[e] at h
  exact kat_nil h
 |x::xs,[],ds,es,its,its2,i,h1,h2,v1,v2,ok,hi,h=>by
  cases h2
  cases v2
  cases h1 with
  |cons a1 a2=>
  cases v1 with
  |cons b1 b2=>
  rw[lts] at h
  rw[List.zip_nil_right]
  refine kat_nil ?_
  rw[decide_eq_false (by simp)]
  exact h
 |x::xs,y::ys,ds,es,its,its2,i,h1,h2,v1,v2,ok,hi,h=>by
  cases h1 with
  | @cons _ d _ ds a1 a2=>
  cases h2 with
  | @cons _ e _ es c1 c2=>
  cases v1 with
  | @cons _ u _ us b1 b2=>
  cases v2 with
  | @cons _ u2 _ us2 f1 f2=>
  rw[Dt.oks,q1g] at ok
  rw[lts] at h
  rw[List.zip_cons_cons]
  have hd:decide ((u::us).length <(u2::us2).length)=decide (us.length<us2.length):=by simp
  rw[hd]
  refine kat_cons (told I n A hu x y d e u u2 a1 c1 b1 f1 ok.1 _ _ _ _ ?_)
  by_cases hq:Dt.eqb d e=true
  ·rw[hq]
   rw[if_pos hq] at h
   exact kat_yes (z8Y I hu (i+1) a2 c2 b2 f2 ok.2 (fun z=>by lia) h)
  ·rw[Bool.not_eq_true] at hq
   rw[hq]
   rw[if_neg (by rw[hq];decide)] at h
   refine kat_no ?_
   by_cases h0:i=0
   ·obtain⟨⟨k,r,e1⟩,k2,r2,e2⟩:=hi h0
    injection e1 with e1 _
    injection e2 with e2 _
    subst e1 e2 h0
    cases a1
    cases c1
    obtain⟨t,rfl⟩:=b1
    obtain⟨t2,rfl⟩:=f1
    exact oneLt_int h
   ·have:(true&&i==0)=false:=by simp[h0]
    rw[this]
    refine kat_one _ _ ?_
    exact y5k I n A hu x y d e u u2 a1 c1 b1 f1 ok.1 _ _ _ _ h
theorem y5K (I:Inv X pins σ H s) {A:Around}{E:Value→Shared→Prop}{Q:Bool→Shared→Prop}{n:Nat}{v u:V}{ds es:List Dt}{x y:Value} (hu:A.units+n+1<cLine) (hv:IsD X.K H v (.t ds)) (hw:IsD X.K H u (.t es)) (r1:RelV v x) (r2:RelV u y) (ok':Dt.oks n ds es=true) (f1:∃k r,ds= .i k::r) (f2:∃k r,es= .i k::r)
 (h:Q (lts ds es) s):wpAny (model X.prog X.w) A (keyLt' (tuples' true) x y) Q E s:=by
 cases hv with
 | @t a xs ds q1 d1=>
 cases hw with
 | @t b ys es q2 d2=>
 cases (show x=Value.ref a from r1)
 cases (show y=Value.ref b from r2)
 obtain⟨its,rv,p,hz⟩:=I.tuple q1
 obtain⟨its2,rv2,p2,hz2⟩:=I.tuple q2
 obtain⟨o,p1,_,k,p3⟩:=id p
 obtain⟨o2,p4,_,k2,p5⟩:=id p2
 refine kat_lt p1 p3 p4 p5 ?_
 rw[q0e,q0e]
 exact z8Y I (by lia) 0 d1 d2 rv rv2 ok' (fun _=>⟨f1,f2⟩) h
end
end Srt
open Srt
section
variable {X:Cx}{K:PySem.W.Frag}
end
end L2
set_option maxHeartbeats 1000000
namespace L2
open PySem PySem.Spec PyProof.Rows
namespace Pm
def z2n:Bool→Keyed→Array Keyed→Nat→Nat→Nat→StateT SortSt Sem (Option Nat):=sortPriv%PySem.Builtin.gallop
def z5T:Array Keyed→Array Keyed→StateT SortSt Sem (Array Keyed):=sortPriv%PySem.Builtin.mergeLo
def z5U:Array Keyed→Array Keyed→StateT SortSt Sem (Array Keyed):=sortPriv%PySem.Builtin.mergeHi
def z6D (g:Nat):StateT SortSt Sem Unit:=modify fun s=>SortSt.mk' (kindOf s) (arrOf s) (pendingOf s) g (failedOf s)
structure SB (k:SortKind) (a₀:Array Keyed) (p:Array (Nat×Nat×Nat)) (st:SortSt):Prop where
 perm:(arrOf st).Perm a₀
 kind:kindOf st=k
 failed:failedOf st=none
 pend:pendingOf st=p
section
variable {M:Model}{A:Around}{E:Value→Shared→Prop}{s:Shared}{a₀:Array Keyed}{k:SortKind}{p:Array (Nat×Nat×Nat)}
def Ans (M:Model) (A:Around) (E:Value→Shared→Prop) (s:Shared) (k:SortKind) (a₀:Array Keyed):Prop:=
 ∀(st:SortSt) (x y:Keyed) (Q:Option Bool→SortSt→Prop),kindOf st=k→x∈a₀.toList→y∈a₀.toList→(∀b,Q (some b) st)→wpS M A E s (lt' x y) Q st
theorem SB.size {st:SortSt} (h:SB k a₀ p st):(arrOf st).size =a₀.size:=h.perm.size_eq
theorem SB.set {st:SortSt} (h:SB k a₀ p st) {xs:Array Keyed} (hp:xs.Perm (arrOf st)):SB k a₀ p (setArr st xs):=⟨hp.trans h.perm,h.kind,h.failed,h.pend⟩
theorem SB.mem {st:SortSt} (h:SB k a₀ p st) {i:Nat} (hi:i<a₀.size):∃x,(arrOf st)[i]? =some x∧x∈a₀.toList:=by
 have hi':i<(arrOf st).size :=by rw[h.size];exact hi
 exact⟨(arrOf st)[i],getElem?_pos _ i hi',(q0Z.mp h.perm).mem_iff.mp (by simp)⟩
theorem z3g {st:SortSt}{i j:Nat}{Q:Option Bool→SortSt→Prop} (hA:Ans M A E s k a₀) (hB:SB k a₀ p st) (hi:i<a₀.size) (hj:j<a₀.size) (h:∀b,Q (some b) st):wpS M A E s (ltAt' i j) Q st:=by
 obtain⟨x,ex,mx⟩:=hB.mem hi
 obtain⟨y,ey,my⟩:=hB.mem hj
 rw[ltAt'_eq]
 refine wpS_bind (wpS_get ?_)
 show wpS _ _ _ _ (do let x ←elem' (arrOf st) i;let y ←elem' (arrOf st) j;lt' x y) Q st
 rw[elem'_eq,elem'_eq,ex,ey]
 refine wpS_bind (wpS_pure (wpS_bind (wpS_pure ?_)))
 exact hA st x y Q hB.kind mx my h
theorem z8l {st:SortSt}{i j:Nat}{Q:Unit→SortSt→Prop} (h:Q () (setArr st (mirror (arrOf st) i j ((j - i)/2)))):wpS M A E s (reverseSlice' i j) Q st:=by
 rw[reverseSlice'_eq];exact wpS_modify h
theorem z8n {st:SortSt}{lo nrem:Nat}{Q:Option Nat→SortSt→Prop} (hA:Ans M A E s k a₀) (hB:SB k a₀ p st) (hn:lo+nrem≤a₀.size) (h1:1≤nrem) (h:∀m st',SB k a₀ p st'→1≤m→m≤nrem→Q (some m) st'):
 wpS M A E s (countRun' lo nrem) Q st:=by
 rw[countRun'_eq]
 refine wpS_bind (wpS_mono (wpS_forRange (I:=fun x c st'=>st'=st∧c=(none,x)) (Q:=fun c st'=>st'=st∧∃n,c=(none,n)∧1≤n∧n≤nrem) ?_ ?_ ⟨rfl,rfl⟩) ?_)
 ·rintro x c st' h1 h2 ⟨rfl,rfl⟩
  dsimp only
  refine wpS_bind (z3g hA hB (by lia) (by lia) fun b=>?_)
  dsimp only
  cases b
  ·exact wpS_pure ⟨rfl,rfl⟩
  ·exact wpS_pure ⟨rfl,x,rfl,h1,by lia⟩
 ·rintro c st' ⟨rfl,rfl⟩
  exact⟨rfl,_,rfl,by lia,by lia⟩
 rintro c st' ⟨rfl,n,rfl,n1,n2⟩
 dsimp only
 by_cases e:n=nrem
 ·rw[if_pos (by simpa using e)]
  exact wpS_pure (h n _ hB n1 n2)
 rw[if_neg (by simpa using e)]
 by_cases g:n>1
 case' pos=>
  rw[if_pos g]
  refine wpS_bind (z3g hA hB (by lia) (by lia) fun b=>?_)
  cases b
  case' true=>exact wpS_pure (h n _ hB n1 n2)
  refine wpS_bind (z8l ?_)
  have hC:=hB.set (mirror_perm (arrOf st') lo (lo+n) ((lo+n - lo)/2))
 case' neg=>
  rw[if_neg g]
  have hC:=hB
 all_goals
  refine wpS_bind (wpS_lift (wpAny_rule ⟨rfl,?_⟩))
  refine wpS_bind (wpS_mono (wpS_forRange (I:=fun x c st'=>∃q,c=(none,x,q)∧SB k a₀ p st') (Q:=fun c st'=>∃n q,c=(none,n,q)∧1≤n∧n≤nrem∧SB k a₀ p st') ?_ ?_ ⟨0,rfl,hC⟩) ?_)
  ·rintro x c st' h1 h2 ⟨q,rfl,hC⟩
   refine wpS_bind (z3g hA hC (by dsimp only;lia) (by dsimp only;lia) fun b=>?_)
   cases b
   ·refine wpS_bind (z3g hA hC (by dsimp only;lia) (by dsimp only;lia) fun b=>?_)
    cases b
    ·exact wpS_pure ⟨_,rfl,hC⟩
    ·exact wpS_pure ⟨x,q,rfl,by lia,by lia,hC⟩
   ·dsimp only
    rw[if_pos rfl]
    by_cases g:q>0
    ·rw[if_pos g]
     exact wpS_bind (z8l (wpS_pure ⟨_,rfl,hC.set (mirror_perm _ _ _ _)⟩))
    ·rw[if_neg g]
     exact wpS_pure ⟨_,rfl,hC⟩
  ·rintro c st' ⟨q,rfl,hC⟩
   exact⟨_,_,rfl,by lia,by lia,hC⟩
  ·rintro c st' ⟨m,q,rfl,m1,m2,hC⟩
   dsimp only
   by_cases g:q>0
   case' pos=>
        rw[if_pos g]
        refine wpS_bind (z8l ?_)
        have hD:=hC.set (mirror_perm (arrOf st') (lo+m - (q+1)) (lo+m) ((lo+m - (lo+m - (q+1)))/2))
   case' neg=>
        rw[if_neg g]
        have hD:=hC
   all_goals
        refine wpS_bind (z8l ?_)
        refine wpS_bind (wpS_mono (wpS_forRange (I:=fun x c st'=>c=(none,x)∧SB k a₀ p st') (Q:=fun c st'=>∃n,c=(none,n)∧1≤n∧n≤nrem∧SB k a₀ p st') ?_ ?_ ⟨rfl,hD.set (mirror_perm _ _ _ _)⟩) ?_)
        ·rintro x c st' h1 h2 ⟨rfl,hC⟩
         refine wpS_bind (z3g hA hC (by dsimp only;lia) (by dsimp only;lia) fun b=>?_)
         cases b
         ·exact wpS_pure ⟨rfl,hC⟩
         ·exact wpS_pure ⟨x,rfl,by lia,by lia,hC⟩
        ·rintro c st' ⟨rfl,hC⟩
         exact⟨_,rfl,by lia,by lia,hC⟩
        ·rintro c st' ⟨n,rfl,n1,n2,hC⟩
         exact wpS_pure (h n _ hC n1 n2)
theorem y3J {st:SortSt}{lo n ok:Nat}{Q:Bool→SortSt→Prop} (hA:Ans M A E s k a₀) (hB:SB k a₀ p st) (hn:lo+n≤a₀.size) (h:∀st',SB k a₀ p st'→Q true st'):wpS M A E s (binarySort' lo n ok) Q st:=by
 rw[binarySort'_eq]
 refine wpS_bind (wpS_mono (wpS_forRange (I:=fun _ c st'=>c=(none,())∧SB k a₀ p st') (Q:=fun c st'=>c=(none,())∧SB k a₀ p st') ?_ (fun _ _ h=>h) ⟨rfl,hB⟩) ?_)
 ·rintro i c st' h1 h2 ⟨rfl,hC⟩
  refine wpS_bind (wpS_mono (wpS_forRange (I:=fun _ c st''=>∃l r,c=(none,l,r)∧r≤i∧SB k a₀ p st'') (Q:=fun c st''=>∃l r,c=(none,l,r)∧SB k a₀ p st'') ?_ ?_ ⟨0,i,rfl,q0k _,hC⟩) ?_)
  ·rintro x c st'' _ _ ⟨l,r,rfl,hr,hD⟩
   dsimp only
   by_cases g:l≥r
   ·rw[if_pos g]
    exact wpS_pure ⟨_,_,rfl,hD⟩
   ·rw[if_neg g]
    refine wpS_bind (z3g hA hD (by lia) (by lia) fun b=>?_)
    cases b
    ·exact wpS_pure ⟨_,_,rfl,hr,hD⟩
    ·exact wpS_pure ⟨_,_,rfl,by lia,hD⟩
  ·rintro c st'' ⟨l,r,rfl,_,hD⟩
   exact⟨_,_,rfl,hD⟩
  ·rintro c st'' ⟨l,r,rfl,hD⟩
   show wpS _ _ _ _ (do moveDown' (lo+i) (lo+l);pure (ForInStep.yield (none,()))) _ _
   rw[moveDown'_eq]
   exact wpS_bind (wpS_modify (wpS_pure ⟨rfl,hD.set (bubble_perm _ _ _)⟩))
 ·rintro c st' ⟨rfl,hC⟩
  exact wpS_pure (h _ hC)
theorem z9X (left:Bool) (key:Keyed) (arr:Array Keyed) (base n hint:Nat):z2n left key arr base n hint=(do
 let beyond (i:Nat):StateT SortSt Sem (Option Bool):=do
  let x ←elem' arr (base+i)
  if left then lt' x key else return (←lt' key x).map (!·)
 let mut lastofs:=0
 let mut ofs:=1
 let mut lo:=0
 let mut hi:=0
 let some right ←beyond hint|return none
 if right then
  let maxofs:=n - hint
  for _ in [0:n] do
   if ofs≥maxofs then break
   let some more ←beyond (hint+ofs)|return none
   if !more then break
   lastofs:=ofs
   ofs:=2*ofs+1
  lo:=hint+lastofs+1
  hi:=hint+min ofs maxofs
 else
  let maxofs:=hint+1
  for _ in [0:n] do
   if ofs≥maxofs then break
   let some found ←beyond (hint - ofs)|return none
   if found then break
   lastofs:=ofs
   ofs:=2*ofs+1
  lo:=hint+1 - min ofs maxofs
  hi:=hint - lastofs
 for _ in [0:n] do
  if lo≥hi then break
  let m:=lo+(hi - lo)/2
  let some more ←beyond m|return none
  if more then lo:=m+1 else hi:=m
 return some hi):=rfl
theorem z2O {st:SortSt}{left:Bool}{key:Keyed}{arr:Array Keyed}{i:Nat}{Q:Option Bool→SortSt→Prop} (hA:Ans M A E s k a₀) (hk:kindOf st=k) (hy:key∈a₀.toList) (hr:∀x∈arr.toList,x∈a₀.toList) (hi:i<arr.size) (h:∀b,Q (some b) st):
 wpS M A E s (do let x ←elem' arr i;if left then lt' x key else return (←lt' key x).map (!·)) Q st:=by
 have hm:arr[i]∈a₀.toList:=hr _ (by simp)
 rw[elem'_eq,getElem?_pos _ i hi]
 refine wpS_bind (wpS_pure ?_)
 cases left
 ·exact wpS_bind (hA st _ _ _ hk hy hm fun b=>wpS_pure (h _))
 ·exact hA st _ _ _ hk hm hy h
theorem z1H {st:SortSt}{left:Bool}{key:Keyed}{arr:Array Keyed}{base n hint:Nat}{Q:Option Nat→SortSt→Prop} (hA:Ans M A E s k a₀) (hk:kindOf st=k) (hy:key∈a₀.toList) (hr:∀x∈arr.toList,x∈a₀.toList) (hn:base+n≤arr.size) (hh:hint<n) (h:∀m,m≤n→Q (some m) st):
 wpS M A E s (z2n left key arr base n hint) Q st:=by
 rw[z9X]
 refine wpS_bind (z2O hA hk hy hr (by lia) fun b=>?_)
 dsimp only
 cases b
 case' true=>
  rw[if_pos rfl]
  refine wpS_bind (wpS_mono (wpS_forRange (I:=fun _ c st'=>∃l o,c=(none,l,o)∧kindOf st'=k∧∀m,m≤n→Q (some m) st') (Q:=fun c st'=>∃l o,c=(none,l,o)∧kindOf st'=k∧∀m,m≤n→Q (some m) st') ?_ (fun _ _ h=>h) ⟨0,1,rfl,hk,h⟩) ?_)
  ·rintro x c st' _ _ ⟨l,o,rfl,hk,h⟩
   dsimp only
   by_cases g:o≥n - hint
   ·rw[if_pos g]
    exact wpS_pure ⟨l,o,rfl,hk,h⟩
   ·rw[if_neg g]
    refine wpS_bind (z2O hA hk hy hr (by lia) fun b=>?_)
    cases b
    ·exact wpS_pure ⟨_,_,rfl,hk,h⟩
    ·exact wpS_pure ⟨_,_,rfl,hk,h⟩
  clear hk h
  rintro c st' ⟨l,o,rfl,hk,h⟩
  dsimp only
  have hi0:hint+min o (n - hint)≤n:=by lia
  generalize hint+min o (n - hint)=r0 at hi0 ⊢
  generalize hint+l+1=l0
 case' false=>
  rw[if_neg (by decide)]
  refine wpS_bind (wpS_mono (wpS_forRange (I:=fun _ c st'=>∃l o,c=(none,l,o)∧kindOf st'=k∧∀m,m≤n→Q (some m) st') (Q:=fun c st'=>∃l o,c=(none,l,o)∧kindOf st'=k∧∀m,m≤n→Q (some m) st') ?_ (fun _ _ h=>h) ⟨0,1,rfl,hk,h⟩) ?_)
  ·rintro x c st' _ _ ⟨l,o,rfl,hk,h⟩
   dsimp only
   by_cases g:o≥hint+1
   ·rw[if_pos g]
    exact wpS_pure ⟨l,o,rfl,hk,h⟩
   ·rw[if_neg g]
    refine wpS_bind (z2O hA hk hy hr (by lia) fun b=>?_)
    cases b
    ·exact wpS_pure ⟨_,_,rfl,hk,h⟩
    ·exact wpS_pure ⟨_,_,rfl,hk,h⟩
  clear hk h
  rintro c st' ⟨l,o,rfl,hk,h⟩
  dsimp only
  have hi0:hint - l≤n:=by lia
  generalize hint - l=r0 at hi0 ⊢
  generalize hint+1 - min o (hint+1)=l0
 all_goals
  refine wpS_bind (wpS_mono (wpS_forRange (I:=fun _ c st'=>∃l o,c=(none,l,o)∧o≤n∧kindOf st'=k∧∀m,m≤n→Q (some m) st') (Q:=fun c st'=>∃l o,c=(none,l,o)∧o≤n∧kindOf st'=k∧∀m,m≤n→Q (some m) st') ?_ (fun _ _ h=>h) ⟨l0,r0,rfl,hi0,hk,h⟩) ?_)
  ·rintro x c st' _ _ ⟨l,o,rfl,ho,hk,h⟩
   dsimp only
   by_cases g:l≥o
   ·rw[if_pos g]
    exact wpS_pure ⟨l,o,rfl,ho,hk,h⟩
   ·rw[if_neg g]
    refine wpS_bind (z2O hA hk hy hr (by lia) fun b=>?_)
    cases b
    ·exact wpS_pure ⟨_,_,rfl,by lia,hk,h⟩
    ·exact wpS_pure ⟨_,_,rfl,ho,hk,h⟩
  ·rintro c st' ⟨l,o,rfl,ho,hk,h⟩
   exact wpS_pure (h _ ho)
theorem z7V (a b:Array Keyed):z5T a b=(do
 rule "list.sort.merge-lo"
 let total:=a.size+b.size
 let done (out:Array Keyed) (ia ib:Nat):=out++a.extract ia a.size++b.extract ib b.size
 let lastOfA (out:Array Keyed) (ia ib:Nat):=out++b.extract ib b.size++a.extract ia a.size
 let mut out:Array Keyed:= #[←elem' b 0]
 let mut ia:=0
 let mut ib:=1
 if ib==b.size then return done out ia ib
 if ia+1==a.size then return lastOfA out ia ib
 let mut minGallop:=gallopOf (←get)
 for _ in [0:total] do
  let mut acount:=0
  let mut bcount:=0
  for _ in [0:total] do
     let some bWins ←lt' (←elem' b ib) (←elem' a ia)|return done out ia ib
     if bWins then
      out:=out.push (←elem' b ib);ib:=ib+1;bcount:=bcount+1;acount:=0
      if ib==b.size then return done out ia ib
      if bcount≥minGallop then break
     else
      out:=out.push (←elem' a ia);ia:=ia+1;acount:=acount+1;bcount:=0
      if ia+1==a.size then return lastOfA out ia ib
      if acount≥minGallop then break
  rule "list.sort.gallop"
  minGallop:=minGallop+1
  for _ in [0:total] do
     if minGallop>1 then minGallop:=minGallop - 1
     z6D minGallop
     let some k ←z2n false (←elem' b ib) a ia (a.size - ia) 0|return done out ia ib
     acount:=k
     if k>0 then
      out:=out++a.extract ia (ia+k);ia:=ia+k
      if ia+1==a.size then return lastOfA out ia ib
      if ia==a.size then return done out ia ib
     out:=out.push (←elem' b ib);ib:=ib+1
     if ib==b.size then return done out ia ib
     let some k ←z2n true (←elem' a ia) b ib (b.size - ib) 0|return done out ia ib
     bcount:=k
     if k>0 then
      out:=out++b.extract ib (ib+k);ib:=ib+k
      if ib==b.size then return done out ia ib
     out:=out.push (←elem' a ia);ia:=ia+1
     if ia+1==a.size then return lastOfA out ia ib
     if acount<7&&bcount<7 then break
  minGallop:=minGallop+1
  z6D minGallop
 unsupported "internal:list.sort.merge-bound"):=rfl
def Gn (a b out:Array Keyed) (ia ib:Nat):Prop:=out.toList.Perm (a.toList.take ia++b.toList.take ib)
theorem z1m {α:Type} (a:Array α) (i j:Nat):(a.extract i j).toList =(a.toList.drop i).take (j - i):=by rw[Array.toList_extract]
theorem z6r {α:Type} (l:List α) (i k:Nat):l.take (i+k)=l.take i++(l.drop i).take k:=List.take_add
theorem Gn.as {a b out:Array Keyed}{ia ib:Nat} (h:Gn a b out ia ib) (j:Nat):Gn a b (out++a.extract ia (ia+j)) (ia+j) ib:=by
 unfold Gn at*
 rw[q0O,z1m,q1s,z6r,q1h]
 refine (h.append_right _).trans ?_
 rw[q1h]
 exact List.Perm.append_left _ List.perm_append_comm
theorem Gn.bs {a b out:Array Keyed}{ia ib:Nat} (h:Gn a b out ia ib) (j:Nat):Gn a b (out++b.extract ib (ib+j)) ia (ib+j):=by
 unfold Gn at*
 rw[q0O,z1m,q1s,z6r,←q1h]
 exact h.append_right _
theorem Gn.a {a b out:Array Keyed}{ia ib:Nat} (h:Gn a b out ia ib) (hi:ia<a.size):Gn a b (out.push a[ia]) (ia+1) ib:=by
 have e:out.push a[ia]=out++a.extract ia (ia+1):=by
  apply Array.ext'
  rw[Array.toList_push,q0O,z1m,q1s,←List.getElem_cons_drop (by simpa using hi)]
  simp
 rw[e];exact h.as 1
theorem Gn.b {a b out:Array Keyed}{ia ib:Nat} (h:Gn a b out ia ib) (hi:ib<b.size):Gn a b (out.push b[ib]) ia (ib+1):=by
 have e:out.push b[ib]=out++b.extract ib (ib+1):=by
  apply Array.ext'
  rw[Array.toList_push,q0O,z1m,q1s,←List.getElem_cons_drop (by simpa using hi)]
  simp
 rw[e];exact h.bs 1
theorem Gn.done {a b out:Array Keyed}{ia ib:Nat} (h:Gn a b out ia ib) (ha:ia≤a.size) (hb:ib≤b.size):(out++a.extract ia a.size++b.extract ib b.size).Perm (a++b):=by
 have h2:=(h.as (a.size - ia)).bs (b.size - ib)
 rw[q2d ha,q2d hb] at h2
 unfold Gn at h2
 rw[q0Z,q0O (xs:=a)]
 refine h2.trans ?_
 rw[q1f (by simp),q1f (by simp)]
theorem Gn.last {a b out:Array Keyed}{ia ib:Nat} (h:Gn a b out ia ib) (ha:ia≤a.size) (hb:ib≤b.size):(out++b.extract ib b.size++a.extract ia a.size).Perm (a++b):=by
 have h2:=(h.bs (b.size - ib)).as (a.size - ia)
 rw[q2d ha,q2d hb] at h2
 unfold Gn at h2
 rw[q0Z,q0O (xs:=a)]
 refine h2.trans ?_
 rw[q1f (by simp),q1f (by simp)]
structure Sm (st st':SortSt):Prop where
 arr:arrOf st'=arrOf st
 kind:kindOf st'=kindOf st
 pend:pendingOf st'=pendingOf st
 failed:failedOf st'=failedOf st
theorem z0M {st:SortSt}{arr:Array Keyed}{i:Nat}{Q:Keyed→SortSt→Prop} (hi:i<arr.size) (h:Q arr[i] st):wpS M A E s (elem' arr i) Q st:=by
 rw[elem'_eq,getElem?_pos _ i hi]
 exact wpS_pure h
theorem z5o {α:Type}{c:Prop} [Decidable c] {t e:StateT SortSt Sem α}{Q:α→SortSt→Prop}{st:SortSt} (h1:c→wpS M A E s t Q st) (h2:¬c→wpS M A E s e Q st):wpS M A E s (if c then t else e) Q st:=by
 by_cases g:c
 ·rw[if_pos g];exact h1 g
 ·rw[if_neg g];exact h2 g
theorem z1I {α:Type}{x y:Nat}{t e:StateT SortSt Sem α}{Q:α→SortSt→Prop}{st:SortSt} (h1:x=y→wpS M A E s t Q st) (h2:x≠y→wpS M A E s e Q st):wpS M A E s (if (x==y)=true then t else e) Q st:=
 z5o (fun g=>h1 (by simpa using g)) (fun g=>h2 (by simpa using g))
theorem z8m {g:Nat}{Q:Unit→SortSt→Prop}{st:SortSt} (h:∀st',Sm st st'→Q () st'):wpS M A E s (z6D g) Q st:=wpS_modify (h _ ⟨rfl,rfl,rfl,rfl⟩)
theorem Sm.trans {a b c:SortSt} (h:Sm a b) (g:Sm b c):Sm a c:=⟨g.arr.trans h.arr,g.kind.trans h.kind,g.pend.trans h.pend,g.failed.trans h.failed⟩
theorem mem_at {arr:Array Keyed} (hr:∀x∈arr.toList,x∈a₀.toList) {i:Nat} (hi:i<arr.size):arr[i]∈a₀.toList:=hr _ (by simp)
theorem wp_lo {st:SortSt}{a b:Array Keyed}{Q:Array Keyed→SortSt→Prop} (hA:Ans M A E s k a₀) (hk:kindOf st=k) (ha:∀x∈a.toList,x∈a₀.toList) (hb:∀x∈b.toList,x∈a₀.toList) (a1:1≤a.size) (b1:1≤b.size) (h:∀c st',c.Perm (a++b)→Sm st st'→Q c st'):
 wpS M A E s (z5T a b) Q st:=by
 rw[z7V]
 refine wpS_bind (wpS_lift (wpAny_rule ⟨rfl,?_⟩))
 refine wpS_bind (z0M b1 ?_)
 dsimp only
 have hG:Gn a b #[b[0]] 0 1:=by
  have:Gn a b #[] 0 0:=List.Perm.refl _
  exact this.b b1
 have s0:Sm st st:=⟨rfl,rfl,rfl,rfl⟩
 refine z1I (fun g=>wpS_pure (h _ _ (hG.done (by lia) (by lia)) s0)) (fun g1=>?_)
 refine z1I (fun g=>wpS_pure (h _ _ (hG.last (by lia) (by lia)) s0)) (fun g2=>?_)
 refine wpS_bind (wpS_get ?_)
 refine wpS_bind (wpS_mono (wpS_forRange (I:=fun x c st'=>∃out ia ib mg,c=(none,out,ia,ib,mg)∧Gn a b out ia ib∧ia+1<a.size∧ib<b.size∧x+1≤ia+ib∧Sm st st') (Q:=fun c st'=>∃r q,c=(some r,q)∧r.Perm (a++b)∧Sm st st') ?_ ?_ ⟨_,_,_,_,rfl,hG,by lia,by lia,by lia,s0⟩) ?_)
 ·clear hG g1 g2
  rintro x c st1 _ hx ⟨out,ia,ib,mg,rfl,hG,i1,i2,i3,hS⟩
  refine wpS_bind (wpS_mono (wpS_forRange (I:=fun y c st'=>∃out ia ib ac bc,c=(none,out,ia,ib,ac,bc)∧Gn a b out ia ib∧ia+1<a.size∧ib<b.size∧x+y+1≤ia+ib∧Sm st st') (Q:=fun c st'=>(∃r q,c=(some r,q)∧r.Perm (a++b)∧Sm st st')∨∃out ia ib ac bc,c=(none,out,ia,ib,ac,bc)∧Gn a b out ia ib∧ia+1<a.size∧ib<b.size∧x+2≤ia+ib∧Sm st st') ?_ ?_ ⟨_,_,_,_,_,rfl,hG,i1,i2,by lia,hS⟩) ?_)
  ·clear hG i1 i2 i3 hS
   rintro y c st2 _ hy ⟨out,ia,ib,ac,bc,rfl,hG,i1,i2,i3,hS⟩
   refine wpS_bind (z0M i2 (wpS_bind (z0M (by dsimp only;lia) (wpS_bind (hA _ _ _ _ (hS.kind.trans hk) (mem_at hb _) (mem_at ha _) fun w=>?_)))))
   cases w
   ·dsimp only
    rw[if_neg (by decide)]
    refine wpS_bind (z0M (by lia) ?_)
    have hG1:=hG.a (by lia:ia<a.size)
    refine z1I (fun g=>wpS_pure (.inl ⟨_,_,rfl,hG1.last (by lia) (by lia),hS⟩)) (fun g=>?_)
    refine z5o (fun _=>wpS_pure (.inr ⟨_,_,_,_,_,rfl,hG1,by lia,i2,by lia,hS⟩)) (fun _=>wpS_pure ⟨_,_,_,_,_,rfl,hG1,by lia,i2,by lia,hS⟩)
   ·dsimp only
    rw[if_pos rfl]
    refine wpS_bind (z0M i2 ?_)
    have hG1:=hG.b i2
    refine z1I (fun g=>wpS_pure (.inl ⟨_,_,rfl,hG1.done (by lia) (by lia),hS⟩)) (fun g=>?_)
    refine z5o (fun _=>wpS_pure (.inr ⟨_,_,_,_,_,rfl,hG1,i1,by lia,by lia,hS⟩)) (fun _=>wpS_pure ⟨_,_,_,_,_,rfl,hG1,i1,by lia,by lia,hS⟩)
  ·rintro c st2 ⟨out,ia,ib,ac,bc,rfl,hG,i1,i2,i3,hS⟩
   exact .inr ⟨_,_,_,_,_,rfl,hG,i1,i2,by lia,hS⟩
  clear hG i1 i2 i3 hS
  rintro c st2 (⟨r,q,rfl,hp,hS⟩|⟨out,ia,ib,ac,bc,rfl,hG,i1,i2,i3,hS⟩)
  ·exact wpS_pure ⟨_,_,rfl,hp,hS⟩
  refine wpS_bind (wpS_lift (wpAny_rule ⟨rfl,?_⟩))
  refine wpS_bind (wpS_mono (wpS_forRange (I:=fun _ c st'=>∃out ia ib mg ac bc,c=(none,out,ia,ib,mg,ac,bc)∧Gn a b out ia ib∧ia+1<a.size∧ib<b.size∧x+2≤ia+ib∧Sm st st') (Q:=fun c st'=>(∃r q,c=(some r,q)∧r.Perm (a++b)∧Sm st st')∨∃out ia ib mg ac bc,c=(none,out,ia,ib,mg,ac,bc)∧Gn a b out ia ib∧ia+1<a.size∧ib<b.size∧x+2≤ia+ib∧Sm st st') ?_ (fun _ _ h=> .inr h) ⟨_,_,_,_,_,_,rfl,hG,i1,i2,i3,hS⟩) ?_)
  ·clear hG i1 i2 i3 hS
   rintro y c st3 _ hy ⟨out,ia,ib,mg,ac,bc,rfl,hG,i1,i2,i3,hS⟩
   dsimp only
   refine z5o (fun _=>?_) (fun _=>?_)
   all_goals
        refine wpS_bind (z8m fun st4 hS4=>?_)
        replace hS4:=hS.trans hS4
        refine wpS_bind (z0M i2 ?_)
        refine wpS_bind (z1H hA (hS4.kind.trans hk) (mem_at hb i2) ha (by lia) (by lia) fun j hj=>?_)
        dsimp only
        by_cases g1:j>0
        case' pos=>
         rw[if_pos g1]
         have hG1:=hG.as j
         refine z1I (fun g=>wpS_pure (.inl ⟨_,_,rfl,hG1.last (by lia) (by lia),hS4⟩)) (fun g2=>?_)
         refine z1I (fun g=>wpS_pure (.inl ⟨_,_,rfl,hG1.done (by lia) (by lia),hS4⟩)) (fun g3=>?_)
         have j1:ia+j+1<a.size:=by lia
         have j2:x+2≤ia+j+ib:=by lia
        case' neg=>
         rw[if_neg g1]
         have hG1:=hG
         have j1:=i1
         have j2:=i3
        all_goals
         refine wpS_bind (z0M i2 ?_)
         have hG2:=hG1.b i2
         refine z1I (fun g=>wpS_pure (.inl ⟨_,_,rfl,hG2.done (by lia) (by lia),hS4⟩)) (fun g4=>?_)
         refine wpS_bind (z0M (by lia) ?_)
         refine wpS_bind (z1H hA (hS4.kind.trans hk) (mem_at ha _) hb (by lia) (by lia) fun l hl=>?_)
         dsimp only
         by_cases g5:l>0
         case' pos=>
          rw[if_pos g5]
          have hG3:=hG2.bs l
          refine z1I (fun g=>wpS_pure (.inl ⟨_,_,rfl,hG3.done (by lia) (by lia),hS4⟩)) (fun g6=>?_)
          have l1:ib+1+l<b.size:=by lia
         case' neg=>
          rw[if_neg g5]
          have hG3:=hG2
          have l1:ib+1<b.size:=by lia
         all_goals
          refine wpS_bind (z0M (by lia) ?_)
          have hG4:=hG3.a (by lia)
          refine z1I (fun g=>wpS_pure (.inl ⟨_,_,rfl,hG4.last (by lia) (by lia),hS4⟩)) (fun g7=>?_)
          refine z5o (fun _=>wpS_pure (.inr ⟨_,_,_,_,_,_,rfl,hG4,by lia,l1,by lia,hS4⟩)) (fun _=>wpS_pure ⟨_,_,_,_,_,_,rfl,hG4,by lia,l1,by lia,hS4⟩)
  clear hG i1 i2 i3 hS
  rintro c st3 (⟨r,q,rfl,hp,hS⟩|⟨out,ia,ib,mg,ac,bc,rfl,hG,i1,i2,i3,hS⟩)
  ·exact wpS_pure ⟨_,_,rfl,hp,hS⟩
  ·exact wpS_bind (z8m fun st4 hS4=>wpS_pure ⟨_,_,_,_,rfl,hG,i1,i2,by lia,hS.trans hS4⟩)
 ·rintro c st1 ⟨out,ia,ib,mg,rfl,hG,i1,i2,i3,hS⟩
  lia
 ·rintro c st1 ⟨r,q,rfl,hp,hS⟩
  exact wpS_pure (h _ _ hp hS)
theorem z7W (a b:Array Keyed):z5U a b=(do
 rule "list.sort.merge-hi"
 let total:=a.size+b.size
 let done (out:Array Keyed) (na nb:Nat):=a.extract 0 na++b.extract 0 nb++out.reverse
 let firstOfB (out:Array Keyed) (na nb:Nat):=b.extract 0 nb++a.extract 0 na++out.reverse
 let mut na:=a.size - 1
 let mut nb:=b.size
 let mut out:Array Keyed:= #[←elem' a na]
 if na==0 then return done out na nb
 if nb==1 then return firstOfB out na nb
 let mut minGallop:=gallopOf (←get)
 for _ in [0:total] do
  let mut acount:=0
  let mut bcount:=0
  for _ in [0:total] do
     let some aWins ←lt' (←elem' b (nb - 1)) (←elem' a (na - 1))|return done out na nb
     if aWins then
      na:=na - 1;out:=out.push (←elem' a na);acount:=acount+1;bcount:=0
      if na==0 then return done out na nb
      if acount≥minGallop then break
     else
      nb:=nb - 1;out:=out.push (←elem' b nb);bcount:=bcount+1;acount:=0
      if nb==1 then return firstOfB out na nb
      if bcount≥minGallop then break
  rule "list.sort.gallop"
  minGallop:=minGallop+1
  for _ in [0:total] do
     if minGallop>1 then minGallop:=minGallop - 1
     z6D minGallop
     let some at_ ←z2n false (←elem' b (nb - 1)) a 0 na (na - 1)|return done out na nb
     let k:=na - at_
     acount:=k
     if k>0 then
      out:=out++(a.extract at_ na).reverse;na:=at_
      if na==0 then return done out na nb
     nb:=nb - 1;out:=out.push (←elem' b nb)
     if nb==1 then return firstOfB out na nb
     let some at_ ←z2n true (←elem' a (na - 1)) b 0 nb (nb - 1)|return done out na nb
     let k:=nb - at_
     bcount:=k
     if k>0 then
      out:=out++(b.extract at_ nb).reverse;nb:=at_
      if nb==1 then return firstOfB out na nb
      if nb==0 then return done out na nb
     na:=na - 1;out:=out.push (←elem' a na)
     if na==0 then return done out na nb
     if acount<7&&bcount<7 then break
  minGallop:=minGallop+1
  z6D minGallop
 unsupported "internal:list.sort.merge-bound"):=rfl
def Gh (a b out:Array Keyed) (na nb:Nat):Prop:=out.toList.Perm (a.toList.drop na++b.toList.drop nb)
theorem z3d {α:Type}{l:List α}{i j:Nat} (h:i≤j):l.drop i=(l.drop i).take (j - i)++l.drop j:=by
 have:=q1P (j - i) (l.drop i)
 rw[List.drop_drop,q2d h] at this
 exact this.symm
theorem Gh.as {a b out:Array Keyed}{na nb i:Nat} (h:Gh a b out na nb) (hi:i≤na):Gh a b (out++(a.extract i na).reverse) i nb:=by
 unfold Gh at*
 rw[q0O,q1Z,z1m]
 have e:=z3d (l:=a.toList) hi
 generalize (a.toList.drop i).take (na - i)=T at*
 rw[e]
 refine (h.append (List.reverse_perm _)).trans ?_
 refine List.perm_append_comm.trans ?_
 rw[q1h]
theorem Gh.bs {a b out:Array Keyed}{na nb i:Nat} (h:Gh a b out na nb) (hi:i≤nb):Gh a b (out++(b.extract i nb).reverse) na i:=by
 unfold Gh at*
 rw[q0O,q1Z,z1m]
 have e:=z3d (l:=b.toList) hi
 generalize (b.toList.drop i).take (nb - i)=T at*
 rw[e]
 refine (h.append (List.reverse_perm _)).trans ?_
 rw[q1h]
 exact List.Perm.append_left _ List.perm_append_comm
theorem z8M {α:Type}{a:Array α}{i:Nat} (hi:i<a.size):(a.extract i (i+1)).reverse = #[a[i]]:=by
 apply Array.ext'
 rw[q1Z,z1m,q1s,←List.getElem_cons_drop (by simpa using hi)]
 simp
theorem Gh.a {a b out:Array Keyed}{na nb:Nat} (h:Gh a b out na nb) (h1:1≤na) (hi:na - 1<a.size):Gh a b (out.push a[na - 1]) (na - 1) nb:=by
 have:=h.as (i:=na - 1) (by lia)
 have e:=z8M hi
 rw[show na - 1+1=na by lia] at e
 rw[e] at this
 exact this
theorem Gh.b {a b out:Array Keyed}{na nb:Nat} (h:Gh a b out na nb) (h1:1≤nb) (hi:nb - 1<b.size):Gh a b (out.push b[nb - 1]) na (nb - 1):=by
 have:=h.bs (i:=nb - 1) (by lia)
 have e:=z8M hi
 rw[show nb - 1+1=nb by lia] at e
 rw[e] at this
 exact this
theorem Gh.done {a b out:Array Keyed}{na nb:Nat} (h:Gh a b out na nb):(a.extract 0 na++b.extract 0 nb++out.reverse).Perm (a++b):=by
 have h2:=(h.as (q0K na)).bs (q0K nb)
 unfold Gh at h2
 rw[q0Z,q0O (xs:=a)]
 refine List.Perm.trans ?_ h2
 rw[q0O,q0O,q0O,q0O,q1Z,q1Z,q1Z]
 refine List.perm_append_comm.trans ?_
 rw[q1h]
 exact (List.reverse_perm _).append ((List.reverse_perm _).symm.append (List.reverse_perm _).symm)
theorem Gh.first {a b out:Array Keyed}{na nb:Nat} (h:Gh a b out na nb):(b.extract 0 nb++a.extract 0 na++out.reverse).Perm (a++b):=by
 refine Array.Perm.trans ?_ h.done
 rw[q0Z,q0O,q0O,q0O,q0O]
 exact List.perm_append_comm.append_right _
theorem wp_hi {st:SortSt}{a b:Array Keyed}{Q:Array Keyed→SortSt→Prop} (hA:Ans M A E s k a₀) (hk:kindOf st=k) (ha:∀x∈a.toList,x∈a₀.toList) (hb:∀x∈b.toList,x∈a₀.toList) (a1:1≤a.size) (b1:1≤b.size) (h:∀c st',c.Perm (a++b)→Sm st st'→Q c st'):
 wpS M A E s (z5U a b) Q st:=by
 rw[z7W]
 refine wpS_bind (wpS_lift (wpAny_rule ⟨rfl,?_⟩))
 refine wpS_bind (z0M (by lia) ?_)
 dsimp only
 have hG:Gh a b #[a[a.size - 1]] (a.size - 1) b.size:=by
  have:Gh a b #[] a.size b.size:=by
   unfold Gh
   rw[List.drop_eq_nil_of_le (by simp),List.drop_eq_nil_of_le (by simp)]
   exact List.Perm.refl _
  exact this.a a1 (by lia)
 have s0:Sm st st:=⟨rfl,rfl,rfl,rfl⟩
 refine z1I (fun g=>wpS_pure (h _ _ hG.done s0)) (fun g1=>?_)
 refine z1I (fun g=>wpS_pure (h _ _ hG.first s0)) (fun g2=>?_)
 refine wpS_bind (wpS_get ?_)
 refine wpS_bind (wpS_mono (wpS_forRange (I:=fun x c st'=>∃na nb out mg,c=(none,na,nb,out,mg)∧Gh a b out na nb∧1≤na∧2≤nb∧na≤a.size∧nb≤b.size∧x+1+na+nb≤a.size+b.size∧Sm st st') (Q:=fun c st'=>∃r q,c=(some r,q)∧r.Perm (a++b)∧Sm st st') ?_ ?_ ⟨_,_,_,_,rfl,hG,by lia,by lia,by lia,by lia,by lia,s0⟩) ?_)
 ·clear hG g1 g2
  rintro x c st1 _ hx ⟨na,nb,out,mg,rfl,hG,i1,i2,i4,i5,i3,hS⟩
  refine wpS_bind (wpS_mono (wpS_forRange (I:=fun y c st'=>∃na nb out ac bc,c=(none,na,nb,out,ac,bc)∧Gh a b out na nb∧1≤na∧2≤nb∧na≤a.size∧nb≤b.size∧x+y+1+na+nb≤a.size+b.size∧Sm st st') (Q:=fun c st'=>(∃r q,c=(some r,q)∧r.Perm (a++b)∧Sm st st')∨∃na nb out ac bc,c=(none,na,nb,out,ac,bc)∧Gh a b out na nb∧1≤na∧2≤nb∧na≤a.size∧nb≤b.size∧x+2+na+nb≤a.size+b.size∧Sm st st') ?_ ?_ ⟨_,_,_,_,_,rfl,hG,i1,i2,i4,i5,by lia,hS⟩) ?_)
  ·clear hG i1 i2 i3 i4 i5 hS
   rintro y c st2 _ hy ⟨na,nb,out,ac,bc,rfl,hG,i1,i2,i4,i5,i3,hS⟩
   refine wpS_bind (z0M (by dsimp only;lia) (wpS_bind (z0M (by dsimp only;lia) (wpS_bind (hA _ _ _ _ (hS.kind.trans hk) (mem_at hb _) (mem_at ha _) fun w=>?_)))))
   cases w
   ·dsimp only
    rw[if_neg (by decide)]
    refine wpS_bind (z0M (by lia) ?_)
    have hG1:=hG.b (by lia) (by lia)
    refine z1I (fun g=>wpS_pure (.inl ⟨_,_,rfl,hG1.first,hS⟩)) (fun g=>?_)
    refine z5o (fun _=>wpS_pure (.inr ⟨_,_,_,_,_,rfl,hG1,i1,by lia,i4,by lia,by lia,hS⟩)) (fun _=>wpS_pure ⟨_,_,_,_,_,rfl,hG1,i1,by lia,i4,by lia,by lia,hS⟩)
   ·dsimp only
    rw[if_pos rfl]
    refine wpS_bind (z0M (by lia) ?_)
    have hG1:=hG.a (by lia) (by lia)
    refine z1I (fun g=>wpS_pure (.inl ⟨_,_,rfl,hG1.done,hS⟩)) (fun g=>?_)
    refine z5o (fun _=>wpS_pure (.inr ⟨_,_,_,_,_,rfl,hG1,by lia,i2,by lia,i5,by lia,hS⟩)) (fun _=>wpS_pure ⟨_,_,_,_,_,rfl,hG1,by lia,i2,by lia,i5,by lia,hS⟩)
  ·rintro c st2 ⟨na,nb,out,ac,bc,rfl,hG,i1,i2,i4,i5,i3,hS⟩
   exact .inr ⟨_,_,_,_,_,rfl,hG,i1,i2,i4,i5,by lia,hS⟩
  clear hG i1 i2 i3 i4 i5 hS
  rintro c st2 (⟨r,q,rfl,hp,hS⟩|⟨na,nb,out,ac,bc,rfl,hG,i1,i2,i4,i5,i3,hS⟩)
  ·exact wpS_pure ⟨_,_,rfl,hp,hS⟩
  refine wpS_bind (wpS_lift (wpAny_rule ⟨rfl,?_⟩))
  refine wpS_bind (wpS_mono (wpS_forRange (I:=fun _ c st'=>∃na nb out mg ac bc,c=(none,na,nb,out,mg,ac,bc)∧Gh a b out na nb∧1≤na∧2≤nb∧na≤a.size∧nb≤b.size∧x+2+na+nb≤a.size+b.size∧Sm st st') (Q:=fun c st'=>(∃r q,c=(some r,q)∧r.Perm (a++b)∧Sm st st')∨∃na nb out mg ac bc,c=(none,na,nb,out,mg,ac,bc)∧Gh a b out na nb∧1≤na∧2≤nb∧na≤a.size∧nb≤b.size∧x+2+na+nb≤a.size+b.size∧Sm st st') ?_ (fun _ _ h=> .inr h) ⟨_,_,_,_,_,_,rfl,hG,i1,i2,i4,i5,i3,hS⟩) ?_)
  ·clear hG i1 i2 i3 i4 i5 hS
   rintro y c st3 _ hy ⟨na,nb,out,mg,ac,bc,rfl,hG,i1,i2,i4,i5,i3,hS⟩
   dsimp only
   refine z5o (fun _=>?_) (fun _=>?_)
   all_goals
        refine wpS_bind (z8m fun st4 hS4=>?_)
        replace hS4:=hS.trans hS4
        refine wpS_bind (z0M (by lia) ?_)
        refine wpS_bind (z1H hA (hS4.kind.trans hk) (mem_at hb _) ha (by lia) (by lia) fun j hj=>?_)
        dsimp only
        by_cases g1:na - j>0
        case' pos=>
         rw[if_pos g1]
         have hG1:=hG.as hj
         refine z1I (fun g=>wpS_pure (.inl ⟨_,_,rfl,hG1.done,hS4⟩)) (fun g2=>?_)
         have j1:1≤j:=by lia
         have j2:j≤a.size:=by lia
         have j3:x+2+j+nb≤a.size+b.size:=by lia
        case' neg=>
         rw[if_neg g1]
         have hG1:=hG
         have j1:=i1
         have j2:=i4
         have j3:=i3
        all_goals
         refine wpS_bind (z0M (by lia) ?_)
         have hG2:=hG1.b (by lia) (by lia)
         refine z1I (fun g=>wpS_pure (.inl ⟨_,_,rfl,hG2.first,hS4⟩)) (fun g4=>?_)
         refine wpS_bind (z0M (by lia) ?_)
         refine wpS_bind (z1H hA (hS4.kind.trans hk) (mem_at ha _) hb (by lia) (by lia) fun l hl=>?_)
         dsimp only
         by_cases g5:nb - 1 - l>0
         case' pos=>
          rw[if_pos g5]
          have hG3:=hG2.bs hl
          refine z1I (fun g=>wpS_pure (.inl ⟨_,_,rfl,hG3.first,hS4⟩)) (fun g6=>?_)
          refine z1I (fun g=>wpS_pure (.inl ⟨_,_,rfl,hG3.done,hS4⟩)) (fun g7=>?_)
          have l1:2≤l:=by lia
          have l2:l≤nb - 1:=hl
         case' neg=>
          rw[if_neg g5]
          have hG3:=hG2
          have l1:2≤nb - 1:=by lia
          have l2:nb - 1≤nb - 1:=q0k _
         all_goals
          refine wpS_bind (z0M (by lia) ?_)
          have hG4:=hG3.a (by lia) (by lia)
          refine z1I (fun g=>wpS_pure (.inl ⟨_,_,rfl,hG4.done,hS4⟩)) (fun g8=>?_)
          refine z5o (fun _=>wpS_pure (.inr ⟨_,_,_,_,_,_,rfl,hG4,by lia,l1,by lia,by lia,by lia,hS4⟩)) (fun _=>wpS_pure ⟨_,_,_,_,_,_,rfl,hG4,by lia,l1,by lia,by lia,by lia,hS4⟩)
  clear hG i1 i2 i3 i4 i5 hS
  rintro c st3 (⟨r,q,rfl,hp,hS⟩|⟨na,nb,out,mg,ac,bc,rfl,hG,i1,i2,i4,i5,i3,hS⟩)
  ·exact wpS_pure ⟨_,_,rfl,hp,hS⟩
  ·exact wpS_bind (z8m fun st4 hS4=>wpS_pure ⟨_,_,_,_,rfl,hG,i1,i2,i4,i5,by lia,hS.trans hS4⟩)
 ·rintro c st1 ⟨na,nb,out,mg,rfl,hG,i1,i2,i4,i5,i3,hS⟩
  lia
 ·rintro c st1 ⟨r,q,rfl,hp,hS⟩
  exact wpS_pure (h _ _ hp hS)
theorem z7X (i:Nat):mergeAt' i=(do
 let s ←get
 let (some (sa,na,power),some (sb,nb,_)):=((pendingOf s)[i]?,(pendingOf s)[i+1]?)|unsupported "internal:list.sort.pending"
 set (setPending s (((pendingOf s).setIfInBounds i (sa,na+nb,power)).eraseIdxIfInBounds (i+1)))
 let some k ←z2n false (←elem' (arrOf s) sb) (arrOf s) sa na 0|return false
 let (sa,na):=(sa+k,na - k)
 if na==0 then return true
 let some nb ←z2n true (←elem' (arrOf s) (sa+na - 1)) (arrOf s) sb nb (nb - 1)|return false
 if nb==0 then return true
 let x:=(arrOf s).extract sa sb
 let y:=(arrOf s).extract sb (sb+nb)
 let merged ←if na≤nb then z5T x y else z5U x y
 modify fun s=>setArr s (merged.toList.zipIdx.foldl (fun a q=>a.setIfInBounds (sa+q.2) q.1) (arrOf s))
 return (failedOf (←get)).isNone):=rfl
theorem y2L {st st2:SortSt}{Q:PUnit→SortSt→Prop} (h:Q ⟨⟩ st2):wpS M A E s (set st2:StateT SortSt Sem PUnit) Q st:=by
 unfold wpS;rw[StateT.run_set];exact wpAny_pure ⟨rfl,h⟩
theorem y0n {sa:Nat}:∀(l:List Keyed) (o:Nat) (arr:Array Keyed),sa+o+l.length≤arr.size→((l.zipIdx o).foldl (fun a q=>a.setIfInBounds (sa+q.2) q.1) arr).toList =arr.toList.take (sa+o)++l++arr.toList.drop (sa+o+l.length)
 |[],o,arr,_=>by simp
 |x::l,o,arr,h=>by
  rw[q0u] at h
  rw[List.zipIdx_cons,q2b,y0n l (o+1) _ (by rw[Array.size_setIfInBounds];lia),Array.toList_setIfInBounds]
  have hl:sa+o<arr.toList.length:=by simp;lia
  rw[show sa+(o+1)=sa+o+1 by lia,List.drop_set_of_lt (by lia),q0u,show sa+o+1+l.length=sa+o+(l.length+1) by lia,List.take_succ_eq_append_getElem (by rw[q1K];exact hl),List.take_set_of_le (q0k _),List.getElem_set_self]
  simp
theorem y4y {arr m:Array Keyed}{sa sb nb:Nat} (h1:sa≤sb) (h2:sb+nb≤arr.size) (hm:m.Perm (arr.extract sa sb++arr.extract sb (sb+nb))):(m.toList.zipIdx.foldl (fun a q=>a.setIfInBounds (sa+q.2) q.1) arr).Perm arr:=by
 have hp:=q0Z.mp hm
 rw[q0O,z1m,z1m,q1s] at hp
 have hl:=hp.length_eq
 rw[q0l,q0q,q0q,q2f,q2f] at hl
 have hs:arr.toList.length=arr.size:=by simp
 rw[hs] at hl
 have e:m.toList.length=sb+nb - sa:=by lia
 rw[q0Z]
 rw[y0n m.toList 0 arr (by lia),Nat.add_zero,e,show sa+(sb+nb - sa)=sb+nb by lia]
 have e1:arr.toList=arr.toList.take sa++((arr.toList.drop sa).take (sb - sa)++(arr.toList.drop sb).take nb)++arr.toList.drop (sb+nb):=by
  have a1:=q1P sa arr.toList
  have a2:=z3d (l:=arr.toList) h1
  have a3:=z3d (l:=arr.toList) (i:=sb) (j:=sb+nb) (by lia)
  rw[q1s] at a3
  rw[q1h,q1h,←a3,←a2,a1]
 refine List.Perm.trans ((List.Perm.append_left _ hp).append_right _) ?_
 exact .of_eq e1.symm
theorem wp_at {st:SortSt}{n0 n1 pw q:Nat}{Q:Bool→SortSt→Prop} (hA:Ans M A E s k a₀) (hB:SB k a₀ #[(0,n0,pw),(n0,n1,q)] st) (h0:1≤n0) (h1:1≤n1) (hn:n0+n1=a₀.size) (h:∀st',SB k a₀ #[(0,n0+n1,pw)] st'→Q true st'):wpS M A E s (mergeAt' 0) Q st:=by
 rw[z7X]
 refine wpS_bind (wpS_get ?_)
 rw[hB.pend]
 have hsz:=hB.size
 have hm:∀x∈(arrOf st).toList,x∈a₀.toList:=fun x hx=>(q0Z.mp hB.perm).mem_iff.mp hx
 refine wpS_bind (y2L ?_)
 have hC:SB k a₀ #[(0,n0+n1,pw)] (setPending st #[(0,n0+n1,pw)]):=⟨hB.perm,hB.kind,hB.failed,rfl⟩
 rw[show ((#[(0,n0,pw),(n0,n1,q)]:Array (Nat×Nat×Nat)).setIfInBounds 0 (0,n0+n1,pw)).eraseIdxIfInBounds (0+1)= #[(0,n0+n1,pw)] by apply Array.ext';simp[Array.eraseIdxIfInBounds]]
 refine wpS_bind (z0M (by lia) ?_)
 refine wpS_bind (z1H hA hC.kind (mem_at hm _) hm (by lia) (by lia) fun j hj=>?_)
 dsimp only
 refine z1I (fun g=>wpS_pure (h _ hC)) (fun g1=>?_)
 refine wpS_bind (z0M (by lia) ?_)
 refine wpS_bind (z1H hA hC.kind (mem_at hm _) hm (by lia) (by lia) fun l hl=>?_)
 dsimp only
 refine z1I (fun g=>wpS_pure (h _ hC)) (fun g2=>?_)
 have mx:∀(i j:Nat),∀x∈((arrOf st).extract i j).toList,x∈a₀.toList:=fun i j x hx=>by
  rw[z1m] at hx
  exact hm x (List.mem_of_mem_drop (q1D hx))
 have fin:∀(c:Array Keyed) (st':SortSt),c.Perm ((arrOf st).extract (0+j) n0++(arrOf st).extract n0 (n0+l))→Sm (setPending st #[(0,n0+n1,pw)]) st'→wpS M A E s (do
  modify fun s=>setArr s (c.toList.zipIdx.foldl (fun a q=>a.setIfInBounds (0+j+q.2) q.1) (arrOf s))
  return (failedOf (←get)).isNone) Q st':=fun c st' hc hS=>by
  refine wpS_bind (wpS_modify (wpS_bind (wpS_get (wpS_pure ?_))))
  have e:(failedOf st').isNone =true:=by rw[hS.failed];show (failedOf st).isNone =true;rw[hB.failed];rfl
  have:=h (setArr st' (c.toList.zipIdx.foldl (fun a q=>a.setIfInBounds (0+j+q.2) q.1) (arrOf st'))) ⟨?_,hS.kind.trans hC.kind,hS.failed.trans hC.failed,hS.pend.trans hC.pend⟩
  ·rw[←e] at this
   exact this
  ·refine Array.Perm.trans ?_ hB.perm
   show (c.toList.zipIdx.foldl (fun a q=>a.setIfInBounds (0+j+q.2) q.1) (arrOf st')).Perm (arrOf st)
   rw[hS.arr]
   exact y4y (by lia) (by show n0+l≤(arrOf st).size;lia) hc
 have sx:((arrOf st).extract (0+j) n0).size =n0 - j:=by rw[Array.size_extract];lia
 have sy:((arrOf st).extract n0 (n0+l)).size =l:=by rw[Array.size_extract];lia
 by_cases g3:n0 - j≤l
 ·rw[if_pos g3]
  exact wpS_bind (wp_lo hA hC.kind (mx _ _) (mx _ _) (by lia) (by lia) fin)
 ·rw[if_neg g3]
  exact wpS_bind (wp_hi hA hC.kind (mx _ _) (mx _ _) (by lia) (by lia) fin)
theorem y5j {n:Nat} (h2:2≤n) (h:n<128):1≤minRun' n n 0∧minRun' n n 0≤n∧n≤2*minRun' n n 0:=by
 obtain⟨f,rfl⟩:∃f,n=f+1+1:=⟨n - 2,by lia⟩
 rw[minRun'_succ]
 by_cases g:f+1+1<64
 ·rw[if_pos g];lia
 ·rw[if_neg g,minRun'_succ,if_pos (by lia)];lia
theorem y4z {st:SortSt}{Q:Unit→SortSt→Prop} (hA:Ans M A E s k a₀) (hB:SB k a₀ #[] st) (h2:2≤a₀.size) (h128:a₀.size<128) (h:∀st',(arrOf st').Perm a₀→failedOf st'=none→Q () st'):wpS M A E s sortRuns' Q st:=by
 rw[sortRuns'_eq]
 refine wpS_bind (wpS_get ?_)
 dsimp only
 rw[hB.size]
 obtain⟨m1,m2,m3⟩:=y5j h2 h128
 generalize minRun' a₀.size a₀.size 0=mr at*
 refine wpS_bind (wpS_mono (wpS_forRange
  (I:=fun x c st'=>(x=0∧c=(none,0)∧SB k a₀ #[] st')∨(∃l,1≤x∧(l<a₀.size→x=1)∧c=(none,l)∧mr≤l∧l≤a₀.size∧SB k a₀ #[(0,l,0)] st')∨(∃l pw,c=(none,a₀.size)∧1≤l∧l<a₀.size∧1≤x∧SB k a₀ #[(0,l,pw),(l,a₀.size - l,0)] st'))
  (Q:=fun c st'=>c=(none,a₀.size)∧(SB k a₀ #[(0,a₀.size,0)] st'∨∃l pw,1≤l∧l<a₀.size∧SB k a₀ #[(0,l,pw),(l,a₀.size - l,0)] st')) ?step ?fin (.inl ⟨rfl,rfl,hB⟩)) ?post)
 case fin=>
  rintro c st' (⟨hx,_⟩|⟨l,x1,hx,rfl,l1,l2,hC⟩|⟨l,pw,rfl,l1,l2,_,hC⟩)
  ·lia
  ·have:l=a₀.size:=by lia
   subst this
   exact⟨rfl,.inl hC⟩
  ·exact⟨rfl,.inr ⟨l,pw,l1,l2,hC⟩⟩
 case step=>
  rintro x c st' _ hx (⟨rfl,rfl,hC⟩|⟨l,x1,hx1,rfl,l1,l2,hC⟩|⟨l,pw,rfl,l1,l2,x1,hC⟩)
  ·dsimp only
   rw[if_neg (by lia),Nat.sub_zero]
   refine wpS_bind (z8n hA hC (by lia) (by lia) fun n st2 hD n1 n2=>?_)
   dsimp only
   by_cases g:n<mr
   case' pos=>
        rw[if_pos g]
        refine wpS_bind (wpS_lift (wpAny_rule ⟨rfl,?_⟩))
        refine wpS_bind (y3J hA hD (by lia) fun st3 hE=>?_)
        simp only[Bool.not_true,q1j,if_false]
        have e1:1≤min a₀.size mr∧mr≤min a₀.size mr∧min a₀.size mr≤a₀.size:=by lia
        generalize min a₀.size mr=r at*
   case' neg=>
        rw[if_neg g]
        have hE:=hD
        have e1:1≤n∧mr≤n∧n≤a₀.size:=by lia
   all_goals
        refine wpS_bind (wpS_get ?_)
        rw[hE.pend,show (#[]:Array (Nat×Nat×Nat)).back? =none from rfl]
        dsimp only
        refine wpS_bind (wpS_modify (wpS_pure (.inr (.inl ⟨_,by lia,fun _=>(by first|rfl|trivial),rfl,by lia,by lia,hE.perm,hE.kind,hE.failed,?_⟩))))
        show (pendingOf _).push _=_
        rw[hE.pend,Nat.zero_add]
        rfl
  ·dsimp only
   by_cases gl:l≥a₀.size
   ·rw[if_pos gl]
    have:l=a₀.size:=by lia
    subst this
    exact wpS_pure ⟨rfl,.inl hC⟩
   rw[if_neg gl]
   refine wpS_bind (z8n hA hC (by lia) (by lia) fun n st2 hD n1 n2=>?_)
   dsimp only
   by_cases g:n<mr
   case' pos=>
        rw[if_pos g]
        refine wpS_bind (wpS_lift (wpAny_rule ⟨rfl,?_⟩))
        refine wpS_bind (y3J hA hD (by lia) fun st3 hE=>?_)
        simp only[Bool.not_true,q1j,if_false]
        rw[show min (a₀.size - l) mr=a₀.size - l by lia]
   case' neg=>
        rw[if_neg g]
        have hE:=hD
        obtain rfl:n=a₀.size - l:=by lia
   all_goals
        refine wpS_bind (wpS_get ?_)
        rw[hE.pend,show (#[(0,l,0)]:Array (Nat×Nat×Nat)).back? =some (0,l,0) from rfl]
        dsimp only
        generalize power' a₀.size (2*0+l) (2*0+l+l+(a₀.size - l)) a₀.size=pw
        refine wpS_bind (wpS_mono (wpS_forRange (I:=fun _ c st'=>c=(none,())∧SB k a₀ #[(0,l,0)] st') (Q:=fun c st'=>c=(none,())∧SB k a₀ #[(0,l,0)] st') ?_ (fun _ _ h=>h) ⟨rfl,hE⟩) ?_)
        ·rintro y c st4 _ _ ⟨rfl,hF⟩
         refine wpS_bind (wpS_get ?_)
         rw[hF.pend,if_neg (by show ¬1>1;decide)]
         exact wpS_pure ⟨rfl,hF⟩
        ·rintro c st4 ⟨rfl,hF⟩
         refine wpS_bind (wpS_modify (wpS_bind (wpS_modify (wpS_pure (.inr (.inr ⟨l,pw,by rw[q2d l2],by lia,by lia,by lia,hF.perm,hF.kind,hF.failed,?_⟩))))))
         show Array.push (Array.modify (pendingOf st4) ((pendingOf st4).size - 1) _) _=_
         rw[hF.pend]
         apply Array.ext'
         simp[Array.modify,Array.modifyM]
  ·dsimp only
   rw[if_pos (q0k _)]
   exact wpS_pure ⟨rfl,.inr ⟨l,pw,l1,l2,hC⟩⟩
 case post=>
  rintro c st' ⟨rfl,hC⟩
  dsimp only
  refine wpS_bind (wpS_mono (wpS_forRange (I:=fun x c st''=>c=(none,())∧((∃q,SB k a₀ #[q] st'')∨(x=0∧∃l pw,1≤l∧l<a₀.size∧SB k a₀ #[(0,l,pw),(l,a₀.size - l,0)] st''))) (Q:=fun c st''=>c=(none,())∧∃q,SB k a₀ #[q] st'') ?_ ?_ ⟨rfl,hC.elim (fun h=> .inl ⟨_,h⟩) fun h=> .inr ⟨rfl,h⟩⟩) ?_)
  ·rintro x c st2 _ _ ⟨rfl,⟨q,hD⟩|⟨rfl,l,pw,l1,l2,hD⟩⟩
   ·refine wpS_bind (wpS_get ?_)
    rw[hD.pend,if_pos (by show 1≤1;decide)]
    exact wpS_pure ⟨rfl,q,hD⟩
   ·refine wpS_bind (wpS_get ?_)
    rw[hD.pend,if_neg (by show ¬2≤1;decide)]
    refine wpS_bind (wp_at hA hD l1 (by lia) (by lia) fun st3 hE=>?_)
    exact wpS_pure ⟨rfl,.inl ⟨_,hE⟩⟩
  ·rintro c st2 ⟨rfl,⟨q,hD⟩|⟨hx,_⟩⟩
   ·exact⟨rfl,q,hD⟩
   ·lia
  ·rintro c st2 ⟨rfl,q,hD⟩
   exact wpS_pure (h _ hD.perm hD.failed)
end
end Pm
end L2
namespace L2
open PySem PySem.Spec PyProof.Rows
namespace Pm
open Srt
theorem y0p {us us':List Value} (h:us'.Perm us):∀{xs:List V},Vals xs us→∃xs',xs'.Perm xs∧Vals xs' us':=by
 induction h with
 |nil=>intro xs p;cases p;exact⟨[],.nil,.nil⟩
 |cons x _ ih=>
  intro xs p
  cases p with
  |cons r t=>
   obtain⟨l,h1,h2⟩:=ih t
   exact⟨_::l,h1.cons _,.cons r h2⟩
 |swap x y l=>
  intro xs p
  cases p with
  |cons r t=>
   cases t with
   |cons r2 t=>exact⟨_::_::_,.swap _ _ _,.cons r2 (.cons r t)⟩
 |trans _ _ ih1 ih2=>
  intro xs p
  obtain⟨l2,p2,e2⟩:=ih2 p
  obtain⟨l1,p1,e1⟩:=ih1 e2
  exact⟨l1,p1.trans p2,e1⟩
section
variable {X:Cx}{pins:List (Addr×Obj)}{σ:St}{H:Hp}{s:Shared}{A:Around}{E:Value→Shared→Prop}{kS a:Addr}{e1:Nat}{xs:List V}{us:List Value}{zs:List Addr}{ks:List (List Int)}{W:PySem.Fin→Shared→Prop}
theorem z4X {st:SortSt}{keys:Array Value} (I:Inv X pins σ H s) (hK:H kS=some (.lst (zs.map V.ref))) (hA:H a=some (EL a e1)) (hsz:keys.size=us.length) (h128:us.length<128) (hV:Vals xs us)
 (hp:(arrOf st).Perm (keys.zip us.toArray)) (hfl:failedOf st=none)
 (q:∀(ys:List V) (s':Shared),Inv X pins σ (upd (upd H kS (.lst [])) a (.lst ys)) s'→ys.Perm xs→W (.done (.ret .none)) s'):
 wpAny (model X.prog X.w) A (ksk_tail a false e1 (.ref kS) st) W E s:=by
 obtain⟨z,its,n,r,hl,ek⟩:=I.lstM hK
 have nA:s.heap.get? a=some (seqObj "list" #[] e1):=(I.hok a _ hA).1
 have hka:kS≠a:=fun z=>by rw[z,hA] at hK;cases hK
 have I1:=I.lset (its':=[]) (ys:=[]) (f:=fun _=> #[]) (t':=s.toks) hK ek rfl .nil (q0K _)
 have nA1:(s.heap.update kS (Obj.mapSeq fun _=>(#[]:Array Value))).get? a=some (seqObj "list" #[] e1):=(q0N s.heap _ hka).trans nA
 have hu1:(upd H kS (.lst [])) a=some (EL a e1):=by rw[z0i hka.symm];exact hA
 have hz:((arrOf st).map (·.2)).toList.Perm us:=by
  have h1:=(q0Z.mp hp).map Prod.snd
  rw[Array.toList_zip] at h1
  rw[Array.toList_map]
  refine h1.trans (.of_eq ?_)
  rw[List.map_snd_zip (by simp;lia),q1I]
 obtain⟨ys,hy1,hy2⟩:=y0p hz hV
 have hle:ys.length=us.length:=by rw[hy1.length_eq,hV.length]
 have hsz2:((arrOf st).map (·.2)).size =us.length:=by rw[←q0V];exact hz.length_eq
 obtain⟨c2,hc2⟩:∃c2,((s.heap.update kS (Obj.mapSeq fun _=>(#[]:Array Value))).update a (Obj.mapSeq fun _=>(arrOf st).map (·.2))).get? a=some (seqObj "list" ((arrOf st).map (·.2)) c2):=⟨_,get?_update_seq nA1 fun _=>(arrOf st).map (·.2)⟩
 unfold ksk_tail
 dsimp only
 refine wpAny_bind (listUpdate_at ek rfl ?_ (by rw[q0e,←hl];exact z) (q0K _))
 refine wpAny_bind (wpAny_letGo ?_)
 refine wpAny_bind (seqEpoch_at nA1 rfl ?_)
 refine wpAny_bind (listUpdate_at nA1 rfl ?_ (q0K _) (q0m (Nat.le_of_eq hsz2) (by rw[sizeLine_eq];lia)))
 rw[hfl]
 simp only[bne_self_eq_false,q1j,if_false]
 refine wpAny_pure (q ys _ ?_ hy1)
 refine I1.write (x:=a) (e:=a) (t':=s.toks) (by rw[hu1];exact trivial) (.inl rfl) (fun b u hb hu=>(q0N _ _ (Ne.symm hb)).trans hu) ⟨_,hc2⟩ ?_
 refine⟨by rw[hle,sizeLine_eq];lia,_,c2,hy2,?_⟩
 rw[hc2,Array.toArray_toList]
theorem y0F {keys:Array Value} (I:Inv X pins σ H s) (hu:A.units+16<cLine) (hK:H kS=some (.lst (zs.map V.ref))) (hA:H a=some (EL a e1)) (hk:Vals (zs.map V.ref) keys.toList) (hT:TsA H zs ks) (hf:2≤us.length→∀t∈ks,t≠[]) (hlen:zs.length=us.length) (h128:us.length<128) (hV:Vals xs us)
 (q:∀(ys:List V) (s':Shared),Inv X pins σ (upd (upd H kS (.lst [])) a (.lst ys)) s'→ys.Perm xs→W (.done (.ret .none)) s'):
 wpAny (model X.prog X.w) A (ksk_end a false us.toArray e1 (.ref kS) keys) W E s:=by
 have hkl:keys.toList.length=us.length:=by rw[←hk.length,q0a,hlen]
 have hsz:keys.size=us.length:=by rw[←q0V];exact hkl
 have hzs:(keys.zip us.toArray).size =us.length:=by rw[Array.size_zip,hsz,q0e,Nat.min_self]
 have ek:keys=keys.toList.toArray:=by simp
 unfold ksk_end
 dsimp only
 simp only[q1j,if_false]
 by_cases h2:us.toArray.size<2
 ·rw[if_pos h2,if_pos h2]
  refine wpAny_bind (wpAny_pure ?_)
  rw[StateT.run_pure]
  refine wpAny_bind (wpAny_pure ?_)
  dsimp only
  exact z4X (st:=SortSt.mk' general' (keys.zip us.toArray) #[] 7 none) I hK hA hsz h128 hV (Array.Perm.refl _) rfl q
 ·rw[if_neg h2,if_neg h2]
  rw[q0e] at h2
  have hn:2≤us.length:=by lia
  have hd:IsDs X.K H (zs.map V.ref) ((ks.map fun t=>t.map Dt.i).map Dt.t):=by
   have:=hT.isDs (K:=X.K)
   rw[q0x]
   exact this
  have hf2:∀d∈ks.map (fun t=>t.map Dt.i),∃n r,d=Dt.i n::r:=fun d hd=>by
   obtain⟨t,ht,rfl⟩:=q0f.mp hd
   cases t with
   |nil=>exact absurd rfl (hf hn [] ht)
   |cons n r=>exact⟨n,r.map Dt.i,rfl⟩
  obtain⟨fs,tf,lf,zf⟩:=y4c I hd hf2 hk
  rw[ek]
  refine wpAny_bind (PySem.W.kat_kind (T:= .type "int") (fs:=fs) tf (by lia) (fun v hv=>?_) rfl ?_)
  ·obtain⟨n,t,rfl⟩:=zf v hv
   exact PySem.W.Looks.of_pure rfl
  rw[bT,←ek]
  have hAns:Ans (model X.prog X.w) A E s (tuples' true) (keys.zip us.toArray):=fun st x y Q hkd hx hy h=>by
   have at_:∀x:Keyed,x∈(keys.zip us.toArray).toList →∃i,i<us.length∧keys.toList[i]? =some x.1:=fun x hx=>by
     rw[Array.toList_zip] at hx
     obtain⟨i,hi,rfl⟩:=q0C.mp hx
     rw[q0I,hkl] at hi
     exact⟨i,by lia,by rw[q2g];exact q0c _⟩
   have item:∀(i:Nat) (u:Value),i<us.length→keys.toList[i]? =some u→∃(v:V) (t:List Int),IsD X.K H v (.t (t.map Dt.i))∧RelV v u∧t≠[]:=fun i u hi e=>by
     have hiz:i<zs.length:=by lia
     have hik:i<ks.length:=by rw[←hT.1];exact hiz
     obtain⟨u',hu',ru⟩:=hk.get (show (zs.map V.ref)[i]? =some (.ref zs[i]) by rw[q0g,q0c hiz];rfl)
     rw[e] at hu'
     cases hu'
     exact⟨_,ks[i],z4K (hT.2 i _ _ (q0c hiz) (q0c hik)),ru,hf hn _ (q0w _)⟩
   obtain⟨i,hi,ei⟩:=at_ x hx
   obtain⟨j,hj,ej⟩:=at_ y hy
   obtain⟨v1,t1,d1,r1,z1⟩:=item i _ hi ei
   obtain⟨v2,t2,d2,r2,z2⟩:=item j _ hj ej
   have ne:∀t:List Int,t≠[]→∃n r,t.map Dt.i=Dt.i n::r:=fun t ht=>by
     cases t with
     |nil=>exact absurd rfl ht
     |cons n r=>exact⟨n,r.map Dt.i,rfl⟩
   rw[lt'_eq]
   refine wpS_bind (wpS_get ?_)
   rw[hkd]
   refine wpS_bind (wpS_lift (wpAny_attempt (y5K (n:=8) I (by lia) d1 d2 r1 r2 (z2Y 8 t1 t2) (ne t1 z1) (ne t2 z2) ⟨rfl,?_⟩)))
   exact wpS_pure (h _)
  refine wpAny_bind (wpAny_mono (y4z (Q:=fun _ st'=>(arrOf st').Perm (keys.zip us.toArray)∧failedOf st'=none) hAns (st:=SortSt.mk' (tuples' true) (keys.zip us.toArray) #[] 7 none) ⟨Array.Perm.refl _,rfl,rfl,rfl⟩ (by rw[hzs];exact hn) (by rw[hzs];exact h128) fun st' a1 a2=>⟨a1,a2⟩) ?_ fun _ _ e=>e)
  rintro⟨⟨⟩,st'⟩ s' ⟨rfl,hp,hf⟩
  dsimp only
  exact z4X I hK hA hsz h128 hV hp hf q
theorem z9z {f:Value} (I:Inv X pins σ H s) (hu:A.units+16<cLine) (hK:H kS=some (.lst [])) (hA:H a=some (EL a e1)) (hT:TsA H zs ks) (hkz:∀z∈zs,z≠kS) (hf:2≤us.length→∀t∈ks,t≠[]) (hlen:zs.length=us.length) (h128:us.length<128) (hV:Vals xs us)
 (turn:∀(i:Nat) (x:V) (u:Value) (z:Addr),xs[i]? =some x→us[i]? =some u→zs[i]? =some z→∀(H1:Hp) (s1:Shared),Inv X pins σ H1 s1→(∀b o,b≠kS→H b=some o→H1 b=some o)→
  wpAny (model X.prog X.w) A (call f [u]) (fun v s2=>∃H2,Inv X pins σ H2 s2∧v= .ref z∧Same H1 H2) (fun _ _=>False) s1)
 (q:∀(H1:Hp) (ys:List V) (s':Shared),(∀b o,b≠kS→H b=some o→H1 b=some o)→Inv X pins σ (upd (upd H1 kS (.lst [])) a (.lst ys)) s'→ys.Perm xs→W (.done (.ret .none)) s'):
 wpAny (model X.prog X.w) A (ksk_rest a f false us.toArray e1 (.ref kS)) W E s:=by
 have hka:a≠kS:=fun z=>by rw[←z,hA] at hK;cases hK
 unfold ksk_rest
 refine wpAny_bind (wpAny_rule ?_)
 first
  |rw[List.forIn_toArray]
  |(rw[←Array.forIn_toList];simp only[List.toList_toArray])
  |rw[←Array.forIn_toList]
 refine wpAny_bind (ksk_fold (fun i s'=>∃H1,Inv X pins σ H1 s'∧(∀b o,b≠kS→H b=some o→H1 b=some o)∧H1 kS=some (.lst ((zs.take i).map V.ref))) us 0 s ⟨H,I,fun _ _ _ e=>e,hK⟩ ?step ?done)
 case step=>
  rintro j u s' hu' ⟨H1,I1,g1,k1⟩
  simp only[Nat.zero_add] at k1 ⊢
  have hj:j<us.length:=(q0y.mp hu').1
  obtain⟨z0,hzj⟩:∃k,zs[j]? =some k:=⟨_,q0c (by lia)⟩
  obtain⟨x,hx⟩:∃x,xs[j]? =some x:=⟨_,q0c (by rw[hV.length];exact hj)⟩
  refine wpAny_bind (wpAny_attempt (wpAny_mono (turn j x u z0 hx hu' hzj H1 s' I1 g1) (fun v s'' he=>?_) fun _ _ hF=>hF.elim))
  obtain⟨H2,I2,rfl,g2⟩:=he
  dsimp only
  have k2:=g2 _ _ k1
  obtain⟨z,its,n,r,hl,ek⟩:=I2.lstM k2
  have ek2:zs.take (j+1)=zs.take j++[z0]:=by rw[q0E,hzj];rfl
  have hl2:its.length≤us.length:=by rw[←hl,q0a,q0q];lia
  refine wpAny_bind (listUpdate_at ek rfl ?_ (by rw[q0e,sizeLine_eq];lia) (by rw[Array.size_push,q0e,sizeLine_eq];lia))
  refine wpAny_pure ⟨rfl,upd H2 kS (.lst ((zs.take (j+1)).map V.ref)),?_,fun b o hb e=>?_,z0b⟩
  ·refine I2.lset (its':=its++[.ref z0]) (f:=(·.push (.ref z0))) (t':=_) k2 ek (by simp) ?_ ?_
   ·rw[ek2,q0p]
    exact r.append (.cons rfl .nil)
   ·rw[q0a,q0q,sizeLine_eq];lia
  ·rw[z0i hb];exact g2 _ _ (g1 b o hb e)
 case done=>
  rintro s' ⟨H1,I1,g1,k1⟩
  have e3:zs.take (0+us.length)=zs:=q1f (by lia)
  rw[e3] at k1
  obtain⟨z,its,n,r,hl,ek⟩:=I1.lstM k1
  try dsimp only
  refine wpAny_bind (listItems_at ek rfl ?_)
  refine y0F I1 hu k1 (g1 _ _ hka hA) (by rw[q1I];exact r) (ks:=ks) ⟨hT.1,fun i z t e1 e2=>g1 _ _ (hkz z (q0B e1)) (hT.2 i z t e1 e2)⟩ hf hlen h128 hV fun ys s2 I2 p1=>q H1 ys s2 g1 I2 p1
end
section
variable {X:Cx}{pins:List (Addr×Obj)}{σ:St}{H:Hp}{s:Shared}{k:Nat}{g l:Addr}{gd:FuncData}{ps:List Str}{sp:Sp}{xs:List V}{zs:List Addr}{ks:List (List Int)}
theorem y0M {Q:VK} (hu:X.A.units+64<cLine) (Fn:FnOk X.prog X.w X.K X.mg X.base CX0 k g gd ps sp) (hr:Room (k+2) X.A) (hb:Binds X.K gd ps []) (I:Inv X pins σ H s) (hl:H l=some (.lst xs)) (hT:TsA H zs ks) (hk:zs.length=xs.length) (hf:2≤xs.length→∀t∈ks,t≠[]) (h128:xs.length<128)
 (turn:∀(i:Nat) (x:V) (z:Addr),xs[i]? =some x→zs[i]? =some z→∀H1,Same H H1→sp [x] H1 (fun v H2=>v= .ref z∧Same H1 H2) E0)
 (q:∀(D:Addr) (ys:List V) (H':Hp),H D=none→Same H H'→ys.Perm xs→H' D=some (.lst ys)→Q (.ref D) H'):
 wpAny (model X.prog X.w) X.A (call (.builtin "sorted") [.ref l] [(Str.ofString "key",.ref g)]) (EP X pins σ Q) X.xe s:=by
 obtain⟨z,us,n,hV,hlen,el⟩:=I.lstM hl
 refine call_function_entry_kw kind_sorted plain_sorted entry_sorted (ksk_s1 _ _) ?_
 unfold Builtin.«sorted»
 refine wpAny_bind (m:=checkCount "sorted" 1 1 _) (wpAny_pure ?_)
 refine wpAny_bind (collect_list (vs:=us) ⟨_,el,rfl,_,rfl⟩ ?_ (by rw[←hlen];exact z))
 refine wpAny_bind (wpAny_newList ?_ (by rw[←hlen];exact z))
 have hsz:((s.heap.push (seqObj "list" #[] 0)).update s.heap.objs.size (Obj.mapSeq (· ++us.toArray))).objs.size =s.heap.objs.size+1:=by
  rw[Heap.size_update,size_push']
 have hoL:(((s.heap.push (seqObj "list" #[] 0)).update s.heap.objs.size (Obj.mapSeq (· ++us.toArray))).push (seqObj "list" us.toArray 0)).get? (s.heap.objs.size+1)=some (seqObj "list" us.toArray 0):=by
  rw[←hsz];exact q0o _ rfl
 have keep:∀b o,s.heap.get? b=some o→(((s.heap.push (seqObj "list" #[] 0)).update s.heap.objs.size (Obj.mapSeq (· ++us.toArray))).push (seqObj "list" us.toArray 0)).get? b=some o:=fun b o e=>by
  have hlt:b<s.heap.objs.size:=q0n e
  rw[Heap.get?_push_ne _ _ _ (by rw[hsz];exact q0v (q1k hlt)),Heap.get?_update_ne _ _ _ _ (q0v hlt),Heap.get?_push_ne _ _ _ (q0v hlt)]
  exact e
 have fr1:H (s.heap.objs.size+1)=none:=I.hok.fresh (q1U _)
 have I1:=I.laid (a:=s.heap.objs.size+1) (o:= .lst xs) (t':=s.toks) keep (q1U _) ⟨z,us,0,hV,hoL⟩
 show wpAny _ _ _ _ _ {s with heap:=((s.heap.push (seqObj "list" #[] 0)).update s.heap.objs.size (Obj.mapSeq (· ++us.toArray))).push (seqObj "list" us.toArray 0)}
 rw[hsz]
 generalize hD:s.heap.objs.size+1=D at*
 generalize hh1:((s.heap.push (seqObj "list" #[] 0)).update s.heap.objs.size (Obj.mapSeq (· ++us.toArray))).push (seqObj "list" us.toArray 0)=h1 at*
 refine wpAny_bind (wpAny_holding (wpAny_call_entry_kw slot_list_sort ⟨_,hoL,rfl⟩ entry_list_sort ?body (ksk_l1 _ _)))
 case body=>
  show wpAny (model X.prog X.w) X.A.in1.in1 (Builtin.«list.sort» ⟨[.ref D],[(Str.ofString "key",.ref g)]⟩) _ _ _
  rw[ksk_t1]
  unfold ksk_tree
  refine wpAny_bind (listItems_at hoL rfl ?_)
  refine wpAny_bind (listUpdate_at hoL rfl ?_ (by rw[q0e,←hlen];exact z) (q0K _))
  obtain⟨e1,ho1⟩:∃e1,(h1.update D (Obj.mapSeq fun _=>(#[]:Array Value))).get? D=some (seqObj "list" #[] e1):=⟨_,get?_update_seq hoL fun _=> #[]⟩
  have I2:=I1.write (x:=D) (e:=D) (o:=EL D e1) (h':=h1.update D (Obj.mapSeq fun _=>(#[]:Array Value))) (t':=s.toks) (by rw[z0b];exact trivial) (.inl rfl) (fun b u hb hu=>(q0N _ _ (Ne.symm hb)).trans hu) ⟨_,ho1⟩ (EL.ok ho1)
  rw[z7s] at I2
  generalize h1.update D (Obj.mapSeq fun _=>(#[]:Array Value))=h2 at*
  refine wpAny_bind (seqEpoch_at ho1 rfl ?_)
  refine wpAny_bind (wpAny_newTuple ?_ (by rw[q1I,←hlen];exact z))
  refine wpAny_bind (wpAny_newList ?_ (q0K _))
  refine wpAny_holding ?_
  have I3:=I2.kept (h':=h2.push (seqObj "tuple" us.toArray 0)) (t':=s.toks) (fun b u e=>q0d _ e)
  have I4:=I3.laid (a:=(h2.push (seqObj "tuple" us.toArray 0)).objs.size) (o:= .lst []) (h':=(h2.push (seqObj "tuple" us.toArray 0)).push (seqObj "list" #[] 0)) (t':=s.toks) (fun b u e=>q0d _ e) (q0k _) ⟨q0K _,[],0,.nil,q0o _ rfl⟩
  have fr2:upd H D (EL D e1) (h2.push (seqObj "tuple" us.toArray 0)).objs.size =none:=I3.hok.fresh (q0k _)
  generalize (h2.push (seqObj "tuple" us.toArray 0)).objs.size =kS at*
  generalize hh4:(h2.push (seqObj "tuple" us.toArray 0)).push (seqObj "list" #[] 0)=h4 at*
  have hDk:D≠kS:=fun e=>by rw[←e,z0b] at fr2;cases fr2
  have hHk:H kS=none:=by rw[z0i hDk.symm] at fr2;exact fr2
  have key:∀H1:Hp,(∀b o,b≠kS→upd (upd H D (EL D e1)) kS (.lst []) b=some o→H1 b=some o)→Same H H1:=fun H1 gg b o e=>gg b o (z0g e hHk) (by rw[z0i (z0g e hHk),z0i (z0g e fr1)];exact e)
  have zin:∀z∈zs,∃t:List Int,H z=some (.tup (t.map V.int)):=fun z hz=>by
   obtain⟨i,hi,rfl⟩:=q0C.mp hz
   exact⟨ks[i]'(by rw[←hT.1];exact hi),hT.2 i _ _ (q0c hi) (q0c _)⟩
  have hT4:TsA (upd (upd H D (EL D e1)) kS (.lst [])) zs ks:=⟨hT.1,fun i z t a1 a2=>by
   have e:=hT.2 i z t a1 a2
   rw[z0i (z0g e hHk),z0i (z0g e fr1)];exact e⟩
  refine z9z (kS:=kS) (a:=D) (e1:=e1) (zs:=zs) (ks:=ks) (xs:=xs) I4 (show X.A.units+1+1+16<cLine by lia) z0b (by rw[z0i hDk,z0b]) hT4 (fun z hz=>let ⟨_,e⟩:=zin z hz;z0g e hHk) (by rw[←hlen];exact hf) (by rw[hk,hlen]) (by rw[←hlen];exact h128) hV (fun i x u n hx hu hn H1 s1 J1 g1=>?_) fun H1 ys s2 g1 J2 p1=>⟨_,rfl,?_⟩
  ·have hq:=turn i x n hx hn H1 (key H1 g1)
   obtain⟨u',hu',rxu⟩:=hV.get hx
   rw[hu] at hu'
   cases hu'
   have hll:([u]++[]:List Value).length =ps.length:=by
        have:=Fn.len _ _ _ _ hq
        rw[←this];rfl
   have hbb:=hb s1 [u] J1.kIn hll
   rw[q2c] at hbb
   refine wpAny_call (codeAny_mono (Fn.run X.A.in1.in1 X.stack s1 H1 ⟨[u],[]⟩ [u] [x] _ E0 hr.in1.in1 J1.env0.in1.in1 hbb (.cons rxu .nil) hq) fun rr s' hq'=>?_)
   cases rr with
   |error ev=>exact hq'.elim
   |ok fl=>
    cases fl with
    |ret w'=>
     obtain⟨v,H2,J2,rv,ev,g2⟩:=J1.after hq'
     subst ev
     exact⟨H2,J2,rv,g2⟩
    |next=>exact False.elim hq'
    |brk=>exact False.elim hq'
    |cont=>exact False.elim hq'
  ·refine wpAny_pure ⟨_,rfl,?_⟩
   refine⟨.ref D,_,J2,rfl,q D ys _ fr1 (fun b o e=>?_) p1 z0b⟩
   rw[z0i (z0g e fr1),z0i (z0g e hHk)]
   exact key H1 g1 b o e
def y3P (sp:Sp):V→Hp→VK→Prop:=fun x H Q=>∃(l:Addr) (xs:List V) (zs:List Addr) (ks:List (List Int)),x= .ref l∧H l=some (.lst xs)∧TsA H zs ks∧zs.length=xs.length∧(2≤xs.length→∀t∈ks,t≠[])∧xs.length<128∧(∀(i:Nat) (x:V) (z:Addr),xs[i]? =some x→zs[i]? =some z→∀H1,Same H H1→sp [x] H1 (fun v H2=>v= .ref z∧Same H1 H2) E0)∧
 ∀(D:Addr) (ys:List V) (H':Hp),H D=none→Same H H'→ys.Perm xs→H' D=some (.lst ys)→Q (.ref D) H'
def y5M (sp:Sp) (ta:TE):TE:=fun σ H Q=>ta σ H fun x H1=>y3P sp x H1 Q
def oneP (sp:Sp) (Q:VK):List V→Hp→Prop:=fun vs H=>match vs with
 |[x]=>y3P sp x H Q
 |_=>False
theorem pe_sortP (hu:X.A.units+64<cLine) {f:Str}{p p2 kp pos:Pos}{e:Expr}{te:TE} (c:Cal X.prog X.w X.K X.mg X.base k f ps sp) (hr:Room (k+2) X.A) (hg:Gl X "sorted") (hm:X.mg "sorted"=none) (hgf:Gl X f) (ha:PE X e te) (hd:(f==("__debug__":Str))=false:=by decide)
 (he:starEach [e] X.env=(false,eval e X.env)::starEach [] X.env:=by rfl):PE X (.Call (.Name "sorted" p) [e] [⟨some (Str.ofString "key"),.Name f p2,kp⟩] pos) (y5M sp te):=by
 intro pins s σ H Q I h
 obtain⟨g,gd,F,b,kk,m⟩:=c.ex
 refine wpAny_Call_Name_kw (z3b I hg hm boot_sorted ?_)
 refine callWith_kw (thn (z0a ha z0d he pos pins s σ H (oneP sp Q) I h) fun us s1 ⟨vs,H1,I1,r1,q1⟩=>?_) (by rw[he];rfl) (by rw[he];rfl)
 match vs,q1 with
 |[x],⟨l,xs,zs,ks,e1,e2,e3,e4,e5,e6,e7,e8⟩=>
  subst e1
  have PKf:PK X [⟨some (Str.ofString "key"),.Name f p2,kp⟩] (y2Q (tC (.ref g)) tNil):=y1a (z2K hgf m rfl hd) y3S
  refine thn (PKf pos pins s1 σ H1 (fun zs H2=>zs=[.ref g]∧H2=H1) I1 ⟨rfl,rfl⟩) fun ws s2 ⟨zs,H2,I2,rz,ez,eh⟩=>?_
  subst ez eh
  obtain⟨u,rfl,ru⟩:=r1.one
  obtain⟨w',rfl,rw'⟩:=rz.one
  cases ru
  cases rw'
  exact y0M hu F hr b I2 e2 e3 e4 e5 e6 e7 e8
end
end Pm
end L2
namespace L2
open PySem PySem.Spec PySem.W PyProof.Rows
section
variable {X:Cx}{cx n:Str}{hp hpos tpos:Pos}{j:Nat}{W:Addr}{st0:Stmt}{ts:TS}
end
section
variable {X:Cx}{f1 f2 cx n:Str}{fp1 cpos1 xpos1 fp2 cpos2 xpos2 ip1 ip2 hp hpos tpos:Pos}{c1 c2 e1 e2:Expr}{es1 es2:List Expr}{t1 t2:TT}{ta1 ta2:TA}{k j:Nat}{ps1 ps2:List Str}{sp1 sp2:Sp}{W:Addr}{st0:Stmt}{ts:TS}
end
end L2
namespace L2
open Fr Wl Pt Rk
namespace Ld
end Ld
end L2
namespace L2
open Fr Wl Pt Rk
namespace Ld
open Classical in
theorem z9x (w:Nat) (ts:List (List Int)) (t s:List Int):(z1q w ts t s).Nodup :=by
 unfold z1q
 refine List.Pairwise.filter _ ?_
 simp
open Classical in
theorem z8R {w:Nat}{ts:List (List Int)}{t s s':List Int} (h:s'∈z1q w ts t s):∃x,s'=s++[x]:=by
 unfold z1q at h
 have:=(q1a.mp h).1
 simp only[q0t,q1M,or_false] at this
 rcases this with rfl|rfl
 ·exact⟨_,rfl⟩
 ·exact⟨_,rfl⟩
theorem z6C (w:Nat) (ts:List (List Int)):∀i,(sgN w ts i).Nodup
 |0=>by show ([[]]:List (List Int)).Nodup;simp
 |i+1=>by
  rw[sgN]
  have ih:=z6C w ts i
  generalize sgN w ts i=L at*
  induction L with
  |nil=>simp
  |cons s L ih2=>
   obtain⟨h1,h2⟩:=List.nodup_cons.mp ih
   rw[List.flatMap_cons]
   refine q1w.mpr ⟨z9x _ _ _ _,ih2 h2,fun a ha b hb e=>?_⟩
   obtain⟨s2,hs2,hb2⟩:=List.mem_flatMap.mp hb
   obtain⟨x,rfl⟩:=z8R ha
   obtain⟨y,rfl⟩:=z8R hb2
   have:=(List.append_inj' e rfl).1
   exact h1 (this▸hs2)
end Ld
end L2
namespace L2
open PySem PySem.Spec PyProof.Rows
section
variable {X:Cx}
def gLst (K:PySem.W.Frag) (n:Nat) (t:TGs):TG:=fun v σ H Q=>∃a xs,v= .ref a∧SqL K H a xs∧xs.length=n∧t xs σ H Q
theorem y6j {K:PySem.W.Frag} (hK:X.K=K) {es:List Expr}{k:Nat}{pos:Pos}{t:TGs} (n:Nat) (hc:X.calm=true) (h:PGs X es t)
 (hn:(assignEach es X.env).length =n:=by rfl) (hst:(assignEach es X.env).findIdx? (·.1)=none:=by rfl):PG X (.Tuple es k pos) (gLst K n t):=by
 subst hK
 intro pins s σ H v u Q I r hw
 obtain⟨a,xs,e1,hq,hl,hw⟩:=hw
 subst e1
 cases r
 obtain⟨its,rv,ht,hz⟩:=I.list hq
 rw[assign_Tuple]
 refine wpAny_bind (wpAny_standAt ?_)
 unfold unpack
 have e:(assignEach es X.env).length =its.toArray.size:=by simp[hn,←hl,rv.length]
 rw[e,hst]
 refine wpAny_bind (wpAny_holding (PySem.W.kun_itemsOf (I.ok.hd hc) ht.isList fun h' hx=>?_))
 have I1:Inv X pins σ H {s with heap:=h'}:=I.kept (t':=s.toks) fun b o e=>hx b o (q0v (q0n e)) e
 exact h pins _ σ H xs _ Q I1 (by simpa using rv) hw
end
end L2
namespace L2
open PySem PySem.Spec PyProof.Rows
section
variable {X:Cx}
end
section
variable {X:Cx}{pins:List (Addr×Obj)}{σ:St}{H:Hp}{s:Shared}
end
end L2
set_option maxHeartbeats 4000000
namespace L2
open PySem PySem.Spec PyProof.Rows
def top (i:Nat):Stmt:=PySem.Challenge.pw_wallspace_k64_whole_faces_put_ahead.main.body.getD i (.Pass ⟨0,0,0,0⟩)
structure Txt (mg:Str→Option Value):Prop where
 abs:mg "abs"=none
 len:mg "len"=none
 isinstance:mg "isinstance"=none
 int:mg "int"=none
 bool:mg "bool"=none
 tuple:mg "tuple"=none
 list:mg "list"=none
 any:mg "any"=none
 min:mg "min"=none
 max:mg "max"=none
 range:mg "range"=none
 enumerate:mg "enumerate"=none
 zip:mg "zip"=none
 sorted:mg "sorted"=none
 sum:mg "sum"=none
 all:mg "all"=none
 ValueError:mg "ValueError"=none
 reversed:mg "reversed"=none
structure Xc (K:PySem.W.Frag) (mg:Str→Option Value) (W NN F0 L P NW:Addr):Prop where
 mWallError:mg "WallError"=some (.ref W)
 mNoNumber:mg "NoNumber"=some (.ref NN)
 mNoFace:mg "NoFace"=some (.ref F0)
 mNoLand:mg "NoLand"=some (.ref L)
 mNoPlace:mg "NoPlace"=some (.ref P)
 mNoWall:mg "NoWall"=some (.ref NW)
 made:y5D K F0
 xk:ExcK K F0
 ex:PySem.W.exmOne K (.ref F0) (.ref W)=some true
 no:PySem.W.kitAny K (.ref F0) [.ref L,.ref NN,.ref P,.ref NW]=some false
 se:PySem.W.kitOne K (.ref F0) (.ref F0)=some true
 ve:PySem.W.kitOne K (.ref F0) (.type "ValueError")=some true
section
open Fr
open Builtin.Int (intBits)
variable {P:Program}{w:World}{K:PySem.W.Frag}{mg:Str→Option Value}{base:Heap}{f:Addr}{fd:FuncData}
abbrev z4h:Stmt:=top 8
theorem sc_divisor:z0r ["one","other","rest"] ["one","other"] (z0j z4h):=⟨rfl,rfl,rfl,by decide+kernel,rfl,by decide+kernel,by decide+kernel⟩
def z1K:Sp:=fun vs H Q _=>∃a b:Int,vs=[.int a,.int b]∧Q (.int (Int.gcd a b:Int)) H
theorem z9R (T:Txt mg) (F:Fun K "divisor" "divisor" z4h f fd):FnOk P w K mg base CX0 1 f fd ["one","other"] z1K:=by
 refine F.ok sc_divisor (fun vs H Q E h=>?_) (fun cdv A outer s H vs Q E hr h=>?_)
 ·obtain⟨a,b,rfl,_⟩:=h;rfl
 obtain⟨a,b,rfl,q⟩:=h
 refine⟨_,(z0c (z8G PassesOwn.never (z0v z6N (pv 1) z0f (z0D _)) (z0c (z0n (i:=2) sc_divisor.nd rfl (Or.inl rfl) (z0s y5b (pv 0) (pv 1)))
  (z0c (z0n (i:=0) sc_divisor.nd rfl (Or.inl rfl) (pv 1))
  (z0h (z0n (i:=1) sc_divisor.nd rfl (Or.inl rfl) (pv 2))))))
  (z0h (z0t (z0A z3Q rfl T.abs boot_abs (z0a (pv 0) z0d))))),?_⟩
 refine z8o (fun σ H'=>H'=H∧∃x y r,σ=[some (.int x),some (.int y),r]∧Int.gcd x y=Int.gcd a b) (fun σ _=>match σ with|[_,some (.int y),_]=>y.natAbs|_=>0) ⟨rfl,a,b,none,rfl,rfl⟩ ?_ ?_
 ·rintro σ H' ⟨rfl,x,y,r,rfl,hg⟩
  refine⟨_,rfl,rfl,_,rfl,?_⟩
  by_cases hy:y=0
  ·subst hy
   refine z3t ?_
   refine⟨_,rfl,_,rfl,?_⟩
   rw[y5B hg rfl]
   exact q
  ·rw[show (!decide (V.int y=V.int 0))=true from by simp[hy]]
   refine z5h ?_
   refine⟨_,rfl,_,rfl,_,_,rfl,rfl,hy,?_⟩
   refine⟨_,rfl,?_⟩
   refine⟨_,rfl,?_⟩
   exact⟨⟨rfl,y,x.fmod y,_,rfl,turn hg⟩,less hy⟩
 ·rintro σ H' Q1 Q2 hQ ⟨v,e,e2,k,ek,qk⟩
  exact⟨v,e,e2,k,ek,hQ _ _ qk⟩
end
section
open Fr
open Builtin.Int (intBits)
variable {P:Program}{w:World}{K:PySem.W.Frag}{mg:Str→Option Value}{base:Heap}{f:Addr}{fd:FuncData}
abbrev z2E:Stmt:=top 47
theorem sc_l_divisor:z0r ["_law_one","_law_other"] ["_law_one","_law_other"] (z0j z2E):=⟨rfl,rfl,rfl,by decide+kernel,rfl,by decide+kernel,by decide+kernel⟩
theorem turnE {a0 b0 a b:Int} (h:Int.gcd a b=Int.gcd a0 b0):Int.gcd b (a%b)=Int.gcd a0 b0:=by
 rw[Int.emod_def,Int.gcd_sub_mul_left_right,Int.gcd_comm b a]
 exact h
theorem y5r (a b:Int):Int.gcd (if a<0 then -a else a) (if b<0 then -b else b)=Int.gcd a b:=by
 split<;>split<;>simp[Int.gcd_neg,Int.neg_gcd]
theorem z6Q (T:Txt mg) (F:Fun K "_law_divisor" "_law_divisor" z2E f fd):FnOk P w K mg base CX0 1 f fd ["_law_one","_law_other"] z1K:=by
 refine F.ok sc_l_divisor (fun vs H Q E h=>?_) (fun cdv A outer s H vs Q E hr h=>?_)
 ·obtain⟨_,_,rfl,_⟩:=h;rfl
 obtain⟨a,b,rfl,q⟩:=h
 refine⟨_,(z0c (z0n (i:=0) sc_l_divisor.nd rfl (Or.inl rfl) (z0A z3Q rfl T.abs boot_abs (z0a (pv 0) z0d)))
  (z0c (z0n (i:=1) sc_l_divisor.nd rfl (Or.inl rfl) (z0A z3Q rfl T.abs boot_abs (z0a (pv 1) z0d)))
  (z0c (z8G PassesOwn.never (z0v z7N (pv 1) z0f (z0D _)) (z0h (y6f (i:=0) (j:=1) rfl sc_l_divisor.nd rfl rfl (by decide) rfl rfl (z0a (pv 1) (z0a (z0s z0O (pv 0) (pv 1)) z0d)) (by rfl))))
  (z0h (z0t (pv 0)))))),?_⟩
 refine⟨_,rfl,_,rfl,?_⟩
 refine⟨_,rfl,_,rfl,?_⟩
 refine z8o (fun σ H'=>H'=H∧∃x y,σ=[some (.int x),some (.int y)]∧0≤x∧0≤y∧Int.gcd x y=Int.gcd a b) (fun σ _=>match σ with|[_,some (.int y)]=>y.natAbs|_=>0)
  ⟨rfl,_,_,rfl,by split<;>lia,by split<;>lia,y5r a b⟩ ?_ ?_
 ·rintro σ H' ⟨rfl,x,y,rfl,hx,hy,hg⟩
  refine⟨_,rfl,_,_,rfl,rfl,_,rfl,?_⟩
  refine z3f (fun c=>?_) (fun c=>?_)
  ·have c':0<y:=of_decide_eq_true c
   refine⟨_,rfl,_,rfl,_,rfl,_,_,rfl,rfl,c',_,_,rfl,?_⟩
   have m0:=Int.emod_nonneg x (Int.ne_of_gt c')
   have m1:=Int.emod_lt_of_pos x c'
   refine⟨⟨rfl,y,x%y,rfl,hy,m0,turnE hg⟩,?_⟩
   show (x%y).natAbs <y.natAbs
   lia
  ·have c':¬0<y:=fun z=>c (decide_eq_true z)
   have y0:y=0:=by lia
   subst y0
   refine⟨_,rfl,?_⟩
   have e:x=(Int.gcd a b:Int):=by rw[←hg,Int.gcd_zero];lia
   rw[←e] at q
   exact q
 ·rintro σ H' Q1 Q2 hQ ⟨v,e,i,j,e2,e3,k,ek,qk⟩
  exact⟨v,e,i,j,e2,e3,k,ek,hQ _ _ qk⟩
end
end L2
namespace L2
open PySem PySem.Spec PyProof.Rows
section
open Fr Wl
open Builtin.Int (intBits)
variable {P:Program}{w:World}{K:PySem.W.Frag}{mg:Str→Option Value}{base:Heap}{f:Addr}{fd:FuncData}
theorem z5v {K:PySem.W.Frag}{b:Bool}{H:Hp}{a:Addr}{xs:List V}{v:V}{Q:VK} (h:SqB b K H a (xs++[v])) (q:∀p H',Same H H'→SqA K H' p xs→Q (.ref p) H'):rSlA K (.ref a) none (some (-1)) H Q:=by
 cases b with
 |true=>
  refine .inl ⟨a,_,rfl,h,fun p hp=>?_⟩
  rw[z3P]
  exact q p _ (z0e hp _) (.inl (SqL.of z0b))
 |false=>
  refine .inr ⟨a,_,rfl,h,y2w,fun p hp=>?_⟩
  rw[z3P]
  exact q p _ (z0e hp _) (.inr (SqT.of z0b))
theorem z2d (rs:List Int):(rs.map V.int).any trV=true↔∃n∈rs,n≠0:=by
 rw[List.any_map,q1n]
 constructor
 ·rintro⟨n,hn,h⟩
  exact⟨n,hn,by simpa[trV] using h⟩
 ·rintro⟨n,hn,h⟩
  exact⟨n,hn,by simpa[trV] using h⟩
theorem z2t (rs:List Int):∀y∈rs.map V.int,PlV y:=fun y hy=>by
 obtain⟨n,_,rfl⟩:=q0f.mp hy
 trivial
abbrev z1o:Stmt:=top 9
theorem sc_divisor_of_all:z0r ["numbers","shared","number"] ["numbers"] (z0j z1o):=⟨rfl,rfl,rfl,by decide+kernel,rfl,by decide+kernel,by decide+kernel⟩
def z5t (K:PySem.W.Frag):Sp:=fun vs H Q _=>∃(p:Addr) (rs:List Int),vs=[.ref p]∧SqA K H p (rs.map V.int)∧rs.length≤1000∧Q (.int (z1p rs:Nat)) H
theorem z3r (T:Txt mg) (F:Fun K "divisor_of_all" "divisor_of_all" z1o f fd) (c_divisor:Cal P w K mg base 1 "divisor" ["one","other"] z1K):FnOk P w K mg base CX0 2 f fd ["numbers"] (z5t K):=by
 refine F.ok sc_divisor_of_all (fun vs H Q E h=>?_) (fun cdv A outer s H vs Q E hr h=>?_)
 ·obtain⟨_,_,rfl,_⟩:=h;rfl
 obtain⟨p,rs,rfl,hS,hlen,q⟩:=h
 obtain⟨b,hB⟩:=hS.toB
 refine⟨_,(z0c (z0n (i:=1) sc_divisor_of_all.nd rfl (Or.inl rfl) z0f)
  (z0c (z1f PassesOwn.never rfl (z2W (K:=K) rfl (pv 0)) (z0k (i:=2) sc_divisor_of_all.nd rfl (Or.inl rfl)) (z0h (z0n (i:=1) sc_divisor_of_all.nd rfl (Or.inl rfl) (z0q c_divisor hr rfl (z0a (pv 1) (z0a (pv 2) z0d))))))
  (z0h (z0t (pv 1))))),?_⟩
 refine⟨_,rfl,p,b,_,rfl,hB,?_⟩
 refine z0I (z1V K b p (rs.map V.int)) (fun i σ H'=>H'=H∧∃s2,σ=[some (.ref p),some (.int (z1p (rs.take i):Nat)),s2]) ⟨rfl,_,rfl⟩ (fun i σ H' _ h=>h.1▸hB) ?_ ?_
 ·rintro i x σ H4 H5 hi ⟨rfl,s2,rfl⟩ ⟨rfl,hx⟩
  rw[q0g] at hx
  obtain⟨n,hn,rfl⟩:=q0r.mp hx
  have tk:rs.take (i+1)=rs.take i++[n]:=by rw[q0E,hn];rfl
  refine⟨_,rfl,_,rfl,_,_,rfl,?_⟩
  rw[tk,z6Z]
  exact⟨rfl,_,rfl⟩
 ·rintro σ H4 ⟨rfl,s2,rfl⟩
  rw[q0a,q0P]
  exact⟨_,rfl,q⟩
abbrev y0K:Stmt:=top 12
theorem sc_wall:z0r ["numbers","shared","leading"] ["numbers"] (z0j y0K):=⟨rfl,rfl,rfl,by decide+kernel,rfl,by decide+kernel,by decide+kernel⟩
def y0v (K:PySem.W.Frag):Sp:=fun vs H Q _=>∃(p:Addr) (ns:List Int) (last:Int),vs=[.ref p]∧SqA K H p ((ns++[last]).map V.int)∧(ns++[last]).length ≤1000∧(∀n∈ns++[last],intBits n≤9000)∧
 (∃n∈ns,n≠0)∧∀t H',Same H H'→H' t=some (.tup ((z0m (ns++[last])).map V.int))→Q (.ref t) H'
theorem z4x (rs:List Int) (h:z1a rs≠0):atI (((rs.map V.int).filter fun v=>match v with| .int n=> !decide (V.int n=V.int 0)|_=>false).map fun v=>v) 0=some (.int (z1a rs)):=by
 rw[List.map_id']
 induction rs with
 |nil=>exact absurd rfl h
 |cons m r ih=>
  rw[q0L]
  by_cases hm:m=0
  ·subst hm
   rw[q1u (by simp)]
   have e:z1a (0::r)=z1a r:=if_pos rfl
   rw[e] at h ⊢
   exact ih h
  ·rw[q1t (by simp[hm])]
   have e:z1a (m::r)=m:=if_neg hm
   rw[e]
   exact z3y (j:=0) rfl
theorem y5g (T:Txt mg) (F:Fun K "wall" "wall" y0K f fd) (c_divisor_of_all:Cal P w K mg base 2 "divisor_of_all" ["numbers"] (z5t K)):FnOk P w K mg base CX0 3 f fd ["numbers"] (y0v K):=by
 refine F.ok sc_wall (fun vs H Q E h=>?_) (fun cdv A outer s H vs Q E hr h=>?_)
 ·obtain⟨_,_,_,rfl,_⟩:=h;rfl
 obtain⟨p,ns,last,rfl,hS,hlen,zb,hnz,q⟩:=h
 obtain⟨b,hB⟩:=hS.toB
 refine⟨_,(z0c (z0S (z4Z (z2V (z0A (z3e (K:=K) rfl rfl) rfl T.any boot_any (z0a (z1l (z5w (K:=K) rfl) (pv 0) z1G (z1F (z1O z1d z0f))) z0d)))) (z0h z8H) z0y)
  (z0c (z0n (i:=1) sc_wall.nd rfl (Or.inr rfl) (z0q c_divisor_of_all hr rfl (z0a (pv 0) z0d)))
  (z0c (z0n (i:=2) sc_wall.nd rfl (Or.inl rfl) (z0T (z0x (K:=K) rfl) (z0G (Nc:=["number"]) (fr:=[none]) rfl (z2W (K:=K) rfl (pv 0)) rfl (by decide) rfl (by decide) rfl trivial trivial (fun _ _ _ _=>(z0k (i:=0) (show List.Nodup (["number"]:List Str) from by decide) rfl (Or.inl rfl))) (fun _ _ _ _=>(z2J (z0v z6N (pv 0) z0f (z0D _)))) (fun _ _ _ _=>(pv 0))) z0f (fun _ _=>rfl)))
  (z0c (z0S (z0v y5c (pv 2) z0f (z0D _)) (z0h (z0n (i:=1) sc_wall.nd rfl (Or.inr rfl) (z1O z1d (pv 1)))) z0y)
  (z0h (z0t (z0J (z0W (K:=K) rfl) rfl T.tuple boot_tuple (z0a (z0G (Nc:=["number","shared"]) (fr:=[none,some 1]) rfl (z2W (K:=K) rfl (pv 0)) rfl (by decide) rfl (by decide) rfl ⟨rfl,trivial⟩ ⟨⟨rfl,rfl,rfl,rfl⟩,trivial⟩ (fun _ _ _ _=>(z0k (i:=0) (show List.Nodup (["number","shared"]:List Str) from by decide) rfl (Or.inl rfl))) (fun _ _ _ _=>z0H) (fun _ _ _ _=>(z0s z2X (pv 0) (pv 1)))) z0d)))))))),?_⟩
 refine⟨_,rfl,_,rfl,_,rfl,z5v (by rw[q0p] at hB;exact hB) fun q1 H1 g1 hq1=>?_⟩
 refine⟨q1,_,rfl,hq1,z2t ns,_,rfl,?_⟩
 rw[(z2d ns).mpr hnz]
 refine z3t ?_
 have hnz2:∃n∈ns++[last],n≠0:=let ⟨n,h1,h2⟩:=hnz;⟨n,q0J _ h1,h2⟩
 generalize ns++[last]=rs at*
 have hB1:=hB.same g1
 have hS1:=hS.same g1
 refine⟨_,rfl,p,rs,rfl,hS1,hlen,?_⟩
 refine⟨_,rfl,p,b,_,rfl,hB1,fun D hD=>?_⟩
 refine z0V rfl (z1V K b p (rs.map V.int)) hD (fun v=>match v with| .int n=> !decide (V.int n=V.int 0)|_=>false) (fun v=>v) (fun H' g'=>hB1.same g') (z0l (by rw[q0a];lia)) ?_ ?_ ?_
 ·intro x hx Hc gc S h
  obtain⟨n,_,rfl⟩:=q0f.mp hx
  exact⟨_,rfl,rfl,_,rfl,h⟩
 ·intro x hx _ Hc gc S h
  exact⟨_,rfl,h⟩
 ·refine⟨D,_,_,_,rfl,rfl,SqL.of z0b,z4x rs (z5Z hnz2),?_⟩
  have gD:=z0e (H:=H1) hD (.lst ((((rs.map V.int).filter fun v=>match v with| .int n=> !decide (V.int n=V.int 0)|_=>false)).map fun v=>v))
  generalize upd H1 D (.lst ((((rs.map V.int).filter fun v=>match v with| .int n=> !decide (V.int n=V.int 0)|_=>false)).map fun v=>v))=H5 at gD
  have hB5:=hB1.same gD
  refine⟨_,rfl,_,_,rfl,rfl,_,rfl,?_⟩
  have hby:byL rs≠0∧intBits (byL rs)≤9000:=⟨z2g hnz2,z9p hnz2 zb⟩
  refine z3f (fun c=>?_) (fun c=>?_)
  case' _=>
   have c':z1a rs<0:=of_decide_eq_true c
   have eb: -(z1p rs:Int)=byL rs:=by unfold byL;rw[if_pos c']
   refine⟨_,rfl,_,rfl,?_⟩
   dsimp only
   rw[eb]
  rotate_left
  case' _=>
   have c':¬z1a rs<0:=fun z=>c (decide_eq_true z)
   have eb:(z1p rs:Int)=byL rs:=by unfold byL;rw[if_neg c']
   rw[eb]
  all_goals
   refine⟨_,rfl,p,b,_,rfl,hB5,fun D2 hD2=>?_⟩
   refine z0V rfl (z1V K b p (rs.map V.int)) hD2 (fun _=>true) (fun v=>match v with| .int n=> .int (n.fdiv (byL rs))|u=>u) (fun H' g'=>hB5.same g') (z0l (by rw[q0a];lia)) ?_ ?_ ?_
   ·intro x _ Hc _ S h
    exact h
   ·intro x hx _ Hc _ S h
    obtain⟨n,_,rfl⟩:=q0f.mp hx
    exact⟨_,rfl,_,rfl,_,_,rfl,rfl,hby,h⟩
   ·rw[z0z,q0x]
    have em:rs.map ((fun v=>match v with| .int n=>V.int (n.fdiv (byL rs))|u=>u)∘V.int)=(z0m rs).map V.int:=by
     unfold z0m
     rw[q0x];rfl
    rw[em]
    exact⟨D2,_,rfl,.inl ⟨SqL.of z0b,fun t ht=>q t _ (g1.trans (gD.trans ((z0e hD2 _).trans (z0e ht _)))) z0b⟩⟩
end
section
open Fr Wl
open Builtin.Int (intBits)
variable {P:Program}{w:World}{K:PySem.W.Frag}{mg:Str→Option Value}{base:Heap}{f:Addr}{fd:FuncData}
theorem z0p {S1 S2:TS}{D:y4w}{σ:St}{H:Hp} (I:St→Hp→Prop) (h1:∀N:St→Hp→Prop,(∀σ' H',I σ' H'→N σ' H')→S1 {D with nx:=N} σ H) (h2:∀σ' H',I σ' H'→S2 D σ' H'):tSeq S1 S2 D σ H:=h1 _ h2
theorem z9q {i:Int} (h1: -(2^64)<i) (h2:i<2^64):intBits i≤64:=intBits_le_64 h1 h2
theorem z1s {ns:List Int}{k:Int} (h0:0≤k) (h:k<ns.length):atI (ns.map V.int) k=some (.int (ns.getD k.toNat 0)):=by
 have hk:k.toNat<ns.length:=by lia
 have ek:k=((k.toNat:Nat):Int):=by lia
 rw[ek]
 refine z3y ?_
 rw[q0g,q0S,q0b,q0c hk]
 rfl
abbrev z7H:Stmt:=top 48
theorem sc_l_mix:z0r ["_law_script","_law_k","_law_cell","_law_number"] ["_law_script","_law_k"] (z0j z7H):=⟨rfl,rfl,rfl,by decide+kernel,rfl,by decide+kernel,by decide+kernel⟩
def y5U (K:PySem.W.Frag):Sp:=fun vs H Q _=>∃(a:Addr) (ns:List Int) (k:Int),vs=[.ref a,.int k]∧SqL K H a (ns.map V.int)∧ns.length≤63∧0≤k∧k≤1000000∧∀r:Int,0≤r→r<2147483587→Q (.int r) H
theorem y3l (T:Txt mg) (F:Fun K "_law_mix" "_law_mix" z7H f fd):FnOk P w K mg base CX0 1 f fd ["_law_script","_law_k"] (y5U K):=by
 refine F.ok sc_l_mix (fun vs H Q E h=>?_) (fun cdv A outer s H vs Q E hr h=>?_)
 ·obtain⟨_,_,_,rfl,_⟩:=h;rfl
 obtain⟨a,ns,k,rfl,hS,h63,h0,h1,q⟩:=h
 refine⟨_,(z0c (z0n (i:=2) sc_l_mix.nd rfl (Or.inl rfl) z0f)
  (z0c (z0S (z0v z7N (z0A (z1g (K:=K) rfl) rfl T.len PySem.boot_len (z0a (pv 0) z0d)) z0f (z0D _)) (z0h (z0n (i:=2) sc_l_mix.nd rfl (Or.inl rfl) (z0T (z0x (K:=K) rfl) (pv 0) (z0s z0O (pv 1) (z0A (y2z rfl) rfl T.min boot_min (z0a z0f (z0a (z0A (z1g (K:=K) rfl) rfl T.len PySem.boot_len (z0a (pv 0) z0d)) z0d)))) (fun _ _=>rfl)))) z0y)
  (z0c (z0n (i:=3) sc_l_mix.nd rfl (Or.inl rfl) (z0s z0O (z0s z1r (pv 2) (z0s z0Z z0f (z0s z1r (pv 1) z0f))) z0f))
  (z0c (z0n (i:=3) sc_l_mix.nd rfl (Or.inl rfl) (z0s z0O (z0s z1r (z0s z0Z (pv 3) (pv 3)) (pv 1)) z0f))
  (z0h (z0t (z0s z0O (z0s z0Z (pv 3) (pv 3)) z0f))))))),?_⟩
 have hl:(ns.map V.int).length =ns.length:=q0a _
 refine⟨_,rfl,a,_,rfl,.inl hS,_,_,rfl,rfl,_,rfl,?_⟩
 refine z3f (fun c=>?_) (fun c=>?_)
 case' _=>
  have c':0<(((ns.map V.int).length :Nat):Int):=of_decide_eq_true c
  rw[hl] at c'
  have em:(if (((ns.map V.int).length :Nat):Int)<63 then (((ns.map V.int).length :Nat):Int) else 63)=ns.length:=by rw[hl];split<;>lia
  refine⟨_,rfl,_,rfl,_,rfl,a,_,rfl,.inl hS,_,_,rfl,?_⟩
  rw[em]
  refine⟨_,_,rfl,rfl,c',a,_,_,_,rfl,rfl,hS,z1s (Int.emod_nonneg _ (by lia)) (Int.emod_lt_of_pos _ c'),?_⟩
 all_goals
  refine⟨_,rfl,_,rfl,_,_,rfl,rfl,_,_,rfl,rfl,z2y (m:=64) (n:=64) (z9q (by lia) (by lia)) (z9q (by lia) (by lia)),_,_,rfl,rfl,_,_,rfl,rfl,cm,?_⟩
  have z1:∀x:Int,intBits (x%2147483629)≤64:=fun x=>z9q (by lia) (by lia)
  refine⟨_,rfl,_,rfl,_,_,rfl,rfl,z2y (m:=64) (n:=64) (z1 _) (z1 _),_,rfl,_,_,rfl,rfl,_,_,rfl,rfl,cm,?_⟩
  exact⟨_,rfl,_,rfl,_,_,rfl,rfl,z2y (m:=64) (n:=64) (z1 _) (z1 _),_,_,rfl,rfl,cm,q _ (by lia) (by lia)⟩
abbrev z4e:Stmt:=top 49
theorem sc_l_draws:z0r ["_law_script","_law_cell","_law_found","_law_k"] ["_law_script"] (z0j z4e):=⟨rfl,rfl,rfl,by decide+kernel,rfl,by decide+kernel,by decide+kernel⟩
def y0D (K:PySem.W.Frag):Sp:=fun vs H Q _=>∃(a:Addr) (ss:List Int),vs=[.ref a]∧SqL K H a (ss.map V.int)∧ss.length≤63∧
 ∀(ds:List Int) (l:Addr) (H':Hp),H l=none→ds.length=60→(∀d∈ds,0≤d∧d<2147483587)→Same H H'→H' l=some (.lst (ds.map V.int))→Q (.ref l) H'
theorem y0b {xs us:List V} (h:Each (fun _ u=>∃n:Int,u=V.int n∧0≤n∧n<2147483587) xs us):∃ps:List Int,us=ps.map V.int∧ps.length=xs.length∧∀n∈ps,0≤n∧n<2147483587:=by
 induction h with
 |nil=>exact⟨[],rfl,rfl,fun n h=>by cases h⟩
 |cons e _ ih=>
  obtain⟨n,rfl,n0⟩:=e
  obtain⟨ps,rfl,hl,hp⟩:=ih
  refine⟨n::ps,rfl,by simp[hl],fun k hk=>?_⟩
  rcases q0t.mp hk with rfl|hk
  ·exact n0
  ·exact hp k hk
def y2H (n:Nat):List V:=(List.range n).map fun i=>V.int ((0:Int)+(i:Nat))
theorem y0P {n i:Nat} (h:i<n):(y2H n)[i]? =some (V.int (0+(i:Nat))):=by
 unfold y2H
 rw[q0g,List.getElem?_range h];rfl
theorem z1B (n:Nat):(y2H n).length =n:=by unfold y2H;rw[List.length_map,List.length_range]
theorem z2I (n:Nat):z6m (Itr 0 n) (y2H n).length (fun _=>True) (fun i H x H'=>H'=H∧(y2H n)[i]? =some x):=by
 have r:=z2s 0 n
 rw[z1B]
 exact⟨r.go,r.stop,fun i H x H' h hi y=>by
  obtain⟨e1,e2⟩:=r.yld i H x H' h hi y
  exact⟨e1,by rw[y0P hi,e2]⟩⟩
theorem z9O (T:Txt mg) (F:Fun K "_law_draws" "_law_draws" z4e f fd) (c_l_mix:Cal P w K mg base 1 "_law_mix" ["_law_script","_law_k"] (y5U K)):FnOk P w K mg base CX0 2 f fd ["_law_script"] (y0D K):=by
 refine F.ok sc_l_draws (fun vs H Q E h=>?_) (fun cdv A outer s H vs Q E hr h=>?_)
 ·obtain⟨_,_,rfl,_⟩:=h;rfl
 obtain⟨a,ss,rfl,hS,h63,q⟩:=h
 refine⟨_,(z0c (z0n (i:=1) sc_l_draws.nd rfl (Or.inl rfl) z0f)
  (z0c (z0S (z0v z7N (z0A (z1g (K:=K) rfl) rfl T.len PySem.boot_len (z0a (pv 0) z0d)) z0f (z0D _)) (z0h (z0n (i:=1) sc_l_draws.nd rfl (Or.inl rfl) (z0T (z0x (K:=K) rfl) (pv 0) z0f (fun _ _=>rfl)))) z0y)
  (z0c (z0S (z0v z3q (z0s z0O (pv 1) z0f) z0f (z0D _)) (z0h (z0t (z0G (Nc:=["_law_k","_law_script"]) (fr:=[none,some 0]) rfl (z1N rfl T.range (z0a z0f z0d)) rfl (by decide) rfl (by decide) rfl ⟨rfl,trivial⟩ ⟨⟨rfl,rfl,rfl,rfl⟩,trivial⟩ (fun _ _ _ _=>(z0k (i:=0) (show List.Nodup (["_law_k","_law_script"]:List Str) from by decide) rfl (Or.inl rfl))) (fun _ _ _ _=>z0H) (fun _ _ _ _=>(z0q c_l_mix hr rfl (z0a (pv 1) (z0a (pv 0) z0d))))))) z0y)
  (z0c (z0n (i:=2) sc_l_draws.nd rfl (Or.inl rfl) (z0U z0d))
  (z0c (z0n (i:=1) sc_l_draws.nd rfl (Or.inl rfl) (z0s z5M (pv 1) z0f))
  (z0c (z1f PassesOwn.never rfl (z1N rfl T.range (z0a z0f z0d)) (z0k (i:=3) sc_l_draws.nd rfl (Or.inl rfl)) (z0c (z1E (z6K PySem.F.plainAttrs_list PySem.F.slot_list_append PySem.F.type_list_append z1n (pv 2) (z0a (z0s z0O (pv 1) z0f) z0d)))
  (z0h (z0n (i:=1) sc_l_draws.nd rfl (Or.inl rfl) (z0s z5M (pv 1) z0f)))))
  (z0h (z0t (pv 2))))))))),?_⟩
 have hl:(ss.map V.int).length =ss.length:=q0a _
 refine z0p (fun σ H'=>H=H'∧∃(c:Int),σ=[some (.ref a),some (.int c),none,none]) (fun N hN=>?_) ?_
 ·exact hN _ _ ⟨rfl,_,rfl⟩
 rintro σ H' ⟨rfl,c,rfl⟩
 refine z0p (fun σ H'=>H=H'∧∃(c:Int),σ=[some (.ref a),some (.int c),none,none]) (fun N hN=>?_) ?_
 ·refine⟨_,rfl,a,_,rfl,.inl hS,_,_,rfl,rfl,_,rfl,?_⟩
  refine z3f (fun c=>?_) (fun c=>?_)
  ·have c':0<(((ss.map V.int).length :Nat):Int):=of_decide_eq_true c
   rw[hl] at c'
   exact⟨_,rfl,a,_,_,_,rfl,rfl,hS,z1s (by decide) c',hN _ _ ⟨rfl,_,rfl⟩⟩
  ·exact hN _ _ ⟨rfl,_,rfl⟩
 rintro σ H' ⟨rfl,c,rfl⟩
 refine⟨_,rfl,_,_,rfl,rfl,cm,rfl,_,rfl,?_⟩
 refine z3f (fun c=>?_) (fun c=>?_)
 ·refine⟨_,rfl,by decide,by decide,fun D hD=>?_⟩
  refine z7e rfl (z2I 60) hD (fun _=>true) (fun _ _ u=>∃n:Int,u=V.int n∧0≤n∧n<2147483587) (fun _ _ _ _ _ _ h=>h) (fun _ _=>trivial) (z0l (by rw[z1B];decide)) ?_ ?_ ?_
  ·intro x hx Hc gc S h
   exact h _ (Same.refl _)
  ·intro x hx _ Hc gc S h
   unfold y2H at hx
   obtain⟨j,hj,rfl⟩:=q0f.mp hx
   have hj':=q1c.mp hj
   exact⟨_,rfl,_,rfl,a,ss,_,rfl,SqL.same gc hS,h63,by lia,by lia,fun r r0 r1=>h _ _ (Same.refl _) ⟨_,rfl,r0,r1⟩⟩
  intro xs H4 g4 hD4 he
  rw[z0z] at he
  obtain⟨ps,rfl,pl,zp⟩:=y0b he
  rw[z1B] at pl
  exact q ps D _ hD pl zp g4 hD4
 refine⟨q0K _,fun l hl0=>?_⟩
 have g0:=z0e hl0 (.lst [])
 have e0:upd H l (.lst []) l=some (.lst (([]:List Int).map V.int)):=z0b
 generalize upd H l (.lst [])=H0 at*
 refine⟨_,rfl,_,_,rfl,rfl,cf,?_⟩
 refine⟨_,rfl,by decide,by decide,?_⟩
 refine z0I (z2s 0 60) (fun i σ H'=>∃(ds:List Int) (num:Int) (s3:Option V),σ=[some (.ref a),some (.int num),some (.ref l),s3]∧H' l=some (.lst (ds.map V.int))∧ds.length=i∧(∀d∈ds,0≤d∧d<2147483587)∧Same H H')
  ⟨[],_,_,rfl,e0,rfl,by simp,g0⟩ (fun _ _ _ _ _=>trivial) ?_ ?_
 ·clear e0
  rintro i x σ H1 H2 hi ⟨ds,num,s3,rfl,hl1,hlen,hb,g⟩ ⟨rfl,rfl⟩
  have hz:(ds.map V.int).length <sizeLine:=z1Z (by rw[q0a,hlen];lia)
  refine⟨_,rfl,.inl ⟨rfl,_,SqL.of hl1⟩,_,rfl,_,_,rfl,rfl,cm,l,_,_,rfl,rfl,hl1,hz,?_⟩
  refine⟨_,rfl,_,_,rfl,rfl,cf,?_⟩
  refine⟨ds++[num%5040],_,_,rfl,by rw[z0b,q0p];rfl,by simp[hlen],fun d hd=>?_,fun b u e=>by rw[z0i (z0g e hl0)];exact g _ _ e⟩
  rcases q0D.mp hd with hd|hd
  ·exact hb d hd
  ·rw[q0i.mp hd];lia
 ·rintro σ H1 ⟨ds,num,s3,rfl,hl1,hlen,hb,g⟩
  exact⟨_,rfl,q ds l _ hl0 hlen hb g hl1⟩
end
end L2
namespace L2
open PySem PySem.Spec PyProof.Rows
section
open Fr Wl
open Builtin.Int (intBits)
variable {P:Program}{w:World}{K:PySem.W.Frag}{mg:Str→Option Value}{base:Heap}{f:Addr}{fd:FuncData}
abbrev z4d:Stmt:=top 50
theorem sc_l_plain:z0r ["_law_row_here","_law_most","_law_number","_law_first"] ["_law_row_here"] (z0j z4d):=⟨rfl,rfl,rfl,by decide+kernel,rfl,by decide+kernel,by decide+kernel⟩
def y0z (K:PySem.W.Frag):Sp:=fun vs H Q _=>∃(p:Addr) (rs:List Int),vs=[.ref p]∧SqA K H p (rs.map V.int)∧rs.length≤1000∧(∀n∈rs,intBits n≤9000)∧(∃n∈rs,n≠0)∧
 ∀t H',Same H H'→H' t=some (.tup ((z0m rs).map V.int))→Q (.ref t) H'
theorem z9N (T:Txt mg) (F:Fun K "_law_plain" "_law_plain" z4d f fd) (c_l_divisor:Cal P w K mg base 1 "_law_divisor" ["_law_one","_law_other"] z1K):FnOk P w K mg base CX0 2 f fd ["_law_row_here"] (y0z K):=by
 refine F.ok sc_l_plain (fun vs H Q E h=>?_) (fun cdv A outer s H vs Q E hr h=>?_)
 ·obtain⟨_,_,rfl,_⟩:=h;rfl
 obtain⟨p,rs,rfl,hS,hlen,zb,hnz2,q⟩:=h
 obtain⟨b,hB1⟩:=hS.toB
 refine⟨_,(z0c (z0n (i:=1) sc_l_plain.nd rfl (Or.inr rfl) z0f)
  (z0c (z1f PassesOwn.never rfl (z2W (K:=K) rfl (pv 0)) (z0k (i:=2) sc_l_plain.nd rfl (Or.inl rfl)) (z0h (z0n (i:=1) sc_l_plain.nd rfl (Or.inr rfl) (z0q c_l_divisor hr rfl (z0a (pv 1) (z0a (pv 2) z0d))))))
  (z0c (z0n (i:=3) sc_l_plain.nd rfl (Or.inl rfl) (z0T (z0x (K:=K) rfl) (z0G (Nc:=["_law_number"]) (fr:=[none]) rfl (z2W (K:=K) rfl (pv 0)) rfl (by decide) rfl (by decide) rfl trivial trivial (fun _ _ _ _=>(z0k (i:=0) (show List.Nodup (["_law_number"]:List Str) from by decide) rfl (Or.inl rfl))) (fun _ _ _ _=>(z2J (z0v z6N (pv 0) z0f (z0D _)))) (fun _ _ _ _=>(pv 0))) z0f (fun _ _=>rfl)))
  (z0c (z0S (z0v y5c (pv 3) z0f (z0D _)) (z0h (z0n (i:=1) sc_l_plain.nd rfl (Or.inr rfl) (z0s z1P z0f (pv 1)))) z0y)
  (z0h (z0t (z0J (z0W (K:=K) rfl) rfl T.tuple boot_tuple (z0a (z0G (Nc:=["_law_number","_law_most"]) (fr:=[none,some 1]) rfl (z2W (K:=K) rfl (pv 0)) rfl (by decide) rfl (by decide) rfl ⟨rfl,trivial⟩ ⟨⟨rfl,rfl,rfl,rfl⟩,trivial⟩ (fun _ _ _ _=>(z0k (i:=0) (show List.Nodup (["_law_number","_law_most"]:List Str) from by decide) rfl (Or.inl rfl))) (fun _ _ _ _=>z0H) (fun _ _ _ _=>(z0s z2X (pv 0) (pv 1)))) z0d)))))))),?_⟩
 refine⟨_,rfl,p,b,_,rfl,hB1,?_⟩
 refine z0I (z1V K b p (rs.map V.int)) (fun i σ H'=>H=H'∧∃s2,σ=[some (.ref p),some (.int (z1p (rs.take i):Nat)),s2,none]) ⟨rfl,_,rfl⟩ (fun i σ H' _ h=>h.1▸hB1) ?_ ?_
 ·rintro i x σ H4 H5 hi ⟨rfl,s2,rfl⟩ ⟨rfl,hx⟩
  rw[q0g] at hx
  obtain⟨n,hn,rfl⟩:=q0r.mp hx
  have tk:rs.take (i+1)=rs.take i++[n]:=by rw[q0E,hn];rfl
  refine⟨_,rfl,_,rfl,_,_,rfl,?_⟩
  rw[tk,z6Z]
  exact⟨rfl,_,rfl⟩
 rintro σ H1 ⟨rfl,s2,rfl⟩
 rw[q0a,q0P]
 refine⟨_,rfl,p,b,_,rfl,hB1,fun D hD=>?_⟩
 refine z0V rfl (z1V K b p (rs.map V.int)) hD (fun v=>match v with| .int n=> !decide (V.int n=V.int 0)|_=>false) (fun v=>v) (fun H' g'=>hB1.same g') (z0l (by rw[q0a];lia)) ?_ ?_ ?_
 ·intro x hx Hc gc S h
  obtain⟨n,_,rfl⟩:=q0f.mp hx
  exact⟨_,rfl,rfl,_,rfl,h⟩
 ·intro x hx _ Hc gc S h
  exact⟨_,rfl,h⟩
 ·refine⟨D,_,_,_,rfl,rfl,SqL.of z0b,z4x rs (z5Z hnz2),?_⟩
  have gD:=z0e (H:=H) hD (.lst ((((rs.map V.int).filter fun v=>match v with| .int n=> !decide (V.int n=V.int 0)|_=>false)).map fun v=>v))
  generalize upd H D (.lst ((((rs.map V.int).filter fun v=>match v with| .int n=> !decide (V.int n=V.int 0)|_=>false)).map fun v=>v))=H5 at gD
  have hB5:=hB1.same gD
  refine⟨_,rfl,_,_,rfl,rfl,_,rfl,?_⟩
  have hby:byL rs≠0∧intBits (byL rs)≤9000:=⟨z2g hnz2,z9p hnz2 zb⟩
  refine z3f (fun c=>?_) (fun c=>?_)
  case' _=>
   have c':z1a rs<0:=of_decide_eq_true c
   have eb:0 - (z1p rs:Int)=byL rs:=by unfold byL;rw[if_pos c'];lia
   refine⟨_,rfl,_,_,rfl,rfl,?_⟩
   dsimp only
   rw[eb]
  rotate_left
  case' _=>
   have c':¬z1a rs<0:=fun z=>c (decide_eq_true z)
   have eb:(z1p rs:Int)=byL rs:=by unfold byL;rw[if_neg c']
   rw[eb]
  all_goals
   refine⟨_,rfl,p,b,_,rfl,hB5,fun D2 hD2=>?_⟩
   refine z0V rfl (z1V K b p (rs.map V.int)) hD2 (fun _=>true) (fun v=>match v with| .int n=> .int (n.fdiv (byL rs))|u=>u) (fun H' g'=>hB5.same g') (z0l (by rw[q0a];lia)) ?_ ?_ ?_
   ·intro x _ Hc _ S h
    exact h
   ·intro x hx _ Hc _ S h
    obtain⟨n,_,rfl⟩:=q0f.mp hx
    exact⟨_,rfl,_,rfl,_,_,rfl,rfl,hby,h⟩
   ·rw[z0z,q0x]
    have em:rs.map ((fun v=>match v with| .int n=>V.int (n.fdiv (byL rs))|u=>u)∘V.int)=(z0m rs).map V.int:=by
     unfold z0m
     rw[q0x];rfl
    rw[em]
    exact⟨D2,_,rfl,.inl ⟨SqL.of z0b,fun t ht=>q t _ (gD.trans ((z0e hD2 _).trans (z0e ht _))) z0b⟩⟩
end
end L2
namespace L2
open PySem PySem.Spec PyProof.Rows
section
open Fr Wl Rk
open Builtin.Int (intBits)
variable {P:Program}{w:World}{K:PySem.W.Frag}{mg:Str→Option Value}{base:Heap}{f:Addr}{fd:FuncData}
theorem z2m {n k:Nat} (h:k<n):ixN n (k:Int)=some k:=by
 unfold ixN
 rw[if_pos (by lia),if_pos (by lia)]
 rw[q0S]
theorem z9Z (m:Nat):(List.replicate m [V.int 0]).flatten =(List.replicate m (0:Int)).map V.int:=by
 induction m with
 |zero=>rfl
 |succ m ih=>rw[List.replicate_succ,List.flatten_cons,ih,List.replicate_succ];rfl
theorem y6F {K:PySem.W.Frag}{H:Hp}{a:Addr}{ns:List Int} (h:H a=some (.lst (ns.map V.int))):IsD K H (.ref a) (.l (ns.map Dt.i)):= .l (SqL.of h) (z3L ns)
theorem z9A {n:Int} (h:n.natAbs≤5000000000000000000):intBits n≤64:=intBits_le_of_natAbs (y:=5000000000000000000) h (by decide)
theorem y2b {ds:List Int} (h:∀d∈ds,0≤d∧d<2147483587) (j:Nat):0≤ds.getD j 0∧ds.getD j 0<2147483587:=by
 rw[q0b]
 cases e:ds[j]? with
 |none=>exact⟨Int.le_refl _,by decide⟩
 |some n=>exact h n (List.mem_of_getElem? e)
theorem z6e {rs:List Int}{b:Nat} (h:∀n∈rs,n.natAbs≤b) (j:Nat):(rs.getD j 0).natAbs ≤b:=by
 rw[q0b]
 cases e:rs[j]? with
 |none=>exact Nat.zero_le _
 |some n=>exact h n (List.mem_of_getElem? e)
def y7b (H:Hp) (a:Addr) (m k:Nat) (way:Int) (b:Nat):St→Hp→Prop:=fun σ H'=>∃(R:Addr) (rs:List Int) (s5 s6:Option V),σ=[some (.ref a),some (.int (m:Nat)),some (.int (k:Nat)),some (.int way),some (.ref R),s5,s6]∧H R=none∧H' R=some (.lst (rs.map V.int))∧rs.length=m+1∧(∀n∈rs,n.natAbs≤b)∧Same H H'
theorem z7K {H H':Hp}{a R:Addr}{m k b j:Nat}{way z:Int}{rs:List Int}{s5 s6:Option V} (hR:H R=none) (hl:rs.length=m+1) (hb:∀n∈rs,n.natAbs≤b) (g:Same H H') (hz:z.natAbs≤b):
 y7b H a m k way b [some (.ref a),some (.int (m:Nat)),some (.int (k:Nat)),some (.int way),some (.ref R),s5,s6] (upd H' R (.lst ((rs.map V.int).set j (.int z)))):=
 ⟨R,rs.set j z,s5,s6,rfl,hR,by rw[z0b,List.map_set],by rw[q1K];exact hl,fun n hn=>by
   rcases q1V hn with hn|rfl
   ·exact hb n hn
   ·exact hz,fun c o e=>by rw[z0i (z0g e hR)];exact g _ _ e⟩
def RB (m:Nat) (rs:List Int):Prop:=(∀n∈rs,n.natAbs≤4000000000000000000)∧∀j,j<m→(v rs j).natAbs ≤4000000000
theorem RB.of {m:Nat}{rs:List Int} (h:∀n∈rs,n.natAbs≤3):RB m rs:=⟨fun n hn=>q0m (h n hn) (by decide),fun j _=>q0m (z6e h j) (by decide)⟩
theorem v_set {rs:List Int}{i j:Nat}{z:Int}:v (rs.set i z) j=z∨v (rs.set i z) j=v rs j:=by
 show (rs.set i z).getD j 0=z∨(rs.set i z).getD j 0=rs.getD j 0
 rw[q0b,q0b,List.getElem?_set]
 by_cases h:i=j
 ·rw[if_pos h]
  by_cases h2:i<rs.length
  ·rw[if_pos h2];exact .inl rfl
  ·rw[if_neg h2,q1r (by lia)];exact .inr rfl
 ·rw[if_neg h];exact .inr rfl
theorem y2M {rs:List Int}{i j:Nat}{z:Int} (h:i≠j):v (rs.set i z) j=v rs j:=by
 show (rs.set i z).getD j 0=rs.getD j 0
 rw[q0b,q0b,q1E h]
theorem RB.set {m i:Nat}{rs:List Int}{z:Int} (h:RB m rs) (hz:z.natAbs≤4000000000):RB m (rs.set i z):=⟨fun n hn=>by
 rcases q1V hn with hn|rfl
 ·exact h.1 n hn
 ·exact q0m hz (by decide),fun j hj=>by
 rcases v_set (rs:=rs) (i:=i) (j:=j) (z:=z) with e|e
 ·rw[e];exact hz
 ·rw[e];exact h.2 j hj⟩
theorem RB.last {m:Nat}{rs:List Int}{z:Int} (h:RB m rs) (hz:z.natAbs≤4000000000000000000):RB m (rs.set m z):=⟨fun n hn=>by
 rcases q1V hn with hn|rfl
 ·exact h.1 n hn
 ·exact hz,fun j hj=>by rw[y2M (by lia)];exact h.2 j hj⟩
def RowJ (H:Hp) (a:Addr) (m k:Nat) (way:Int):St→Hp→Prop:=fun σ H'=>∃(R:Addr) (rs:List Int) (s5 s6:Option V),σ=[some (.ref a),some (.int (m:Nat)),some (.int (k:Nat)),some (.int way),some (.ref R),s5,s6]∧H R=none∧H' R=some (.lst (rs.map V.int))∧rs.length=m+1∧RB m rs∧Same H H'
theorem y3d {Hx:Hp}{z1 z2 z3:Addr}{z:Int} (h0:0≤z) (h1:z<3) (e1:Hx z1=some (.lst [V.int 1,V.int 0,V.int 0,V.int 2])) (e2:Hx z2=some (.lst [V.int 0,V.int 1,V.int 1,V.int (-1)])) (e3:Hx z3=some (.lst [V.int 1,V.int 1,V.int 0,V.int 0])):
 ∃(y:Addr) (cs:List Int),atI [V.ref z1,V.ref z2,V.ref z3] z=some (.ref y)∧Hx y=some (.lst (cs.map V.int))∧cs.length=4∧∀n∈cs,n.natAbs≤3:=by
 rcases (by lia:z=0∨z=1∨z=2) with rfl|rfl|rfl
 ·exact⟨z1,[1,0,0,2],rfl,e1,rfl,by decide⟩
 ·exact⟨z2,[0,1,1,-1],rfl,e2,rfl,by decide⟩
 ·exact⟨z3,[1,1,0,0],rfl,e3,rfl,by decide⟩
abbrev z7G:Stmt:=top 51
theorem sc_l_row:z0r ["_law_draws_here","_law_ways","_law_k","_law_way","_law_row_here","_law_j","_law_at"] ["_law_draws_here","_law_ways","_law_k","_law_way"] (z0j z7G):=⟨rfl,rfl,rfl,by decide+kernel,rfl,by decide+kernel,by decide+kernel⟩
def y5T (K:PySem.W.Frag):Sp:=fun vs H Q _=>∃(a:Addr) (ds:List Int) (m k:Nat) (way:Int),vs=[.ref a,.int (m:Nat),.int (k:Nat),.int way]∧H a=some (.lst (ds.map V.int))∧ds.length=60∧(∀d∈ds,0≤d∧d<2147483587)∧1≤m∧m≤4∧k≤6∧
 ∀(t:Addr) (rs:List Int) (H':Hp),Same H H'→H' t=some (.tup ((z0m rs).map V.int))→rs.length=m+1→(∃j,j<m∧v rs j≠0)→((∀n∈rs,intBits n≤64)∧∀j,j<m→intBits (v rs j)≤32)→Q (.ref t) H'
theorem y3k (T:Txt mg) (F:Fun K "_law_row" "_law_row" z7G f fd) (c_l_plain:Cal P w K mg base 2 "_law_plain" ["_law_row_here"] (y0z K)):FnOk P w K mg base CX0 3 f fd ["_law_draws_here","_law_ways","_law_k","_law_way"] (y5T K):=by
 refine F.ok sc_l_row (fun vs H Q E h=>?_) (fun cdv A outer s H vs Q E hr h=>?_)
 ·obtain⟨_,_,_,_,_,rfl,_⟩:=h;rfl
 obtain⟨a,ds,m,k,way,rfl,ha,dl,db,m1,m4,k6,q⟩:=h
 apply Exists.intro
 apply And.intro
 ·apply z0c
  ·exact (z0n (i:=4) sc_l_row.nd rfl (Or.inl rfl) (z0U z0d))
  apply z0c
  ·exact (z1f PassesOwn.never rfl (z1N rfl T.range (z0a (z0s z1r (pv 1) z0f) z0d)) (z0k (i:=5) sc_l_row.nd rfl (Or.inl rfl)) (z0h (z1E (z6K PySem.F.plainAttrs_list PySem.F.slot_list_append PySem.F.type_list_append z1n (pv 4) (z0a (z0s z1P (z0s z0O (z0T (z0x (K:=K) rfl) (pv 0) (z0s z1r (z0s z1r z0f (z0s z0Z z0f (pv 2))) (pv 5)) (fun _ _=>rfl)) z0f) z0f) z0d)))))
  apply z0c
  ·exact (z0S (z0v z3q (pv 3) z0f (z0D _)) (z0h (z2B z0f (z3A (pv 4) (pv 1) z1A))) z0y)
  apply z0c
  ·apply (z0S (z0v z3q (pv 3) z0f (z0D _)) (z0h (z0n (i:=4) sc_l_row.nd rfl (Or.inl rfl) (z0s z6O (z1l (z2r (K:=K) rfl) (z0T (z0x (K:=K) rfl) ?l (z0s z0O (z0T (z0x (K:=K) rfl) (pv 4) z0f (fun _ _=>rfl)) z0f) (fun _ _=>rfl)) z1G (z1F (pv 1))) (z0U (z0a (z0T (z0x (K:=K) rfl) (pv 4) (pv 1) (fun _ _=>rfl)) z0d))))) z0y)
   case l=>exact (z0U (z0a (z0U (z0a z0f (z0a z0f (z0a z0f (z0a z0f z0d))))) (z0a (z0U (z0a z0f (z0a z0f (z0a z0f (z0a (z1O z1d z0f) z0d))))) (z0a (z0U (z0a z0f (z0a z0f (z0a z0f (z0a z0f z0d))))) z0d))))
  apply z0c
  ·exact (z0S (PW.pt (y6c (z0v z3q (pv 3) z0f (z0D _)) (y4U (z0v z7N (pv 1) z0f (z0D _))))) (z0c (z0n (i:=6) sc_l_row.nd rfl (Or.inl rfl) (z0s z0O (z0T (z0x (K:=K) rfl) (pv 4) z0f (fun _ _=>rfl)) (pv 1)))
  (z0c (z0n (i:=4) sc_l_row.nd rfl (Or.inl rfl) (z0s z6O (z0s y1h (z0U (z0a z0f z0d)) (pv 1)) (z0U (z0a (z0s z1P (z0s z0O (z0T (z0x (K:=K) rfl) (pv 4) (pv 1) (fun _ _=>rfl)) z0f) z0f) z0d))))
  (z0c (z2B z0f (z3A (pv 4) (pv 6) z1A))
  (z0h (z2B (z1O z1d z0f) (z3A (pv 4) (z0s z0O (z0s z1r (z0s z1r (pv 6) z0f) (z0s z0O (z0s z5M (z0T (z0x (K:=K) rfl) (pv 0) (z0s z1r z0f (z0s z0Z z0f (pv 2))) (fun _ _=>rfl)) z0f) (z0s z1P (pv 1) z0f))) (pv 1)) z1A)))))) z0y)
  apply z0c
  ·exact (z0S (z0v z3q (pv 3) z0f (z0D _)) (z0c (z2B (z0s z1r (z0s z0Z (z0T (z0x (K:=K) rfl) (pv 4) (pv 1) (fun _ _=>rfl)) (y1c (v:=1000000000000000000) (by decide+kernel) z0f z0f)) (z0T (z0x (K:=K) rfl) (pv 0) (pv 2) (fun _ _=>rfl))) (z3A (pv 4) (pv 1) z1A))
  (z0h (z2B (z0s z1r (z0s z0Z (z0T (z0x (K:=K) rfl) (pv 4) z0f (fun _ _=>rfl)) (y1c (v:=1000000000) (by decide+kernel) z0f z0f)) z0f) (z3A (pv 4) z0f z1A)))) z0y)
  apply z0c
  ·exact (z0S (z0v z3q (pv 3) z0f (z0D _)) (z0h (z3o (jj:=4) rfl sc_l_row.nd rfl (Or.inl rfl) (Or.inl rfl) (Nc:=["_law_number"]) (fr:=[none]) rfl (z0E (K:=K) rfl (pv 4)) rfl (by decide) rfl (by decide) rfl trivial trivial (fun _ _ _ _=>(z0k (i:=0) (show List.Nodup (["_law_number"]:List Str) from by decide) rfl (Or.inl rfl))) (fun _ _ _ _=>z0H) (fun _ _ _ _=>(z0s z1P (z0s z0O (pv 0) z0f) z0f)))) z0y)
  apply z0c
  ·exact (z0S (z0v (y5e (K:=K) rfl hr.units) (z0G (Nc:=["_law_number"]) (fr:=[none]) rfl (z0E (K:=K) rfl (z1l (z2r (K:=K) rfl) (pv 4) z1G (z1F (pv 1)))) rfl (by decide) rfl (by decide) rfl trivial trivial (fun _ _ _ _=>(z0k (i:=0) (show List.Nodup (["_law_number"]:List Str) from by decide) rfl (Or.inl rfl))) (fun _ _ _ _=>(z2J (z0v z6N (pv 0) z0f (z0D _)))) (fun _ _ _ _=>(pv 0))) (z0U z0d) (z0D _)) (z0h (z2B z0f (z3A (pv 4) (z0s z1P (pv 1) z0f) z1A))) z0y)
  apply z0h
  ·exact (z0t (z0q c_l_plain hr rfl (z0a (pv 4) z0d)))
 have zs:∀z:Int,-1000≤z→z≤1000→intBits z≤64:=fun z h1 h2=>z9q (by lia) (by lia)
 refine z0p (fun σ H'=>∃R0:Addr,σ=[some (.ref a),some (.int (m:Nat)),some (.int (k:Nat)),some (.int way),some (.ref R0),none,none]∧H R0=none∧H' R0=some (.lst (([]:List Int).map V.int))∧Same H H') (fun N hN=>?_) ?_
 ·exact⟨q0K _,fun R0 hR0=>hN _ _ ⟨R0,rfl,hR0,z0b,z0e hR0 _⟩⟩
 rintro σ H0 ⟨R0,rfl,hR0,e0,g0⟩
 refine z0p (y7b H a m k way 3) (fun N hN=>?_) ?_
 ·refine⟨_,rfl,_,_,rfl,rfl,_,rfl,by lia,by lia,?_⟩
  rw[show ((m:Int)+1).toNat =m+1 by lia]
  refine z0I (z2s 0 (m+1)) (fun i σ H'=>∃(rs:List Int) (s5:Option V),σ=[some (.ref a),some (.int (m:Nat)),some (.int (k:Nat)),some (.int way),some (.ref R0),s5,none]∧H' R0=some (.lst (rs.map V.int))∧rs.length=i∧(∀n∈rs,n.natAbs≤3)∧Same H H') ⟨[],_,rfl,e0,rfl,by simp,g0⟩ (fun _ _ _ _ _=>trivial) ?_ ?_
  ·clear e0
   rintro i x σ H1 H2 hi ⟨rs,s5,rfl,e,el,eb,g⟩ ⟨rfl,rfl⟩
   have hz:(rs.map V.int).length <sizeLine:=z1Z (by rw[q0a,el];lia)
   refine⟨_,rfl,.inl ⟨rfl,_,SqL.of e⟩,_,rfl,_,rfl,_,_,rfl,rfl,z2y (zs _ (by lia) (by lia)) (zs _ (by lia) (by lia)),_,_,rfl,rfl,_,rfl,_,_,rfl,rfl,a,_,_,_,rfl,rfl,SqL.of (g _ _ ha),z1s (by lia) (by lia),_,_,rfl,rfl,cm,_,_,rfl,rfl,R0,_,_,rfl,rfl,e,hz,?_⟩
   dsimp only
   generalize ds.getD (16+5*(k:Int)+(0+(i:Int))).toNat 0=d
   refine⟨rs++[d%7 - 3],_,rfl,by rw[z0b,q0p];rfl,by simp[el],fun n hn=>?_,fun b u e=>by rw[z0i (z0g e hR0)];exact g _ _ e⟩
   rcases q0D.mp hn with hn|hn
   ·exact eb n hn
   ·rw[q0i.mp hn];lia
  ·rintro σ H1 ⟨rs,s5,rfl,e,el,eb,g⟩
   exact hN _ _ ⟨R0,rs,_,_,rfl,hR0,e,el,eb,g⟩
 clear e0 g0
 rintro σ H1 ⟨R,rs,s5,s6,rfl,hR,e,el,eb,g⟩
 refine z0p (y7b H a m k way 3) (fun N hN=>?_) ?_
 ·refine⟨_,rfl,rfl,_,rfl,?_⟩
  refine z3f (fun c=>?_) (fun c=>?_)
  ·refine⟨_,rfl,_,rfl,R,_,_,m,rfl,rfl,e,z2m (by rw[q0a];lia),?_⟩
   exact hN _ _ (z7K hR el eb g (by decide))
  ·exact hN _ _ ⟨R,rs,_,_,rfl,hR,e,el,eb,g⟩
 clear e el eb g hR
 rintro σ H1 ⟨R,rs,s5,s6,rfl,hR,e,el,eb,g⟩
 refine z0p (y7b H a m k way 3) (fun N hN=>?_) ?_
 ·refine⟨_,rfl,rfl,_,rfl,?_⟩
  refine z3f (fun c=>?_) (fun c=>?_)
  ·refine⟨z0l (by show 4≤_;decide),fun z1 hz1=>⟨_,rfl,z0l (by show 4≤_;decide),fun z2 hz2=>⟨z0l (by show 4≤_;decide),fun z3 hz3=>⟨z0l (by show 3≤_;decide),fun z4 hz4=>?_⟩⟩⟩⟩
   have g1:=z0e hz1 (.lst [V.int 1,V.int 0,V.int 0,V.int 2])
   have e1:upd H1 z1 (.lst [V.int 1,V.int 0,V.int 0,V.int 2]) z1=some (.lst [V.int 1,V.int 0,V.int 0,V.int 2]):=z0b
   generalize upd H1 z1 (.lst [V.int 1,V.int 0,V.int 0,V.int 2])=H2 at*
   have g2:=z0e hz2 (.lst [V.int 0,V.int 1,V.int 1,V.int (-1)])
   have e2:upd H2 z2 (.lst [V.int 0,V.int 1,V.int 1,V.int (-1)]) z2=some (.lst [V.int 0,V.int 1,V.int 1,V.int (-1)]):=z0b
   generalize upd H2 z2 (.lst [V.int 0,V.int 1,V.int 1,V.int (-1)])=H3 at*
   have g3:=z0e hz3 (.lst [V.int 1,V.int 1,V.int 0,V.int 0])
   have e3:upd H3 z3 (.lst [V.int 1,V.int 1,V.int 0,V.int 0]) z3=some (.lst [V.int 1,V.int 1,V.int 0,V.int 0]):=z0b
   generalize upd H3 z3 (.lst [V.int 1,V.int 1,V.int 0,V.int 0])=H4 at*
   have g4:=z0e hz4 (.lst [V.ref z1,V.ref z2,V.ref z3])
   have e4:upd H4 z4 (.lst [V.ref z1,V.ref z2,V.ref z3]) z4=some (.lst [V.ref z1,V.ref z2,V.ref z3]):=z0b
   generalize upd H4 z4 (.lst [V.ref z1,V.ref z2,V.ref z3])=H5 at*
   have g15:=g1.trans (g2.trans (g3.trans g4))
   have e5:=g15 _ _ e
   refine⟨_,rfl,R,_,_,_,rfl,rfl,SqL.of e5,z1s (by decide) (by lia),_,_,rfl,rfl,cm,?_⟩
   obtain⟨y,cs,hy,ey,cl,cb⟩:=y3d (z:=rs.getD (0:Int).toNat 0%3) (by lia) (by lia) ((g2.trans (g3.trans g4)) _ _ e1) ((g3.trans g4) _ _ e2) (g4 _ _ e3)
   refine⟨z4,_,_,_,rfl,rfl,SqL.of e4,hy,_,rfl,_,rfl,y,_,rfl,SqL.of ey,fun s1 hs1=>?_⟩
   rw[z9n (by lia) (by rw[q0a,cl];lia),q0S,←List.map_take]
   have g6:=z0e hs1 (.lst ((cs.take m).map V.int))
   have e6:upd H5 s1 (.lst ((cs.take m).map V.int)) s1=some (.lst ((cs.take m).map V.int)):=z0b
   generalize upd H5 s1 (.lst ((cs.take m).map V.int))=H6 at*
   refine⟨_,rfl,_,rfl,R,_,_,_,rfl,rfl,SqL.of (g6 _ _ e5),z1s (by lia) (by lia),z0l (by show 1≤_;decide),fun s2 hs2=>?_⟩
   have lw:=z6e eb (m:Int).toNat
   generalize rs.getD (m:Int).toNat 0=lst at*
   have g7:=z0e hs2 (.lst [V.int lst])
   have e7:upd H6 s2 (.lst [V.int lst]) s2=some (.lst [V.int lst]):=z0b
   generalize upd H6 s2 (.lst [V.int lst])=H7 at*
   refine⟨s1,s2,_,_,rfl,rfl,g7 _ _ e6,e7,z0l (by rw[q0a,q0q,cl];show min m 4+1≤_;lia),fun R2 hR2=>?_⟩
   have g17:Same H1 H7:=g15.trans (g6.trans g7)
   refine hN _ _ ⟨R2,cs.take m++[lst],_,_,rfl,(g.trans g17).free hR2,by rw[z0b,q0p];rfl,by rw[q0l,q0q,cl];show min m 4+1=_;lia,fun n hn=>?_,g.trans (g17.trans (z0e hR2 _))⟩
   rcases q0D.mp hn with hn|hn
   ·exact cb n (q1D hn)
   ·rw[q0i.mp hn];exact lw
  ·exact hN _ _ ⟨R,rs,_,_,rfl,hR,e,el,eb,g⟩
 clear e el eb g hR
 rintro σ H1 ⟨R,rs,s5,s6,rfl,hR,e,el,eb,g⟩
 refine z0p (y7b H a m k way 3) (fun N hN=>?_) ?_
 ·refine⟨_,rfl,rfl,_,rfl,?_⟩
  refine z3f (fun c=>?_) (fun c=>?_)
  ·refine⟨_,rfl,_,_,rfl,rfl,_,rfl,?_⟩
   refine z3f (fun c2=>?_) (fun c2=>?_)
   ·have m2:1<(m:Int):=of_decide_eq_true c2
    refine z0p (fun σ H'=>∃(at_:Nat),σ=[some (.ref a),some (.int (m:Nat)),some (.int (k:Nat)),some (.int way),some (.ref R),s5,some (.int (at_:Nat))]∧H1=H'∧at_<m) (fun N' hN'=>?_) ?_
    ·refine⟨_,rfl,R,_,_,_,rfl,rfl,SqL.of e,z1s (by decide) (by lia),_,rfl,_,_,rfl,rfl,(show (0:Int)<(m:Int) by lia),?_⟩
     have h0:=Int.emod_nonneg (rs.getD (0:Int).toNat 0) (show (m:Int)≠0 by lia)
     have h1:=Int.emod_lt_of_pos (rs.getD (0:Int).toNat 0) (show (0:Int)<(m:Int) by lia)
     exact hN' _ _ ⟨(rs.getD (0:Int).toNat 0%(m:Int)).toNat,by rw[Int.toNat_of_nonneg h0];rfl,rfl,by lia⟩
    rintro σ H2 ⟨at_,rfl,rfl,atm⟩
    refine z0p (fun σ H'=>∃(R2:Addr) (rs2:List Int),σ=[some (.ref a),some (.int (m:Nat)),some (.int (k:Nat)),some (.int way),some (.ref R2),s5,some (.int (at_:Nat))]∧H R2=none∧H' R2=some (.lst (rs2.map V.int))∧rs2.length=m+1∧(∀n∈rs2,n.natAbs≤3)∧Same H H') (fun N' hN'=>?_) ?_
    ·refine⟨z0l (by show 1≤_;decide),fun z hz=>?_⟩
     have g0:=z0e hz (.lst [V.int 0])
     have e0:upd H1 z (.lst [V.int 0]) z=some (.lst [V.int 0]):=z0b
     generalize upd H1 z (.lst [V.int 0])=H2 at*
     refine⟨_,rfl,z,_,_,rfl,rfl,e0,by lia,by lia,z0l (by rw[q0S];show 1*m≤_;lia),fun z1 hz1=>?_⟩
     rw[q0S,z9Z]
     have g1:=z0e hz1 (.lst ((List.replicate m (0:Int)).map V.int))
     have e1:upd H2 z1 (.lst ((List.replicate m (0:Int)).map V.int)) z1=some (.lst ((List.replicate m (0:Int)).map V.int)):=z0b
     generalize upd H2 z1 (.lst ((List.replicate m (0:Int)).map V.int))=H3 at*
     refine⟨_,rfl,_,rfl,R,_,_,_,rfl,rfl,SqL.of ((g0.trans g1) _ _ e),z1s (by lia) (by lia),_,_,rfl,rfl,cm,_,_,rfl,rfl,z0l (by show 1≤_;decide),fun z2 hz2=>?_⟩
     dsimp only
     have lw:(rs.getD (m:Int).toNat 0%3 - 1).natAbs ≤3:=by lia
     generalize rs.getD (m:Int).toNat 0%3 - 1=lst at*
     have g2:=z0e hz2 (.lst [V.int lst])
     have e2:upd H3 z2 (.lst [V.int lst]) z2=some (.lst [V.int lst]):=z0b
     generalize upd H3 z2 (.lst [V.int lst])=H4 at*
     refine⟨z1,z2,_,_,rfl,rfl,g2 _ _ e1,e2,z0l (by rw[q0a,List.length_replicate];show m+1≤_;lia),fun R2 hR2=>?_⟩
     have g14:Same H H4:=g.trans (g0.trans (g1.trans g2))
     refine hN' _ _ ⟨R2,List.replicate m 0++[lst],rfl,g14.free hR2,by rw[z0b,q0p];rfl,by simp,fun n hn=>?_,g14.trans (z0e hR2 _)⟩
     rcases q0D.mp hn with hn|hn
     ·rw[(List.mem_replicate.mp hn).2];decide
     ·rw[q0i.mp hn];exact lw
    rintro σ H2 ⟨R2,rs2,rfl,hR2,e2,el2,eb2,g2⟩
    refine z0p (fun σ H'=>∃(rs2:List Int),σ=[some (.ref a),some (.int (m:Nat)),some (.int (k:Nat)),some (.int way),some (.ref R2),s5,some (.int (at_:Nat))]∧H' R2=some (.lst (rs2.map V.int))∧rs2.length=m+1∧(∀n∈rs2,n.natAbs≤3)∧Same H H') (fun N' hN'=>?_) ?_
    ·refine⟨_,rfl,_,rfl,R2,_,_,at_,rfl,rfl,e2,z2m (by rw[q0a];lia),?_⟩
     obtain⟨_,rs3,_,_,e,_,h1,h2,h3,h4⟩:=z7K (a:=a) (k:=k) (way:=way) (j:=at_) (z:=1) (s5:=none) (s6:=none) hR2 el2 eb2 g2 (by decide)
     injection e with _ e;injection e with _ e;injection e with _ e;injection e with _ e;injection e with e _;injection e with e;injection e with e;subst e
     exact hN' _ _ ⟨rs3,rfl,h1,h2,h3,h4⟩
    rintro σ H3 ⟨rs3,rfl,e3,el3,eb3,g3⟩
    have dn:=y2b db (16+5*(k:Int)).toNat
    refine⟨_,rfl,_,rfl,_,rfl,_,_,rfl,rfl,_,rfl,_,rfl,_,_,rfl,rfl,z2y (zs _ (by lia) (by lia)) (zs _ (by lia) (by lia)),_,_,rfl,rfl,a,_,_,_,rfl,rfl,SqL.of (g3 _ _ ha),z1s (by lia) (by lia),_,_,rfl,rfl,cf,_,rfl,_,_,rfl,rfl,_,_,rfl,rfl,(show (0:Int)<(m:Int) - 1 by lia),_,_,rfl,rfl,_,rfl,_,_,rfl,rfl,(show (0:Int)<(m:Int) by lia),?_⟩
    dsimp only
    obtain⟨j,ej,hj⟩:∃j:Nat,((at_:Int)+1+ds.getD (16+5*(k:Int)).toNat 0/7%((m:Int) - 1))%(m:Int)=(j:Nat)∧j<m:=by
     have h0:=Int.emod_nonneg ((at_:Int)+1+ds.getD (16+5*(k:Int)).toNat 0/7%((m:Int) - 1)) (show (m:Int)≠0 by lia)
     have h1:=Int.emod_lt_of_pos ((at_:Int)+1+ds.getD (16+5*(k:Int)).toNat 0/7%((m:Int) - 1)) (show (0:Int)<(m:Int) by lia)
     exact⟨_,(Int.toNat_of_nonneg h0).symm,by lia⟩
    rw[ej]
    refine⟨R2,_,_,j,rfl,rfl,e3,z2m (by rw[q0a];lia),?_⟩
    exact hN _ _ (z7K hR2 el3 eb3 g3 (by decide))
   ·exact hN _ _ ⟨R,rs,_,_,rfl,hR,e,el,eb,g⟩
  ·exact z3t (hN _ _ ⟨R,rs,_,_,rfl,hR,e,el,eb,g⟩)
 clear e el eb g hR
 rintro σ H1 ⟨R,rs,s5,s6,rfl,hR,e,el,eb,g⟩
 refine z0p (RowJ H a m k way) (fun N hN=>?_) ?_
 ·refine⟨_,rfl,rfl,_,rfl,?_⟩
  refine z3f (fun c=>?_) (fun c=>?_)
  ·have lw:=z6e eb (m:Int).toNat
   have dk:=y2b db (k:Int).toNat
   refine z0p (fun σ H'=>∃(rs2:List Int),σ=[some (.ref a),some (.int (m:Nat)),some (.int (k:Nat)),some (.int way),some (.ref R),s5,s6]∧H' R=some (.lst (rs2.map V.int))∧rs2.length=m+1∧(rs2.getD 0 0).natAbs ≤3∧RB m rs2∧Same H H') (fun N' hN'=>?_) ?_
   ·refine⟨_,rfl,_,rfl,R,_,_,_,rfl,rfl,SqL.of e,z1s (by lia) (by lia),_,_,rfl,rfl,z2y (m:=64) (n:=64) (zs _ (by lia) (by lia)) (by decide),_,rfl,_,rfl,a,_,_,_,rfl,rfl,SqL.of (g _ _ ha),z1s (by lia) (by lia),_,_,rfl,rfl,?_⟩
    refine⟨_,rfl,_,rfl,R,_,_,m,rfl,rfl,e,z2m (by rw[q0a];lia),?_⟩
    dsimp only
    generalize rs.getD (m:Int).toNat 0=x at*
    generalize ds.getD (k:Int).toNat 0=y at*
    refine hN' _ _ ⟨rs.set m (x*1000000000000000000+y),rfl,by rw[z0b,List.map_set],by rw[q1K];exact el,?_,(RB.of eb).last (by lia),fun c o e'=>by rw[z0i (z0g e' hR)];exact g _ _ e'⟩
    ·have h0:=z6e eb 0
     rw[q0b] at h0 ⊢
     rw[q1E (by lia)]
     exact h0
   rintro σ H2 ⟨rs2,rfl,e2,el2,eb0,eb2,g2⟩
   have h0:(rs2.getD (0:Int).toNat 0).natAbs ≤3:=eb0
   refine⟨_,rfl,R,_,_,_,rfl,rfl,SqL.of e2,z1s (by decide) (by lia),_,_,rfl,rfl,z2y (m:=64) (n:=64) (zs _ (by lia) (by lia)) (by decide),_,_,rfl,rfl,_,rfl,R,_,_,0,rfl,rfl,e2,z2m (k:=0) (by rw[q0a];lia),?_⟩
   exact hN _ _ ⟨R,_,_,_,rfl,hR,by rw[z0b,←List.map_set],by rw[q1K];exact el2,eb2.set (by show (rs2.getD (0:Int).toNat 0*1000000000+1).natAbs ≤_;lia),fun c o e'=>by rw[z0i (z0g e' hR)];exact g2 _ _ e'⟩
  ·exact hN _ _ ⟨R,rs,_,_,rfl,hR,e,el,RB.of eb,g⟩
 clear e el eb g hR
 rintro σ H1 ⟨R,rs,s5,s6,rfl,hR,e,el,eb,g⟩
 refine z0p (RowJ H a m k way) (fun N hN=>?_) ?_
 ·refine⟨_,rfl,rfl,_,rfl,?_⟩
  refine z3f (fun c=>?_) (fun c=>?_)
  ·refine⟨_,rfl,R,rfl,⟨_,SqL.of e⟩,fun D hD=>?_⟩
   refine z0V rfl (z0B K R (rs.map V.int)) hD (fun _=>true) (fun v=>match v with| .int n=> .int (n%3 - 1)|u=>u) (fun H' g'=>SqL.of (g' _ _ e)) (z0l (by rw[q0a];lia)) ?_ ?_ ?_
   ·intro x _ Hc _ S h
    exact h
   ·intro x hx _ Hc _ S h
    obtain⟨n,_,rfl⟩:=q0f.mp hx
    exact⟨_,rfl,_,_,rfl,rfl,cm,_,_,rfl,rfl,h⟩
   ·rw[z0z,q0x]
    have em:rs.map ((fun v=>match v with| .int n=>V.int (n%3 - 1)|u=>u)∘V.int)=(rs.map fun n=>n%3 - 1).map V.int:=by rw[q0x];rfl
    rw[em]
    refine hN _ _ ⟨D,rs.map fun n=>n%3 - 1,_,_,rfl,g.free hD,z0b,by rw[q0a];exact el,RB.of fun n hn=>?_,g.trans (z0e hD _)⟩
    obtain⟨y,_,rfl⟩:=q0f.mp hn
    lia
  ·exact hN _ _ ⟨R,rs,_,_,rfl,hR,e,el,eb,g⟩
 clear e el eb g hR
 rintro σ H1 ⟨R,rs,s5,s6,rfl,hR,e,el,eb,g⟩
 refine z0p (fun σ H'=>∃(R:Addr) (rs:List Int) (s5 s6:Option V),σ=[some (.ref a),some (.int (m:Nat)),some (.int (k:Nat)),some (.int way),some (.ref R),s5,s6]∧H' R=some (.lst (rs.map V.int))∧rs.length=m+1∧RB m rs∧(∃j,j<m∧v rs j≠0)∧Same H H') (fun N hN=>?_) ?_
 ·refine⟨_,rfl,_,rfl,_,rfl,R,_,rfl,SqL.of e,fun p1 hp1=>?_⟩
  rw[z9n (by lia) (by rw[q0a];lia),q0S,←List.map_take]
  have g1:=z0e hp1 (.lst ((rs.take m).map V.int))
  have e1:upd H1 p1 (.lst ((rs.take m).map V.int)) p1=some (.lst ((rs.take m).map V.int)):=z0b
  generalize upd H1 p1 (.lst ((rs.take m).map V.int))=H2 at*
  refine⟨p1,rfl,⟨_,SqL.of e1⟩,fun D hD=>?_⟩
  refine z0V rfl (z0B K p1 ((rs.take m).map V.int)) hD (fun v=>match v with| .int n=> !decide (V.int n=V.int 0)|_=>false) (fun v=>v) (fun H' g'=>SqL.of (g' _ _ e1)) (z0l (by rw[q0a,q0q];lia)) ?_ ?_ ?_
  ·intro x hx Hc gc S h
   obtain⟨n,_,rfl⟩:=q0f.mp hx
   exact⟨_,rfl,rfl,_,rfl,h⟩
  ·intro x hx _ Hc gc S h
   exact⟨_,rfl,h⟩
  have em:(((rs.take m).map V.int).filter fun v=>match v with| .int n=> !decide (V.int n=V.int 0)|_=>false).map (fun v=>v)=((rs.take m).filter (· != 0)).map V.int:=by
   rw[List.map_id',List.filter_map]
   congr 1
   refine List.filter_congr fun n _=>?_
   show (!decide (V.int n=V.int 0))=(n != 0)
   by_cases h:n=0
   ·subst h;rfl
   ·rw[decide_eq_false (fun z=>h (by injection z))]
    simpa using h
  rw[em]
  have g2:=z0e hD (.lst (((rs.take m).filter (· != 0)).map V.int))
  have e2:upd H2 D (.lst (((rs.take m).filter (· != 0)).map V.int)) D=some (.lst (((rs.take m).filter (· != 0)).map V.int)):=z0b
  generalize upd H2 D (.lst (((rs.take m).filter (· != 0)).map V.int))=H3 at*
  refine⟨q0K _,fun z hz=>?_⟩
  have g3:=z0e hz (.lst [])
  have e3:upd H3 z (.lst []) z=some (.lst (([]:List Int).map V.int)):=z0b
  generalize upd H3 z (.lst [])=H4 at*
  refine⟨D,z,_,_,rfl,rfl,y6F (g3 _ _ e2),y6F e3,z2Y 8 _ _,_,rfl,?_⟩
  have g14:=g1.trans (g2.trans g3)
  have eR:=g14 _ _ e
  refine z3f (fun c=>?_) (fun c=>?_)
  ·refine⟨_,rfl,_,rfl,_,_,rfl,rfl,R,_,_,m - 1,rfl,rfl,eR,?_,?_⟩
   ·rw[show (m:Int) - 1=((m - 1:Nat):Int) by lia]
    exact z2m (by rw[q0a];lia)
   refine hN _ _ ⟨R,rs.set (m - 1) 1,_,_,rfl,by rw[z0b,List.map_set],by rw[q1K];exact el,eb.set (by decide),⟨m - 1,by lia,?_⟩,fun c o e'=>by rw[z0i (z0g e' hR)];exact (g.trans g14) _ _ e'⟩
   ·show (rs.set (m - 1) 1).getD (m - 1) 0≠0
    rw[q0b,q1L (by lia)]
    decide
  ·refine hN _ _ ⟨R,rs,_,_,rfl,eR,el,eb,?_,g.trans g14⟩
   have hne:(rs.take m).filter (· != 0)≠[]:=fun z=>c (by rw[z];rfl)
   obtain⟨n,hn⟩:=List.exists_mem_of_ne_nil _ hne
   obtain⟨h1,h2⟩:=q1a.mp hn
   obtain⟨j,hj⟩:=q1R.mp h1
   have hjm:j<m:=by
        have:=(q0y.mp hj).1
        rw[q0q] at this;lia
   rw[q1B hjm] at hj
   refine⟨j,hjm,?_⟩
   show rs.getD j 0≠0
   rw[q0b,hj]
   simpa using h2
 clear e el eb g hR
 rintro σ H1 ⟨R,rs,s5,s6,rfl,e,el,eb,⟨j,hj,hn⟩,g⟩
 have nz:∃n∈rs,n≠0:=by
  have h':rs.getD j 0≠0:=hn
  rw[q0b,q0c (by lia)] at h'
  exact⟨rs[j]'(by lia),q0w _,h'⟩
 have bb:∀n∈rs,intBits n≤64:=fun n hn=>z9A (q0m (eb.1 n hn) (by decide))
 exact⟨_,rfl,R,rs,rfl,.inl (SqL.of e),by lia,fun n hn=>q0m (bb n hn) (by decide),nz,fun t H2 g2 et=>q t rs _ (g.trans g2) et el ⟨j,hj,hn⟩ ⟨bb,fun j hj=>intBits_le_of_natAbs (y:=4000000000) (eb.2 j hj) (by decide)⟩⟩
end
end L2
namespace L2
open PySem PySem.Spec PyProof.Rows
section
open Fr Wl Rk
open Builtin.Int (intBits)
variable {P:Program}{w:World}{K:PySem.W.Frag}{mg:Str→Option Value}{base:Heap}{f:Addr}{fd:FuncData}
theorem y3y {z:Int} (h0:0≤z) (h1:z<8):∃m:Nat,atI [V.int 2,V.int 3,V.int 2,V.int 1,V.int 3,V.int 2,V.int 0,V.int 4] z=some (.int (m:Nat))∧m≤4:=by
 rcases (by lia:z=0∨z=1∨z=2∨z=3∨z=4∨z=5∨z=6∨z=7) with rfl|rfl|rfl|rfl|rfl|rfl|rfl|rfl
 ·exact⟨2,rfl,by decide⟩
 ·exact⟨3,rfl,by decide⟩
 ·exact⟨2,rfl,by decide⟩
 ·exact⟨1,rfl,by decide⟩
 ·exact⟨3,rfl,by decide⟩
 ·exact⟨2,rfl,by decide⟩
 ·exact⟨0,rfl,by decide⟩
 ·exact⟨4,rfl,by decide⟩
def wlD (m:Nat) (t:List Int):Prop:=∃rs:List Int,t=z0m rs∧rs.length=m+1∧(∃j,j<m∧v rs j≠0)∧(∀n∈rs,intBits n≤64)∧∀j,j<m→intBits (v rs j)≤32
abbrev z3j:Stmt:=top 52
theorem sc_l_fences:z0r ["_law_draws_here","_law_most","_law_ways","_law_many","_law_way","_law_found","_law_k","_law_one"] ["_law_draws_here","_law_most"] (z0j z3j):=⟨rfl,rfl,rfl,by decide+kernel,rfl,by decide+kernel,by decide+kernel⟩
def z8A (K:PySem.W.Frag):Sp:=fun vs H Q _=>∃(a:Addr) (ds:List Int) (most:Nat),vs=[.ref a,.int (most:Nat)]∧H a=some (.lst (ds.map V.int))∧ds.length=60∧(∀d∈ds,0≤d∧d<2147483587)∧most≤6∧
 ∀(tp l:Addr) (as:List Addr) (ts:List (List Int)) (m:Nat) (H':Hp),H l=none→Same H H'→H' tp=some (.tup [V.int (m:Nat),V.ref l])→H' l=some (.lst (as.map V.ref))→TsA H' as ts→m≤4→ts.length≤most→(m=4→ts.length≤5)→(m=0→ts=[])→ts.Nodup→(∀t∈ts,wlD m t)→Q (.ref tp) H'
theorem z7Q (T:Txt mg) (F:Fun K "_law_fences" "_law_fences" z3j f fd) (c_l_row:Cal P w K mg base 3 "_law_row" ["_law_draws_here","_law_ways","_law_k","_law_way"] (y5T K)):FnOk P w K mg base CX0 4 f fd ["_law_draws_here","_law_most"] (z8A K):=by
 refine F.ok sc_l_fences (fun vs H Q E h=>?_) (fun cdv A outer s H vs Q E hr h=>?_)
 ·obtain⟨_,_,_,rfl,_⟩:=h;rfl
 obtain⟨a,ds,most,rfl,ha,dl,db,m6,q⟩:=h
 refine⟨_,(z0c (z0n (i:=2) sc_l_fences.nd rfl (Or.inl rfl) (z0T (z0x (K:=K) rfl) (z0U (z0a z0f (z0a z0f (z0a z0f (z0a z0f (z0a z0f (z0a z0f (z0a z0f (z0a z0f z0d))))))))) (z0s z0O (z0T (z0x (K:=K) rfl) (pv 0) z0f (fun _ _=>rfl)) z0f) (fun _ _=>rfl)))
  (z0c (z0n (i:=3) sc_l_fences.nd rfl (Or.inl rfl) (z0s z0O (z0T (z0x (K:=K) rfl) (pv 0) z0f (fun _ _=>rfl)) (z0s z1r (pv 1) z0f)))
  (z0c (z0S (z0v z3q (pv 2) z0f (z0D _)) (z0h (z0n (i:=3) sc_l_fences.nd rfl (Or.inl rfl) z0f)) z0y)
  (z0c (z0S (z0v z3q (pv 2) z0f (z0D _)) (z0h (z0n (i:=3) sc_l_fences.nd rfl (Or.inl rfl) (z0s z0O (pv 3) z0f))) z0y)
  (z0c (z0n (i:=4) sc_l_fences.nd rfl (Or.inl rfl) (z0s z0O (z0T (z0x (K:=K) rfl) (pv 0) z0f (fun _ _=>rfl)) z0f))
  (z0c (z0n (i:=5) sc_l_fences.nd rfl (Or.inl rfl) (z0U z0d))
  (z0c (z1f PassesOwn.never rfl (z1N rfl T.range (z0a (pv 3) z0d)) (z0k (i:=6) sc_l_fences.nd rfl (Or.inl rfl)) (z0c (z0n (i:=7) sc_l_fences.nd rfl (Or.inl rfl) (z0q c_l_row hr rfl (z0a (pv 0) (z0a (pv 2) (z0a (pv 6) (z0a (pv 4) z0d))))))
  (z0h (z0S (z0v (z5e (K:=K) rfl hr.units) (pv 7) (pv 5) (by with_unfolding_all rfl)) (z0h (z1E (z6K PySem.F.plainAttrs_list PySem.F.slot_list_append PySem.F.type_list_append z1n (pv 5) (z0a (pv 7) z0d)))) z0y))))
  (z0h (z0t (z2e (z0a (pv 2) (z0a (pv 5) z0d)))))))))))),?_⟩
 refine z0p (fun σ H'=>∃m:Nat,σ=[some (.ref a),some (.int (most:Nat)),some (.int (m:Nat)),none,none,none,none,none]∧m≤4∧Same H H') (fun N hN=>?_) ?_
 ·refine⟨z0l (by show 8≤_;decide),fun z hz=>?_⟩
  have g1:=z0e hz (.lst [V.int 2,V.int 3,V.int 2,V.int 1,V.int 3,V.int 2,V.int 0,V.int 4])
  obtain⟨m,hm,m4⟩:=y3y (z:=ds.getD (0:Int).toNat 0%8) (by lia) (by lia)
  exact⟨_,rfl,a,_,_,_,rfl,rfl,SqL.of (g1 _ _ ha),z1s (by decide) (by lia),_,_,rfl,rfl,cm,z,_,_,_,rfl,rfl,SqL.of z0b,hm,hN _ _ ⟨m,rfl,m4,g1⟩⟩
 rintro σ H1 ⟨m,rfl,m4,g⟩
 refine z0p (fun σ H'=>∃n:Nat,σ=[some (.ref a),some (.int (most:Nat)),some (.int (m:Nat)),some (.int (n:Nat)),none,none,none,none]∧n≤most∧H1=H') (fun N hN=>?_) ?_
 ·refine⟨_,rfl,a,_,_,_,rfl,rfl,SqL.of (g _ _ ha),z1s (by decide) (by lia),_,rfl,_,_,rfl,rfl,_,_,rfl,rfl,(show (0:Int)<(most:Int)+1 by lia),?_⟩
  have h0:=Int.emod_nonneg (ds.getD (1:Int).toNat 0) (show (most:Int)+1≠0 by lia)
  have h1:=Int.emod_lt_of_pos (ds.getD (1:Int).toNat 0) (show (0:Int)<(most:Int)+1 by lia)
  exact hN _ _ ⟨(ds.getD (1:Int).toNat 0%((most:Int)+1)).toNat,by rw[Int.toNat_of_nonneg h0];rfl,by lia,rfl⟩
 rintro σ H2 ⟨n,rfl,nm,rfl⟩
 refine z0p (fun σ H'=>∃n:Nat,σ=[some (.ref a),some (.int (most:Nat)),some (.int (m:Nat)),some (.int (n:Nat)),none,none,none,none]∧n≤most∧(m=0→n=0)∧H1=H') (fun N hN=>?_) ?_
 ·refine⟨_,rfl,rfl,_,rfl,?_⟩
  refine z3f (fun c=>?_) (fun c=>?_)
  ·exact hN _ _ ⟨0,rfl,by lia,fun _=>rfl,rfl⟩
  ·exact hN _ _ ⟨n,rfl,nm,fun z=>absurd (decide_eq_true (by rw[z];rfl)) c,rfl⟩
 clear nm n
 rintro σ H2 ⟨n,rfl,nm,n0,rfl⟩
 refine z0p (fun σ H'=>∃n:Nat,σ=[some (.ref a),some (.int (most:Nat)),some (.int (m:Nat)),some (.int (n:Nat)),none,none,none,none]∧n≤most∧(m=0→n=0)∧(m=4→n≤5)∧H1=H') (fun N hN=>?_) ?_
 ·refine⟨_,rfl,rfl,_,rfl,?_⟩
  refine z3f (fun c=>?_) (fun c=>?_)
  ·refine⟨_,rfl,_,_,rfl,rfl,cm,?_⟩
   refine hN _ _ ⟨n%6,?_,q0m (Nat.mod_le _ _) nm,fun z=>by rw[n0 z],fun _=>by lia,rfl⟩
   show [_,_,_,some (V.int ((n:Int)%6)),_,_,_,_]=_
   rw[show (n:Int)%6=((n%6:Nat):Int) by lia]
  ·exact hN _ _ ⟨n,rfl,nm,n0,fun z=>absurd (decide_eq_true (by rw[z];rfl)) c,rfl⟩
 clear nm n0 n
 rintro σ H2 ⟨n,rfl,nm,n0,n5,rfl⟩
 refine z0p (fun σ H'=>∃wy:Int,σ=[some (.ref a),some (.int (most:Nat)),some (.int (m:Nat)),some (.int (n:Nat)),some (.int wy),none,none,none]∧H1=H') (fun N hN=>?_) ?_
 ·exact⟨_,rfl,a,_,_,_,rfl,rfl,SqL.of (g _ _ ha),z1s (by decide) (by lia),_,_,rfl,rfl,cm,hN _ _ ⟨_,rfl,rfl⟩⟩
 rintro σ H2 ⟨wy,rfl,rfl⟩
 refine z0p (fun σ H'=>∃l:Addr,σ=[some (.ref a),some (.int (most:Nat)),some (.int (m:Nat)),some (.int (n:Nat)),some (.int wy),some (.ref l),none,none]∧H l=none∧H' l=some (.lst (([]:List Addr).map V.ref))∧Same H H') (fun N hN=>?_) ?_
 ·exact⟨q0K _,fun l hl=>hN _ _ ⟨l,rfl,g.free hl,z0b,g.trans (z0e hl _)⟩⟩
 clear g
 rintro σ H2 ⟨l,rfl,hl,e0,g0⟩
 refine z0p (fun σ H'=>∃(as:List Addr) (ts:List (List Int)) (s6 s7:Option V),σ=[some (.ref a),some (.int (most:Nat)),some (.int (m:Nat)),some (.int (n:Nat)),some (.int wy),some (.ref l),s6,s7]∧H' l=some (.lst (as.map V.ref))∧TsA H' as ts∧ts.length≤n∧ts.Nodup∧(∀t∈ts,wlD m t)∧Same H H') (fun N hN=>?_) ?_
 ·refine⟨_,rfl,_,rfl,by lia,by lia,?_⟩
  rw[q0S]
  refine z0I (z2s 0 n) (fun i σ H'=>∃(as:List Addr) (ts:List (List Int)) (s6 s7:Option V),σ=[some (.ref a),some (.int (most:Nat)),some (.int (m:Nat)),some (.int (n:Nat)),some (.int wy),some (.ref l),s6,s7]∧H' l=some (.lst (as.map V.ref))∧TsA H' as ts∧ts.length≤i∧ts.Nodup∧(∀t∈ts,wlD m t)∧Same H H') ⟨[],[],_,_,rfl,e0,TsA.nil,q0k _,List.nodup_nil,by simp,g0⟩ (fun _ _ _ _ _=>trivial) ?_ ?_
  ·clear e0
   rintro i x σ H3 H4 hi ⟨as,ts,s6,s7,rfl,hl1,hts,hlen,hnd,hp,g⟩ ⟨rfl,rfl⟩
   have m1:1≤m:=Nat.pos_of_ne_zero fun z=>by have:=n0 z;lia
   refine⟨_,rfl,_,rfl,_,rfl,_,rfl,a,ds,m,i,wy,?_,g _ _ ha,dl,db,m1,m4,by lia,fun t rs H5 g5 ht rl rj rb=>?_⟩
   ·show [V.ref a,V.int (m:Nat),V.int (0+(i:Int)),V.int wy]=_
    rw[Int.zero_add]
   have hl5:=g5 _ _ hl1
   have hts5:=hts.same g5
   refine⟨_,rfl,_,rfl,l,_,_,_,rfl,.inl (SqL.of hl5),hts5.isDs,z4K ht,z9J,_,rfl,?_⟩
   rw[y5y]
   refine z3f (fun c2=>?_) (fun c2=>?_)
   ·have c2':z0m rs∉ts:=by simpa using c2
    refine⟨_,rfl,.inl ⟨rfl,_,SqL.of hl5⟩,_,rfl,l,_,_,rfl,rfl,hl5,z1Z (by rw[q0a,hts.1];lia),?_⟩
    have gl:∀b o,b≠l→H5 b=some o→upd H5 l (.lst (as.map V.ref++[.ref t])) b=some o:=fun b o hb e=>by rw[z0i hb];exact e
    refine⟨as++[t],ts++[z0m rs],_,_,rfl,by rw[z0b];simp,?_,by simp;lia,?_,?_,fun b o e=>gl b o (z0g e hl) (g5 _ _ (g _ _ e))⟩
    ·have z:=hts5.snoc ht
     refine⟨z.1,fun i a t' e1 e2=>?_⟩
     have:=z.2 i a t' e1 e2
     exact gl _ _ (fun z=>by rw[z,hl5] at this;cases this) this
    ·exact q1w.mpr ⟨hnd,by simp,fun x hx y hy e=>by rw[q0i.mp hy] at e;exact c2' (e▸hx)⟩
    ·intro u hu
     rcases q0D.mp hu with hu|hu
     ·exact hp u hu
     ·rw[q0i.mp hu];exact⟨rs,rfl,rl,rj,rb⟩
   ·exact⟨as,ts,_,_,rfl,hl5,hts5,by lia,hnd,hp,g.trans g5⟩
  ·rintro σ H3 ⟨as,ts,s6,s7,rfl,hl1,hts,hlen,hnd,hp,g⟩
   exact hN _ _ ⟨as,ts,_,_,rfl,hl1,hts,hlen,hnd,hp,g⟩
 rintro σ H3 ⟨as,ts,s6,s7,rfl,hl1,hts,hlen,hnd,hp,g⟩
 refine⟨_,rfl,_,rfl,by show 2≤sizeLine;decide,fun tp htp=>?_⟩
 have g2:=z0e htp (.tup [V.int (m:Nat),V.ref l])
 exact q tp l as ts m _ hl (g.trans g2) z0b (g2 _ _ hl1) (hts.same g2) m4 (by lia) (fun z=>by have:=n5 z;lia) (fun z=>q1b.mp (by have:=n0 z;lia)) hnd hp
end
end L2
namespace L2
open PySem PySem.Spec PyProof.Rows
section
open Fr Wl Rk
open Builtin.Int (intBits)
variable {P:Program}{w:World}{K:PySem.W.Frag}{mg:Str→Option Value}{base:Heap}{f:Addr}{fd:FuncData}
abbrev z1U:Stmt:=top 15
theorem z4H:z0r ["row"] ["row"] (z0j z1U):=⟨rfl,rfl,rfl,by decide+kernel,rfl,by decide+kernel,by decide+kernel⟩
def z2j (K:PySem.W.Frag):Sp:=fun vs H Q _=>∃(p:Addr) (r:List Int),vs=[.ref p]∧SqA K H p (r.map V.int)∧r.length≤1000∧(∃n∈r,n≠0)∧∀H',Same H H'→Q (.int (fp r:Nat)) H'
theorem z4J (T:Txt mg) (F:Fun K "first_place" "first_place" z1U f fd):FnOk P w K mg base CX0 1 f fd ["row"] (z2j K):=by
 refine F.ok z4H (fun vs H Q E h=>?_) (fun cdv A outer s H vs Q E hr h=>?_)
 ·obtain⟨_,_,rfl,_⟩:=h;rfl
 obtain⟨p,r,rfl,hS,hlen,hnz,q⟩:=h
 obtain⟨b,hB⟩:=hS.toB
 refine⟨_,(z0h (z0t (z0T (z0x (K:=K) rfl) (z0G (Nc:=["place","number"]) (fr:=[none,none]) rfl (z5J (K:=K) rfl rfl T.enumerate (z0a (pv 0) z0d)) rfl (by decide) rfl (by decide) rfl trivial trivial (fun _ _ _ _=>(z1c (K:=K) rfl 2 rfl (z0u (z0k (i:=0) (show List.Nodup (["place","number"]:List Str) from by decide) rfl (Or.inl rfl)) (z0u (z0k (i:=1) (show List.Nodup (["place","number"]:List Str) from by decide) rfl (Or.inl rfl)) z0Y)))) (fun _ _ _ _=>(z2J (z0v z6N (pv 1) z0f (z0D _)))) (fun _ _ _ _=>(pv 0))) z0f (fun _ _=>rfl)))),?_⟩
 refine⟨_,rfl,p,b,_,rfl,hB,fun D hD=>?_⟩
 refine z1R rfl (z3m K b p (r.map V.int)) hD (fun c=>match c.2 with| .int n=> !decide (V.int n=V.int 0)|_=>false) Prod.fst ?_ (fun H' g'=>hB.same g') (z0l (by unfold z3v;rw[List.length_mapIdx,List.length_map];lia)) ?_ ?_ ?_
 ·intro p u v σ H hp S h
  exact⟨p,_,rfl,SqT.of hp,rfl,_,_,rfl,_,_,rfl,rfl,h⟩
 ·intro c hc Hc gc S h
  obtain⟨i,n,rfl⟩:∃(i n:Int),c=(.int i,.int n):=by
   unfold z3v at hc
   obtain⟨i,hi,rfl⟩:=List.mem_mapIdx.mp hc
   exact⟨(i:Int),r[i]'(by simpa using hi),by rw[q1C]⟩
  exact⟨_,rfl,rfl,_,rfl,h⟩
 ·intro c hc _ Hc gc S h
  exact⟨_,rfl,h⟩
 ·intro H' g' hD'
  have e:=z5k r 0 hnz
  refine⟨D,_,_,_,rfl,rfl,SqL.of hD',z3y (j:=0) e,?_⟩
  exact q _ g'
theorem z2p {α β γ:Type} (f:α→β→γ):∀(xs:List α) (ys:List β),List.zipWith f xs ys=(xs.zip ys).map fun c=>f c.1 c.2
 |[],_=>by simp
 |_::_,[]=>by simp
 |x::xs,y::ys=>by rw[List.zipWith_cons_cons,z2p f xs ys];rfl
theorem z5f {H:Hp}{a:Addr}{xs:List V}{j:Int}{u:V}{Q:VK} (h:SqA K H a xs) (e:atI xs j=some u) (q:Q u H):rIxA K (.ref a) (.int j) H Q:=by
 rcases h with h|h
 ·exact .inl ⟨a,xs,_,u,rfl,rfl,h,e,q⟩
 ·exact .inr ⟨a,xs,_,u,rfl,rfl,h,e,q⟩
theorem y4q {xs:List Int}{j:Nat} (h:j<xs.length):atI (xs.map V.int) (j:Int)=some (.int (v xs j)):=by
 refine z3y ?_
 rw[q0g,q0c h]
 show _=some (V.int (xs.getD j 0))
 rw[q0b,q0c h];rfl
theorem z0N {xs:List Int}{k:Nat} (h:∀n∈xs,intBits n≤k) (j:Nat):intBits (v xs j)≤k:=by
 show intBits (xs.getD j 0)≤k
 rw[q0b]
 cases e:xs[j]? with
 |none=>exact Nat.le_trans (show intBits 0≤0 by decide) (Nat.zero_le _)
 |some n=>exact h n (List.mem_of_getElem? e)
theorem z5n {xs rs:List Int}{bx br:Nat} (hl:xs.length=rs.length) (hnz:∃n∈rs,n≠0) (zx:∀n∈xs,intBits n≤bx) (zr:∀n∈rs,intBits n≤br):∀n∈z0o xs rs,intBits n≤bx+br+1:=fun n hn=>by
 have g0:=z9i (b:=v xs (fp rs)) (z1Q hnz)
 have ob:intBits (z4F xs rs)≤br:=intBits_le_of_natAbs (z2b (q1O ..) g0) (z0N zr _)
 have lb:intBits (z2h xs rs)≤bx:=intBits_le_of_natAbs (z2b (Int.gcd_dvd_right ..) g0) (z0N zx _)
 unfold z0o at hn
 rw[z2p] at hn
 obtain⟨c,hc,rfl⟩:=q0f.mp hn
 obtain⟨h1,h2⟩:=q1J (show (c.1,c.2)∈xs.zip rs from hc)
 exact q0m (intBits_sub_le (intBits_mul_le ob (zx _ h1)) (intBits_mul_le lb (zr _ h2))) (by lia)
abbrev z4i:Stmt:=top 16
theorem sc_cleared:z0r ["numbers","row","place","shared","own","less"] ["numbers","row"] (z0j z4i):=⟨rfl,rfl,rfl,by decide+kernel,rfl,by decide+kernel,by decide+kernel⟩
def z3Y (K:PySem.W.Frag):Sp:=fun vs H Q _=>∃(p o:Addr) (xs rs:List Int) (bx br:Nat),vs=[.ref p,.ref o]∧SqA K H p (xs.map V.int)∧SqA K H o (rs.map V.int)∧xs.length=rs.length∧rs.length≤1000∧(∀n∈xs,intBits n≤bx)∧(∀n∈rs,intBits n≤br)∧bx≤20000∧br≤9000∧(∃n∈rs,n≠0)∧
 ∀(l:Addr) (H':Hp),(∀n∈z0o xs rs,intBits n≤bx+br+1)→Same H H'→H' l=some (.lst ((z0o xs rs).map V.int))→Q (.ref l) H'
theorem z9S (T:Txt mg) (F:Fun K "cleared" "cleared" z4i f fd) (c_first_place:Cal P w K mg base 1 "first_place" ["row"] (z2j K)) (c_divisor:Cal P w K mg base 1 "divisor" ["one","other"] z1K):FnOk P w K mg base CX0 2 f fd ["numbers","row"] (z3Y K):=by
 refine F.ok sc_cleared (fun vs H Q E h=>?_) (fun cdv A outer s H vs Q E hr h=>?_)
 ·obtain⟨_,_,_,_,_,_,rfl,_⟩:=h;rfl
 obtain⟨p,o,xs,rs,bx,br,rfl,hX,hR,hl,hlen,zx,zr,hbx,hbr,hnz,q⟩:=h
 refine⟨_,(z0c (z0n (i:=2) sc_cleared.nd rfl (Or.inl rfl) (z0q c_first_place hr rfl (z0a (pv 1) z0d)))
  (z0c (z0n (i:=3) sc_cleared.nd rfl (Or.inl rfl) (z0q c_divisor hr rfl (z0a (z0T (z3s (K:=K) rfl) (pv 1) (pv 2) (fun _ _=>rfl)) (z0a (z0T (z3s (K:=K) rfl) (pv 0) (pv 2) (fun _ _=>rfl)) z0d))))
  (z0c (z0n (i:=4) sc_cleared.nd rfl (Or.inr rfl) (z0s z2X (z0T (z3s (K:=K) rfl) (pv 1) (pv 2) (fun _ _=>rfl)) (pv 3)))
  (z0c (z0n (i:=5) sc_cleared.nd rfl (Or.inr rfl) (z0s z2X (z0T (z3s (K:=K) rfl) (pv 0) (pv 2) (fun _ _=>rfl)) (pv 3)))
  (z0h (z0t (z0G (Nc:=["one","other","own","less"]) (fr:=[none,none,some 4,some 5]) rfl (z3p (K:=K) rfl rfl T.zip (z0a (pv 0) (z0a (pv 1) z0d))) rfl (by decide) rfl (by decide) rfl ⟨rfl,⟨rfl,trivial⟩⟩ ⟨⟨rfl,rfl,rfl,rfl⟩,⟨⟨rfl,rfl,rfl,rfl⟩,trivial⟩⟩ (fun _ _ _ _=>(z1c (K:=K) rfl 2 rfl (z0u (z0k (i:=0) (show List.Nodup (["one","other","own","less"]:List Str) from by decide) rfl (Or.inl rfl)) (z0u (z0k (i:=1) (show List.Nodup (["one","other","own","less"]:List Str) from by decide) rfl (Or.inl rfl)) z0Y)))) (fun _ _ _ _=>z0H) (fun _ _ _ _=>(z0s z1P (z0s z0Z (pv 2) (pv 0)) (z0s z0Z (pv 3) (pv 1))))))))))),?_⟩
 refine⟨_,rfl,o,rs,rfl,hR,hlen,hnz,fun H1 g1=>?_⟩
 have hX1:=hX.same g1
 have hR1:=hR.same g1
 have lt:fp rs<rs.length:=y2c hnz
 have ltx:fp rs<xs.length:=by lia
 have n0:=z1Q hnz
 have g0:=z9i (b:=v xs (fp rs)) n0
 have ob:intBits (z4F xs rs)≤br:=intBits_le_of_natAbs (z2b (q1O ..) g0) (z0N zr _)
 have lb:intBits (z2h xs rs)≤bx:=intBits_le_of_natAbs (z2b (Int.gcd_dvd_right ..) g0) (z0N zx _)
 have gb:intBits ((Int.gcd (v rs (fp rs)) (v xs (fp rs)):Nat):Int)≤9000:=by
  refine intBits_le_of_natAbs (y:=v rs (fp rs)) ?_ (q0m (z0N zr _) (by lia))
  rw[Int.natAbs_natCast]
  exact Nat.le_of_dvd (Int.natAbs_pos.mpr n0) (Int.natAbs_dvd_natAbs.mpr (q1O (a:=v rs (fp rs)) (b:=v xs (fp rs))))
 refine⟨_,rfl,_,rfl,z5f hR1 (y4q lt) ⟨_,rfl,_,rfl,z5f hX1 (y4q ltx) ⟨_,_,rfl,?_⟩⟩⟩
 refine⟨_,rfl,_,rfl,z5f hR1 (y4q lt) ⟨_,rfl,_,_,rfl,rfl,⟨g0,gb⟩,?_⟩⟩
 refine⟨_,rfl,_,rfl,z5f hX1 (y4q ltx) ⟨_,rfl,_,_,rfl,rfl,⟨g0,gb⟩,?_⟩⟩
 obtain⟨b1,hB1⟩:=hX1.toB
 obtain⟨b2,hB2⟩:=hR1.toB
 refine⟨_,rfl,_,rfl,p,o,b1,b2,_,_,rfl,hB1,hB2,fun D hD=>?_⟩
 refine z1R rfl (z1L K b1 b2 p o (xs.map V.int) (rs.map V.int)) hD (fun _=>true) (fun c=>match c with|(.int m,.int n)=> .int (z4F xs rs*m - z2h xs rs*n)|_=> .non) ?_ (fun H' g'=>⟨hB1.same g',hB2.same g'⟩) (z0l (by rw[q0I,q0a,q0a];lia)) ?_ ?_ ?_
 ·intro p u v σ H hp S h
  exact⟨p,_,rfl,SqT.of hp,rfl,_,_,rfl,_,_,rfl,rfl,h⟩
 ·intro c hc Hc gc S h
  exact h
 ·intro c hc _ Hc gc S h
  obtain⟨m,n,rfl,hm,hn⟩:∃(m n:Int),c=(.int m,.int n)∧m∈xs∧n∈rs:=by
   obtain⟨c1,c2⟩:=c
   obtain⟨h1,h2⟩:=q1J hc
   obtain⟨m,hm,rfl⟩:=q0f.mp h1
   obtain⟨n,hn,rfl⟩:=q0f.mp h2
   exact⟨m,n,rfl,hm,hn⟩
  exact⟨_,rfl,_,rfl,_,_,rfl,rfl,z2y (q0m ob (by omega)) (q0m (zx m hm) (by omega)),_,rfl,_,rfl,_,_,rfl,rfl,z2y (q0m lb (by omega)) (q0m (zr n hn) (by omega)),_,_,rfl,rfl,h⟩
 ·intro H' g' hD'
  rw[z0z] at hD'
  have em:((xs.map V.int).zip (rs.map V.int)).map (fun c=>match c with|(.int m,.int n)=>V.int (z4F xs rs*m - z2h xs rs*n)|_=> .non)=(z0o xs rs).map V.int:=by
   unfold z0o
   rw[z2p,q0x,List.zip_map,q0x]
   rfl
  rw[em] at hD'
  refine q D _ (fun n hn=>?_) (g1.trans g') hD'
  unfold z0o at hn
  rw[z2p] at hn
  obtain⟨c,hc,rfl⟩:=q0f.mp hn
  obtain⟨h1,h2⟩:=q1J (show (c.1,c.2)∈xs.zip rs from hc)
  exact q0m (intBits_sub_le (intBits_mul_le ob (zx _ h1)) (intBits_mul_le lb (zr _ h2))) (by lia)
end
end L2
namespace L2
open PySem PySem.Spec PyProof.Rows
section
open Fr Wl Rk
open Builtin.Int (intBits)
variable {P:Program}{w:World}{K:PySem.W.Frag}{mg:Str→Option Value}{base:Heap}{f:Addr}{fd:FuncData}
def QsA (K:PySem.W.Frag) (H:Hp) (as:List Addr) (ts:List (List Int)):Prop:=as.length=ts.length∧∀(i:Nat) (a:Addr) (t:List Int),as[i]? =some a→ts[i]? =some t→SqA K H a (t.map V.int)
abbrev z4c:Stmt:=top 17
theorem sc_rest_by:z0r ["rows","numbers","rest","row"] ["rows","numbers"] (z0j z4c):=⟨rfl,rfl,rfl,by decide+kernel,rfl,by decide+kernel,by decide+kernel⟩
def z7v (K:PySem.W.Frag):Sp:=fun vs H Q _=>∃(l p:Addr) (b:Bool) (as:List Addr) (ts:List (List Int)) (xs:List Int) (bx br:Nat),vs=[.ref l,.ref p]∧SqB b K H l (as.map V.ref)∧QsA K H as ts∧SqA K H p (xs.map V.int)∧xs.length≤1000∧ts.length≤8∧(∀t∈ts,t.length=xs.length∧(∃n∈t,n≠0)∧∀n∈t,intBits n≤br)∧(∀n∈xs,intBits n≤bx)∧br≤9000∧(∀i,i<ts.length→bx+i*(br+1)≤20000)∧
 ∀(r:Addr) (H':Hp),(∀n∈ts.foldl z0o xs,intBits n≤bx+ts.length*(br+1))→(ts.foldl z0o xs).length =xs.length→Same H H'→H' r=some (.lst ((ts.foldl z0o xs).map V.int))→Q (.ref r) H'
theorem z9M (T:Txt mg) (F:Fun K "rest_by" "rest_by" z4c f fd) (c_cleared:Cal P w K mg base 2 "cleared" ["numbers","row"] (z3Y K)):FnOk P w K mg base CX0 3 f fd ["rows","numbers"] (z7v K):=by
 refine F.ok sc_rest_by (fun vs H Q E h=>?_) (fun cdv A outer s H vs Q E hr h=>?_)
 ·obtain⟨_,_,_,_,_,_,_,_,rfl,_⟩:=h;rfl
 obtain⟨l,p,b,as,ts,xs,bx,br,rfl,hl,hts,hX,hlen,h8,zt,zx,hbr,hb,q⟩:=h
 refine⟨_,(z0c (z0n (i:=2) sc_rest_by.nd rfl (Or.inl rfl) (z0J (z1S (K:=K) rfl) rfl T.list boot_list (z0a (pv 1) z0d)))
  (z0c (z1f PassesOwn.never rfl (z2W (K:=K) rfl (pv 0)) (z0k (i:=3) sc_rest_by.nd rfl (Or.inl rfl)) (z0h (z0n (i:=2) sc_rest_by.nd rfl (Or.inl rfl) (z0q c_cleared hr rfl (z0a (pv 2) (z0a (pv 3) z0d))))))
  (z0h (z0t (pv 2))))),?_⟩
 refine⟨_,rfl,p,_,rfl,hX,fun r0 hr0=>?_⟩
 have g0:=z0e hr0 (.lst (xs.map V.int))
 have e0:upd H r0 (.lst (xs.map V.int)) r0=some (.lst (xs.map V.int)):=z0b
 generalize upd H r0 (.lst (xs.map V.int))=H0 at*
 have hl0:=hl.same g0
 refine⟨_,rfl,l,b,_,rfl,hl0,?_⟩
 refine z0I (z1V K b l (as.map V.ref)) (fun i σ H'=>∃(r:Addr) (s3:Option V),σ=[some (.ref l),some (.ref p),some (.ref r),s3]∧H' r=some (.lst (((ts.take i).foldl z0o xs).map V.int))∧(∀n∈(ts.take i).foldl z0o xs,intBits n≤bx+i*(br+1))∧((ts.take i).foldl z0o xs).length =xs.length∧Same H H')
  ⟨r0,_,rfl,e0,fun n hn=>q0m (zx n hn) (by lia),rfl,g0⟩ (fun i σ H' _ h=>by obtain⟨_,_,_,_,_,_,g⟩:=h;exact hl.same g) ?_ ?_
 ·rintro i x σ H1 H2 hi ⟨r,s3,rfl,er,zb,el,g⟩ ⟨rfl,hx⟩
  rw[q0a,hts.1] at hi
  rw[q0g] at hx
  obtain⟨a,ha,rfl⟩:=q0r.mp hx
  have et:ts[i]? =some ts[i]:=q0c hi
  have htm:ts[i]∈ts:=q0w hi
  generalize ts[i]=t at et htm
  obtain⟨t1,t2,t3⟩:=zt t htm
  have tk:(ts.take (i+1)).foldl z0o xs=z0o ((ts.take i).foldl z0o xs) t:=by
   rw[q0E,et,List.foldl_append];rfl
  have hm:=hb i hi
  have hm2:(i+1)*(br+1)=i*(br+1)+(br+1):=Nat.succ_mul _ _
  refine⟨_,rfl,_,rfl,r,a,(ts.take i).foldl z0o xs,t,bx+i*(br+1),br,rfl,.inl (SqL.of er),(hts.2 i a t ha et).same g,by rw[el,t1],by lia,zb,t3,hm,hbr,t2,fun r2 H3 zb3 g3 e3=>?_⟩
  refine⟨r2,_,rfl,?_,?_,?_,g.trans g3⟩
  ·rw[tk];exact e3
  ·intro n hn
   rw[tk] at hn
   exact q0m (zb3 n hn) (by lia)
  ·rw[tk,z1b (by rw[el,t1]),el]
 ·rintro σ H1 ⟨r,s3,rfl,er,zb,el,g⟩
  rw[q0a,hts.1,q0P] at er zb el
  exact⟨_,rfl,q r _ zb el g er⟩
def y3M (K:PySem.W.Frag):Sp:=fun vs H Q _=>∃(l p:Addr) (b:Bool) (as:List Addr) (ts:List (List Int)) (xs:List Int) (bx br:Nat),vs=[.ref l,.ref p]∧SqB b K H l (as.map V.ref)∧TsA H as ts∧SqA K H p (xs.map V.int)∧xs.length≤1000∧ts.length≤8∧(∀t∈ts,t.length=xs.length∧(∃n∈t,n≠0)∧∀n∈t,intBits n≤br)∧(∀n∈xs,intBits n≤bx)∧br≤9000∧(∀i,i<ts.length→bx+i*(br+1)≤20000)∧
 ∀(r:Addr) (H':Hp),(∀n∈ts.foldl z0o xs,intBits n≤bx+ts.length*(br+1))→(ts.foldl z0o xs).length =xs.length→Same H H'→H' r=some (.lst ((ts.foldl z0o xs).map V.int))→Q (.ref r) H'
theorem y6a {vs:List V}{H:Hp}{Q:VK}{E:XK} (h:y3M K vs H Q E):z7v K vs H Q E:=
 let ⟨l,p,b,as,ts,xs,bx,br,e,hl,hts,r⟩:=h;⟨l,p,b,as,ts,xs,bx,br,e,hl,⟨hts.1,fun i a t e1 e2=> .inr (SqT.of (hts.2 i a t e1 e2))⟩,r⟩
end
section
open Fr Wl Rk Pt
open Builtin.Int (intBits)
variable {P:Program}{w:World}{K:PySem.W.Frag}{mg:Str→Option Value}{base:Heap}{f:Addr}{fd:FuncData}
theorem y1S (k:Nat):∀F:List Nat,inV (V.int (k:Nat)) (F.map fun p=>V.int (p:Nat))=decide (k∈F)
 |[]=>rfl
 |p::F=>by
  have ih:=y1S k F
  show ((((p:Nat):Int)==((k:Nat):Int)) || inV (V.int (k:Nat)) (F.map fun p=>V.int (p:Nat)))=_
  rw[ih,q1v,Bool.or_eq_true,beq_iff_eq,decide_eq_true_iff,decide_eq_true_iff,q0t]
  constructor
  ·rintro (h|h)
   ·exact .inl (by lia)
   ·exact .inr h
  ·rintro (h|h)
   ·exact .inl (by lia)
   ·exact .inr h
theorem z7d (F:List Nat):∀(ys:List Int) (k:Nat),((((ys.map V.int).mapIdx fun i x=>(V.int ((i+k:Nat):Int),x)).filter fun c=> !inV c.1 (F.map fun p=>V.int (p:Nat))).map Prod.snd)=(((List.range ys.length).filter fun j=>decide (j+k∉F)).map (v ys)).map V.int
 |[],k=>rfl
 |y::ys,k=>by
  have e:((y::ys).map V.int).mapIdx (fun i x=>(V.int ((i+k:Nat):Int),x))=(V.int ((k:Nat):Int),V.int y)::(ys.map V.int).mapIdx fun i x=>(V.int ((i+(k+1):Nat):Int),x):=by
   rw[q0L,List.mapIdx_cons]
   congr 1
   ·rw[Nat.zero_add]
   ·congr 1
    funext i y
    rw[show i+1+k=i+(k+1) by lia]
  have ih:=z7d F ys (k+1)
  have e2:((List.range (y::ys).length).filter fun j=>decide (j+k∉F))=(if k∈F then [] else [0])++((List.range ys.length).filter fun j=>decide (j+(k+1)∉F)).map (· +1):=by
   rw[q0u,List.range_succ_eq_map,q1N,List.filter_map]
   have e3:(List.range ys.length).filter ((fun j=>decide (j+k∉F))∘Nat.succ)=(List.range ys.length).filter fun j=>decide (j+(k+1)∉F):=List.filter_congr fun j _=>by
        show decide (j+1+k∉F)=_
        rw[show j+1+k=j+(k+1) by lia]
   rw[e3,Nat.zero_add]
   by_cases h:k∈F
   ·rw[if_pos h,if_neg (by simp[h])];rfl
   ·rw[if_neg h,if_pos (by simp[h])];rfl
  rw[e,q1N,e2,q0p,q0x]
  show List.map Prod.snd (if (!inV (V.int ((k:Nat):Int)) (F.map fun p=>V.int (p:Nat)))=true then _ else _)=_
  rw[y1S]
  have e4:((List.range ys.length).filter fun j=>decide (j+(k+1)∉F)).map (v (y::ys)∘(· +1))=((List.range ys.length).filter fun j=>decide (j+(k+1)∉F)).map (v ys):=rfl
  rw[e4,q0p,←ih]
  by_cases h:k∈F
  ·rw[if_pos h,decide_eq_true h];rfl
  ·rw[if_neg h,decide_eq_false h];rfl
abbrev z7J:Stmt:=top 18
theorem sc_drawn:z0r ["rows","numbers","left_out"] ["rows","numbers"] (z0j z7J):=⟨rfl,rfl,rfl,by decide+kernel,rfl,by decide+kernel,by decide+kernel⟩
open Fc in
def z3G (K:PySem.W.Frag):Sp:=fun vs H Q _=>∃(l p:Addr) (as:List Addr) (us:List (List Int)) (u:List Int) (m bx br:Nat),vs=[.ref l,.ref p]∧H l=some (.lst (as.map V.ref))∧QsA K H as us∧SqA K H p (u.map V.int)∧u.length=m+1∧m≤100∧us.length≤8∧(∀t∈us,t.length=m+1∧(∃n∈t,n≠0)∧∀n∈t,intBits n≤br)∧(∀n∈u,intBits n≤bx)∧br≤9000∧(∀i,i<us.length→bx+i*(br+1)≤20000)∧
 ∀(r:Addr) (H':Hp),H r=none→(∀n∈drL m us u,intBits n≤bx+us.length*(br+1))→Same H H'→H' r=some (.lst ((drL m us u).map V.int))→Q (.ref r) H'
open Fc in
theorem y3n (T:Txt mg) (F:Fun K "drawn" "drawn" z7J f fd) (c_first_place:Cal P w K mg base 3 "first_place" ["row"] (z2j K)) (c_rest_by:Cal P w K mg base 3 "rest_by" ["rows","numbers"] (z7v K)):FnOk P w K mg base CX0 4 f fd ["rows","numbers"] (z3G K):=by
 refine F.ok sc_drawn (fun vs H Q E h=>?_) (fun cdv A outer s H vs Q E hr h=>?_)
 ·obtain⟨_,_,_,_,_,_,_,_,rfl,_⟩:=h;rfl
 obtain⟨l,p,as,us,u,m,bx,br,rfl,hl,has,hX,hul,m100,u8,hu,zu,br9,hb,q⟩:=h
 refine⟨_,(z0c (z0n (i:=2) sc_drawn.nd rfl (Or.inr rfl) (z0G (Nc:=["row"]) (fr:=[none]) rfl (z0E (K:=K) rfl (pv 0)) rfl (by decide) rfl (by decide) rfl trivial trivial (fun _ _ _ _=>(z0k (i:=0) (show List.Nodup (["row"]:List Str) from by decide) rfl (Or.inl rfl))) (fun _ _ _ _=>z0H) (fun _ _ _ _=>(z0q c_first_place hr rfl (z0a (pv 0) z0d)))))
  (z0h (z0t (z0G (Nc:=["place","number","left_out"]) (fr:=[none,none,some 2]) rfl (z5J (K:=K) rfl rfl T.enumerate (z0a (z0q c_rest_by hr rfl (z0a (pv 0) (z0a (pv 1) z0d))) z0d)) rfl (by decide) rfl (by decide) rfl ⟨rfl,trivial⟩ ⟨⟨rfl,rfl,rfl,rfl⟩,trivial⟩ (fun _ _ _ _=>(z1c (K:=K) rfl 2 rfl (z0u (z0k (i:=0) (show List.Nodup (["place","number","left_out"]:List Str) from by decide) rfl (Or.inl rfl)) (z0u (z0k (i:=1) (show List.Nodup (["place","number","left_out"]:List Str) from by decide) rfl (Or.inl rfl)) z0Y)))) (fun _ _ _ _=>(z2J (z0v (y1i (K:=K) rfl) (pv 0) (pv 2) (by with_unfolding_all rfl)))) (fun _ _ _ _=>(pv 1)))))),?_⟩
 have al:as.length=us.length:=has.1
 refine⟨_,rfl,l,rfl,⟨_,SqL.of hl⟩,fun D hD=>?_⟩
 refine z0X (as.zip us) (by rw[q0a,q0I];lia) (z0B K l (as.map V.ref)) hD (fun d σ=>σ.set 0 (some (.ref d.1))) (fun d e σ=>q1Q ..) (fun _=>true) (fun _ d u=>u=V.int (fp d.2:Nat)) (fun _ _ _ _ _ _ h=>h) (fun H' g'=>SqL.of (g' _ _ hl)) (z0l (by rw[q0a];lia)) ?_ ?_ ?_ ?_
 ·intro i x d hx hd σ H1 g1 S h
  rw[q0g] at hx
  obtain⟨a,ha,rfl⟩:=q0r.mp hx
  obtain⟨h1,h2⟩:=q0G.mp hd
  rw[ha] at h1
  cases h1
  exact h
 ·intro d hd Hc gc S h
  exact h _ (Same.refl _)
 ·intro d hd _ Hc gc _ S h
  obtain⟨i,hi,rfl⟩:=q0C.mp hd
  rw[q0I] at hi
  have ia:i<as.length:=by lia
  have iu:i<us.length:=by lia
  rw[q2g] at h ⊢
  have ht:=hu us[i] (q0w _)
  exact⟨_,rfl,as[i],us[i],rfl,(has.2 i _ _ (q0c ia) (q0c iu)).same gc,by lia,ht.2.1,fun H' g'=>h _ _ g' rfl⟩
 intro xs H1 g1 hD1 he
 rw[z0z] at he
 have exs:xs=(us.map fp).map fun p=>V.int (p:Nat):=by
  have h1:∀{ds:List (Addr×List Int)}{xs:List V},Each (fun d u=>u=V.int (fp d.2:Nat)) ds xs→xs=ds.map fun d=>V.int (fp d.2:Nat):=fun h=>by
   induction h with
   |nil=>rfl
   |cons a _ ih=>rw[a,ih];rfl
  rw[h1 he,q0x]
  have h2:(as.zip us).map (fun d=>V.int (fp d.2:Nat))=((as.zip us).map Prod.snd).map fun t=>V.int (fp t:Nat):=by rw[q0x];rfl
  rw[h2,List.map_snd_zip (by lia)];rfl
 subst exs
 refine⟨_,rfl,_,rfl,l,p,true,as,us,u,bx,br,rfl,SqL.of (g1 _ _ hl),⟨has.1,fun i a t e1 e2=>(has.2 i a t e1 e2).same g1⟩,hX.same g1,by lia,u8,fun t ht=>⟨by rw[(hu t ht).1,hul],(hu t ht).2.1,(hu t ht).2.2⟩,zu,br9,hb,fun r H2 zb el g2 er=>?_⟩
 have hD2:=g2 _ _ hD1
 have yl:(us.foldl z0o u).length =m+1:=by rw[el,hul]
 refine⟨r,true,_,rfl,SqL.of er,fun D2 hD2'=>?_⟩
 refine z1R rfl (z3m K true r ((us.foldl z0o u).map V.int)) hD2' (fun c=> !inV c.1 ((us.map fp).map fun p=>V.int (p:Nat))) Prod.snd ?_ (fun H' g'=>SqL.of (g' _ _ er)) (z0l (by unfold z3v;rw[List.length_mapIdx,List.length_map,yl];lia)) ?_ ?_ ?_
 ·intro p u v σ H hp S h
  exact⟨p,_,rfl,SqT.of hp,rfl,_,_,rfl,_,_,rfl,rfl,h⟩
 ·intro c hc Hc gc S h
  have fl:z4L c.1=true:=by
   unfold z3v at hc
   obtain⟨i,hi,rfl⟩:=List.mem_mapIdx.mp hc
   rfl
  have fa:((us.map fp).map fun p=>V.int (p:Nat)).all z4L=true:=by
   rw[List.all_eq_true]
   intro x hx
   obtain⟨p,_,rfl⟩:=q0f.mp hx
   rfl
  exact⟨_,rfl,_,rfl,D,_,rfl,.inl (SqL.of (gc _ _ hD2)),fl,fa,_,rfl,h⟩
 ·intro c hc _ Hc gc S h
  exact⟨_,rfl,h⟩
 ·intro H' g' hD'
  have em:((z3v ((us.foldl z0o u).map V.int)).filter fun c=> !inV c.1 ((us.map fp).map fun p=>V.int (p:Nat))).map Prod.snd=(drL m us u).map V.int:=by
   have:=z7d (us.map fp) (us.foldl z0o u) 0
   rw[yl] at this
   exact this
  rw[em] at hD'
  refine q D2 _ ((g1.trans g2).free hD2') (fun n hn=>?_) (g1.trans (g2.trans g')) hD'
  unfold drL z3n at hn
  obtain⟨j,hj,rfl⟩:=q0f.mp hn
  exact z0N zb j
def z7x (K:PySem.W.Frag):Sp:=fun vs H Q _=>∃(l p a:Addr) (t u:List Int) (B:Nat),vs=[.ref l,.ref p]∧H l=some (.lst [V.ref a])∧H a=some (.lst (t.map V.int))∧SqA K H p (u.map V.int)∧u.length=t.length∧t.length≤100∧(∃n∈t,n≠0)∧(∀n∈t,intBits n≤B)∧(∀n∈u,intBits n≤B)∧B≤4000∧
 ∀(r:Addr) (H':Hp),H r=none→(∀n∈drR t u,intBits n≤2*B+1)→Same H H'→H' r=some (.lst ((drR t u).map V.int))→Q (.ref r) H'
open Fc in
theorem y6S {m:Nat}{t u:List Int} (ht:t.length=m+1) (hu:u.length=m+1) (hn:∃n∈t,n≠0):drL m [t] u=drR t u:=by
 have hp:fp t≤m:=by have:=y2c hn;lia
 have cl:(z0o u t).length =m+1:=by rw[z1b (by lia),hu]
 unfold drL z3n
 show (z0P (m+1) ([]++[fp t])).map (v (z0o u t))=_
 rw[z9c (fun g hg=>by cases hg) hp,q0x]
 unfold drR
 refine List.ext_getElem (by rw[List.length_map,List.length_eraseIdx,cl,if_pos (by lia)];unfold z0P;rw[List.filter_eq_self.mpr (fun _ _=>by simp),List.length_range];rfl) fun i h1 h2=>?_
 rw[q1C]
 have e:((z0o u t).eraseIdx (fp t))[i]=v ((z0o u t).eraseIdx (fp t)) i:=by
  show _=((z0o u t).eraseIdx (fp t)).getD i 0
  rw[q0b,q0c h2];rfl
 rw[e,z3T]
 have kr:z0P m []=List.range m:=by unfold z0P;exact List.filter_eq_self.mpr fun _ _=>by simp
 simp only[kr,List.getElem_range,Function.comp]
theorem y2n {vs:List V}{H:Hp}{Q:VK}{E:XK} (h:z7x K vs H Q E):z3G K vs H Q E:=by
 obtain⟨l,p,a,t,u,B,rfl,hl,ha,hX,hul,t100,tnz,zt,zu,b4,q⟩:=h
 have tp:0<t.length:=by obtain⟨n,hn,_⟩:=tnz;exact List.length_pos_of_mem hn
 obtain⟨m,hm⟩:∃m,t.length=m+1:=⟨t.length - 1,by lia⟩
 have e:=y6S (u:=u) hm (by lia) tnz
 refine⟨l,p,[a],[t],u,m,B,B,rfl,hl,⟨rfl,fun i x y e1 e2=>?_⟩,hX,by lia,by lia,by show 1≤8;decide,fun x hx=>?_,zu,by lia,fun i hi=>?_,fun r H' hr zb g er=>?_⟩
 ·cases i with
  |zero=>cases e1;cases e2;exact .inl (SqL.of ha)
  |succ i=>simp at e1
 ·rw[q0i.mp hx]
  exact⟨hm,tnz,zt⟩
 ·have:i=0:=by simp at hi;lia
  subst this
  lia
 ·rw[e] at zb er
  exact q r H' hr (fun n hn=>q0m (zb n hn) (by show B+1*(B+1)≤_;lia)) g er
end
end L2
namespace L2
open PySem PySem.Spec PyProof.Rows
section
open Fr Wl Rk Pt Ld
open Builtin.Int (intBits)
variable {P:Program}{w:World}{K:PySem.W.Frag}{mg:Str→Option Value}{base:Heap}{f:Addr}{fd:FuncData}
abbrev z5A:Stmt:=top 24
theorem sc_lowest:z0r ["numbers","shared"] ["numbers"] (z0j z5A):=⟨rfl,rfl,rfl,by decide+kernel,rfl,by decide+kernel,by decide+kernel⟩
def z5q (K:PySem.W.Frag):Sp:=fun vs H Q _=>∃(p:Addr) (rs:List Int),vs=[.ref p]∧H p=some (.lst (rs.map V.int))∧rs.length≤100∧(∃n∈rs,n≠0)∧(∀n∈rs,intBits n≤13000)∧
 ∀(r:Addr) (H':Hp),H r=none→Same H H'→H' r=some (.lst ((z3E rs).map V.int))→Q (.ref r) H'
theorem y1m (T:Txt mg) (F:Fun K "lowest" "lowest" z5A f fd) (c_divisor_of_all:Cal P w K mg base 2 "divisor_of_all" ["numbers"] (z5t K)):FnOk P w K mg base CX0 3 f fd ["numbers"] (z5q K):=by
 refine F.ok sc_lowest (fun vs H Q E h=>?_) (fun cdv A outer s H vs Q E hr h=>?_)
 ·obtain⟨_,_,rfl,_⟩:=h;rfl
 obtain⟨p,rs,rfl,hp,hl,hnz,hb,q⟩:=h
 refine⟨_,(z0c (z0n (i:=1) sc_lowest.nd rfl (Or.inr rfl) (z0q c_divisor_of_all hr rfl (z0a (pv 0) z0d)))
  (z0h (z0t (z0G (Nc:=["number","shared"]) (fr:=[none,some 1]) rfl (z0E (K:=K) rfl (pv 0)) rfl (by decide) rfl (by decide) rfl ⟨rfl,trivial⟩ ⟨⟨rfl,rfl,rfl,rfl⟩,trivial⟩ (fun _ _ _ _=>(z0k (i:=0) (show List.Nodup (["number","shared"]:List Str) from by decide) rfl (Or.inl rfl))) (fun _ _ _ _=>z0H) (fun _ _ _ _=>(z0s z3K (pv 0) (pv 1))))))),?_⟩
 refine⟨_,rfl,p,rs,rfl,.inl (SqL.of hp),by lia,?_⟩
 refine⟨_,rfl,p,rfl,⟨_,SqL.of hp⟩,fun D hD=>?_⟩
 have g0:((z1p rs:Nat):Int)≠0:=by have:=z2a hnz;lia
 refine z0V rfl (z0B K p (rs.map V.int)) hD (fun _=>true) (fun v=>match v with| .int n=> .int (n.fdiv (z1p rs:Int))|u=>u) (fun H' g'=>SqL.of (g' _ _ hp)) (z0l (by rw[q0a];lia)) ?_ ?_ ?_
 ·intro x hx Hc gc S h
  exact h
 ·intro x hx _ Hc gc S h
  obtain⟨n,hn,rfl⟩:=q0f.mp hx
  exact⟨_,rfl,_,rfl,_,_,rfl,rfl,⟨g0,hb n hn⟩,h⟩
 rw[z0z,q0x]
 refine q D _ hD (z0e hD _) ?_
 rw[z0b]
 unfold z3E
 rw[q0x]
 rfl
abbrev z5y:Stmt:=top 25
theorem y0I:z0r ["numbers","sign"] ["numbers","sign"] (z0j z5y):=⟨rfl,rfl,rfl,by decide+kernel,rfl,by decide+kernel,by decide+kernel⟩
def z2q (K:PySem.W.Frag):Sp:=fun vs H Q _=>∃(p:Addr) (rs:List Int) (sg:Int),vs=[.ref p,.int sg]∧SqA K H p (rs.map V.int)∧rs.length≤100∧(sg=1∨sg= -1)∧(∀n∈rs,intBits n≤13000)∧
 ∀(r:Addr) (H':Hp),H r=none→Same H H'→H' r=some (.lst ((z0F sg rs).map V.int))→Q (.ref r) H'
theorem y1k (T:Txt mg) (F:Fun K "turned" "turned" z5y f fd):FnOk P w K mg base CX0 1 f fd ["numbers","sign"] (z2q K):=by
 refine F.ok y0I (fun vs H Q E h=>?_) (fun cdv A outer s H vs Q E hr h=>?_)
 ·obtain⟨_,_,_,rfl,_⟩:=h;rfl
 obtain⟨p,rs,sg,rfl,hp,hl,hsg,hb,q⟩:=h
 obtain⟨b,hB⟩:=hp.toB
 refine⟨_,(z0h (z0t (z0G (Nc:=["number","sign"]) (fr:=[none,some 1]) rfl (z2W (K:=K) rfl (pv 0)) rfl (by decide) rfl (by decide) rfl ⟨rfl,trivial⟩ ⟨⟨rfl,rfl,rfl,rfl⟩,trivial⟩ (fun _ _ _ _=>(z0k (i:=0) (show List.Nodup (["number","sign"]:List Str) from by decide) rfl (Or.inl rfl))) (fun _ _ _ _=>z0H) (fun _ _ _ _=>(z0s z0Z (pv 1) (pv 0)))))),?_⟩
 refine⟨_,rfl,p,b,_,rfl,hB,fun D hD=>?_⟩
 have s1:intBits sg≤1:=by rcases hsg with rfl|rfl<;>decide
 refine z0V rfl (z1V K b p (rs.map V.int)) hD (fun _=>true) (fun v=>match v with| .int n=> .int (sg*n)|u=>u) (fun H' g'=>hB.same g') (z0l (by rw[q0a];lia)) ?_ ?_ ?_
 ·intro x hx Hc gc S h
  exact h
 ·intro x hx _ Hc gc S h
  obtain⟨n,hn,rfl⟩:=q0f.mp hx
  exact⟨_,rfl,_,rfl,_,_,rfl,rfl,z2y s1 (hb n hn),h⟩
 rw[z0z,q0x]
 refine q D _ hD (z0e hD _) ?_
 rw[z0b]
 unfold z0F
 rw[q0x]
 rfl
theorem y0m:∀(n:Nat) (a s:List Int),a.length=n→n≤s.length→(List.zipWith (fun x y=>x*y) a s).sum =Ld.sumTo n (fun j=>v a j*v s j)
 |0,a,s,h,_=>by
  rw[q1b.mp h];rfl
 |n+1,a,s,h,hs=>by
  obtain⟨a',x,rfl⟩:∃a' x,a=a'++[x]:=⟨a.dropLast,a.getLast (fun z=>by rw[z] at h;simp at h),(q0X _).symm⟩
  have hl:a'.length=n:=by rw[q0l] at h;simpa using h
  have es:s=s.take n++s.drop n:=(q1P _ _).symm
  have ed:s.drop n=s[n]'(by lia)::s.drop (n+1):=q1W (by lia)
  have evs:v s n=s[n]'(by lia):=by
   show s.getD n 0=_
   rw[q0b,q0c (by lia)];rfl
  have eva:v (a'++[x]) n=x:=by
   show (a'++[x]).getD n 0=_
   rw[q0b,q0R (by lia),hl,Nat.sub_self];rfl
  rw[Ld.sumTo,eva,evs]
  have e1:List.zipWith (fun x y=>x*y) (a'++[x]) s=List.zipWith (fun x y=>x*y) a' (s.take n)++[x*s[n]'(by lia)]:=by
   have e2:List.zipWith (fun x y=>x*y) (a'++[x]) (s.take n++s.drop n)=List.zipWith (fun x y=>x*y) a' (s.take n)++List.zipWith (fun x y=>x*y) [x] (s.drop n):=List.zipWith_append (by rw[q0q];lia)
   rw[q1P,ed] at e2
   rw[e2]
   rfl
  rw[e1,List.sum_append,y0m n a' (s.take n) hl (by rw[q0q];lia)]
  congr 1
  ·refine Ld.sumTo_congr n fun j hj=>?_
   have h1:v (a'++[x]) j=v a' j:=by
    show (a'++[x]).getD j 0=a'.getD j 0
    rw[q0b,q0b,q1e (by lia)]
   have h2:v (s.take n) j=v s j:=by
    show (s.take n).getD j 0=s.getD j 0
    rw[q0b,q0b,q1B hj]
   rw[h1,h2]
  ·simp
abbrev z5E:Stmt:=top 26
theorem y0J:z0r ["bound","spot"] ["bound","spot"] (z0j z5E):=⟨rfl,rfl,rfl,by decide+kernel,rfl,by decide+kernel,by decide+kernel⟩
def z2S (K:PySem.W.Frag):Sp:=fun vs H Q _=>∃(p q:Addr) (a s:List Int) (m:Nat),vs=[.ref p,.ref q]∧SqA K H p (a.map V.int)∧H q=some (.lst (s.map V.int))∧a.length=m+1∧s.length=m+1∧m≤50∧(∀n∈a,intBits n≤20000)∧(∀n∈s,intBits n≤20000)∧
 ∀H',Same H H'→Q (.int (hg m (v a) (v s))) H'
def z2T (K:PySem.W.Frag):Sp:=fun vs H Q _=>∃(p q:Addr) (a s:List Int) (m:Nat),vs=[.ref p,.ref q]∧H p=some (.lst (a.map V.int))∧H q=some (.lst (s.map V.int))∧a.length=m+1∧s.length=m+1∧m≤50∧(∀n∈a,intBits n≤20000)∧(∀n∈s,intBits n≤20000)∧
 ∀H',Same H H'→Q (.int (hg m (v a) (v s))) H'
theorem z3M {vs:List V}{H:Hp}{Q:VK}{E:XK} (h:z2T K vs H Q E):z2S K vs H Q E:=
 let ⟨p,q,a,s,m,e,hp,r⟩:=h;⟨p,q,a,s,m,e,.inl (SqL.of hp),r⟩
theorem y1p (T:Txt mg) (F:Fun K "height" "height" z5E f fd):FnOk P w K mg base CX0 1 f fd ["bound","spot"] (z2S K):=by
 refine F.ok y0J (fun vs H Q E h=>?_) (fun cdv A outer s H vs Q E hr h=>?_)
 ·obtain⟨_,_,_,_,_,rfl,_⟩:=h;rfl
 obtain⟨p,q',a,sp,m,rfl,hp,hq,al,sl,m50,ba,bs,q⟩:=h
 refine⟨_,(z0h (z0t (z0s z1P (z0A (y2y (K:=K) rfl rfl) rfl T.sum boot_sum (z0a (z0G (Nc:=["number","top"]) (fr:=[none,none]) rfl (z3p (K:=K) rfl rfl T.zip (z0a (z1l (z5w (K:=K) rfl) (pv 0) z1G (z1F (z1O z1d z0f))) (z0a (pv 1) z0d))) rfl (by decide) rfl (by decide) rfl trivial trivial (fun _ _ _ _=>(z1c (K:=K) rfl 2 rfl (z0u (z0k (i:=0) (show List.Nodup (["number","top"]:List Str) from by decide) rfl (Or.inl rfl)) (z0u (z0k (i:=1) (show List.Nodup (["number","top"]:List Str) from by decide) rfl (Or.inl rfl)) z0Y)))) (fun _ _ _ _=>z0H) (fun _ _ _ _=>(z0s z0Z (pv 0) (pv 1)))) z0d)) (z0s z0Z (z0T (z3s (K:=K) rfl) (pv 0) (z1O z1d z0f) (fun _ _=>rfl)) (z0T (z0x (K:=K) rfl) (pv 1) (z1O z1d z0f) (fun _ _=>rfl)))))),?_⟩
 obtain⟨a',x,ea⟩:∃a' x,a=a'++[x]:=⟨a.dropLast,a.getLast (fun z=>by rw[z] at al;simp at al),(q0X _).symm⟩
 obtain⟨s',y,es⟩:∃a' x,sp=a'++[x]:=⟨sp.dropLast,sp.getLast (fun z=>by rw[z] at sl;simp at sl),(q0X _).symm⟩
 have a'l:a'.length=m:=by rw[ea,q0l] at al;simpa using al
 have s'l:s'.length=m:=by rw[es,q0l] at sl;simpa using sl
 obtain⟨bb,hB⟩:=hp.toB
 have hp':SqA K H p (a'.map V.int++[V.int x]):=by rw[ea,q0p] at hp;exact hp
 have hq':H q'=some (.lst (s'.map V.int++[V.int y])):=by rw[hq,es,q0p];rfl
 have bx:intBits x≤20000:=ba x (by rw[ea];simp)
 have by':intBits y≤20000:=bs y (by rw[es];simp)
 refine⟨_,rfl,_,rfl,_,rfl,z5v (by rw[ea,q0p] at hB;exact hB) fun z H1 g1 hz1=>?_⟩
 obtain⟨bz,hBz⟩:=hz1.toB
 refine⟨_,rfl,z,q',bz,true,_,_,rfl,hBz,SqL.of (g1 _ _ hq),fun D hD=>?_⟩
 refine z1R rfl (z1L K bz true z q' (a'.map V.int) (sp.map V.int)) hD (fun _=>true) (fun c=>match c with|(.int m,.int n)=> .int (m*n)|_=> .non) ?_ (fun H' g'=>⟨hBz.same g',SqL.of (g' _ _ (g1 _ _ hq))⟩) (z0l (by rw[q0I,q0a,q0a];lia)) ?_ ?_ ?_
 ·intro p u v σ H hp S h
  exact⟨p,_,rfl,SqT.of hp,rfl,_,_,rfl,_,_,rfl,rfl,h⟩
 ·intro c hc Hc gc S h
  exact h
 ·intro c hc _ Hc gc S h
  obtain⟨c1,c2⟩:=c
  obtain⟨h1,h2⟩:=q1J hc
  obtain⟨m',hm,rfl⟩:=q0f.mp h1
  obtain⟨n',hn,rfl⟩:=q0f.mp h2
  exact⟨_,rfl,_,rfl,_,_,rfl,rfl,z2y (ba m' (by rw[ea];exact q0J _ hm)) (bs n' hn),h⟩
 ·intro H2 g2 hD2
  rw[z0z] at hD2
  have em:((a'.map V.int).zip (sp.map V.int)).map (fun c=>match c with|(.int m,.int n)=>V.int (m*n)|_=> .non)=(List.zipWith (fun a b=>a*b) a' sp).map V.int:=by
   rw[z2p,q0x,List.zip_map,q0x]
   rfl
  rw[em] at hD2
  have g02:=g1.trans g2
  refine⟨D,_,rfl,SqL.of hD2,?_⟩
  refine⟨_,rfl,_,rfl,z5f (hp'.same g02) (z2w _ _) ⟨_,rfl,_,rfl,q',_,_,_,rfl,rfl,SqL.of (g02 _ _ hq'),z2w _ _,_,_,rfl,rfl,z2y bx by',_,_,rfl,rfl,?_⟩⟩
  have ev:(List.zipWith (fun a b=>a*b) a' sp).sum - x*y=hg m (v a) (v sp):=by
   unfold hg
   rw[y0m m a' sp a'l (by lia)]
   have ex:v a m=x:=by
        show a.getD m 0=x
        rw[ea,q0b,q0R (by lia),a'l,Nat.sub_self];rfl
   have ey:v sp m=y:=by
        show sp.getD m 0=y
        rw[es,q0b,q0R (by lia),s'l,Nat.sub_self];rfl
   rw[ex,ey]
   congr 1
   refine Ld.sumTo_congr m fun j hj=>?_
   congr 1
   show a'.getD j 0=a.getD j 0
   rw[ea,q0b,q0b,q1e (by lia)]
  show Q (V.int ((List.zipWith (fun a b=>a*b) a' sp).sum - x*y)) H2
  rw[ev]
  exact q H2 g02
abbrev y0L:Stmt:=top 27
theorem y4O:z0r ["bound"] ["bound"] (z0j y0L):=⟨rfl,rfl,rfl,by decide+kernel,rfl,by decide+kernel,by decide+kernel⟩
def y0A (K:PySem.W.Frag):Sp:=fun vs H Q _=>∃(p:Addr) (b:List Int),vs=[.ref p]∧H p=some (.lst (b.map V.int))∧b.length≤100∧(∃n∈b,n≠0)∧∀H',Same H H'→Q (.int (ldL b)) H'
theorem y5h (T:Txt mg) (F:Fun K "lead" "lead" y0L f fd) (c_first_place:Cal P w K mg base 1 "first_place" ["row"] (z2j K)):FnOk P w K mg base CX0 2 f fd ["bound"] (y0A K):=by
 refine F.ok y4O (fun vs H Q E h=>?_) (fun cdv A outer s H vs Q E hr h=>?_)
 ·obtain⟨_,_,rfl,_⟩:=h;rfl
 obtain⟨p,b,rfl,hp,bl,hnz,q⟩:=h
 refine⟨_,(z0h (z0t (z3I (z0v z7N (z0T (z0x (K:=K) rfl) (pv 0) (z0q c_first_place hr rfl (z0a (pv 0) z0d)) (fun _ _=>rfl)) z0f (z0D _)) z0f (z1O z1d z0f)))),?_⟩
 have hlt:=y2c hnz
 refine⟨_,rfl,_,rfl,p,b,rfl,.inl (SqL.of hp),by lia,hnz,fun H' g'=>?_⟩
 refine⟨p,_,_,_,rfl,rfl,SqL.of (g' _ _ hp),y4q hlt,_,_,rfl,rfl,_,rfl,?_⟩
 refine z3f (fun c=>?_) (fun c=>?_)
 ·have c':0<v b (fp b):=of_decide_eq_true c
  have:ldL b=1:=by unfold ldL;rw[if_pos c']
  have:=q H' g'
  rw[‹ldL b=1›] at this
  exact this
 ·have c':¬0<v b (fp b):=fun z=>c (decide_eq_true z)
  have e:ldL b= -1:=by unfold ldL;rw[if_neg c']
  have:=q H' g'
  rw[e] at this
  exact⟨_,rfl,this⟩
end
end L2
namespace L2
open PySem PySem.Spec PyProof.Rows
section
open Fr Wl Rk Pt Ld
open Builtin.Int (intBits)
variable {P:Program}{w:World}{K:PySem.W.Frag}{mg:Str→Option Value}{base:Heap}{f:Addr}{fd:FuncData}
theorem z0w {n:Int}{a b:Nat} (h:intBits n≤a) (hab:a≤b):intBits n≤b:=q0m h hab
theorem z8u {B:Nat}{f:Nat→Int}:∀n,(∀j,j<n→intBits (f j)≤B)→intBits (Ld.sumTo n f)≤B+n
 |0,_=>Nat.le_trans (show intBits 0≤0 by decide) (Nat.zero_le _)
 |n+1,h=>by
  have h1:=z8u n fun j hj=>h j (by lia)
  have h2:=z0w (h n (by lia)) (show B≤B+n by lia)
  rw[Ld.sumTo]
  exact z0w (intBits_add_le h1 h2) (by lia)
theorem y1Y {m b c S:Nat}{a s:Nat→Int} (ha:∀j,j<m→intBits (a j)≤b) (hc:intBits (a m)≤c) (hs:∀j,j≤m→intBits (s j)≤S):intBits (hg m a s)≤max b c+S+m+1:=by
 unfold hg
 have h1:intBits (Ld.sumTo m fun j=>a j*s j)≤max b c+S+m:=z8u m fun j hj=>z0w (intBits_mul_le (ha j hj) (hs j (by lia))) (by lia)
 have h2:intBits (a m*s m)≤max b c+S+m:=z0w (intBits_mul_le hc (hs m (q0k _))) (by lia)
 exact z0w (intBits_sub_le h1 h2) (by lia)
structure Bd (m b c:Nat) (r:List Int):Prop where
 len:r.length=m+1
 way:∀j,j<m→intBits (v r j)≤b
 lst:intBits (v r m)≤c
theorem mem_at {r:List Int}{n:Int} (h:n∈r):∃j,j<r.length∧v r j=n:=by
 obtain⟨j,hj,e⟩:=q0C.mp h
 refine⟨j,hj,?_⟩
 show r.getD j 0=n
 rw[q0b,q0c hj,e];rfl
theorem Bd.all {m b c:Nat}{r:List Int} (h:Bd m b c r):∀n∈r,intBits n≤max b c:=fun n hn=>by
 obtain⟨j,hj,rfl⟩:=mem_at hn
 rw[h.len] at hj
 by_cases c':j<m
 ·exact z0w (h.way j c') (by lia)
 ·rw[show j=m by lia];exact z0w h.lst (by lia)
theorem z7A {sg n:Int} (h:sg=1∨sg= -1) {k:Nat} (hn:intBits n≤k):intBits (sg*n)≤k:=by
 refine intBits_le_of_natAbs (y:=n) ?_ hn
 rcases h with rfl|rfl<;>lia
theorem Bd.turn {m b c:Nat}{r:List Int} (h:Bd m b c r) {sg:Int} (hs:sg=1∨sg= -1):Bd m b c (z0F sg r):=
 ⟨by rw[z3F,h.len],fun j hj=>by rw[z2P];exact z7A hs (h.way j hj),by rw[z2P];exact z7A hs h.lst⟩
theorem Bd.draw {m b c:Nat}{t u:List Int} (ht:Bd (m+1) b c t) (hu:Bd (m+1) b c u) (hp:fp t≤m) (hn:∃n∈t,n≠0):Bd m (2*b+1) (b+c+1) (drR t u):=by
 have hl:u.length=t.length:=by rw[ht.len,hu.len]
 have g0:=z9i (b:=v u (fp t)) (z1Q hn)
 have ob:intBits (z4F u t)≤b:=intBits_le_of_natAbs (z2b (q1O ..) g0) (ht.way _ (by lia))
 have lb:intBits (z2h u t)≤b:=intBits_le_of_natAbs (z2b (Int.gcd_dvd_right ..) g0) (hu.way _ (by lia))
 have e:∀j,v (drR t u) j=z4F u t*v u (skp (fp t) j) - z2h u t*v t (skp (fp t) j):=fun j=>by
  unfold drR
  rw[z3T,z2o hl]
 refine⟨by have:=y5w hl hn;rw[ht.len] at this;lia,fun j hj=>?_,?_⟩
 ·have hs:skp (fp t) j<m+1:=by unfold skp;split<;>lia
  rw[e]
  exact z0w (intBits_sub_le (intBits_mul_le ob (hu.way _ hs)) (intBits_mul_le lb (ht.way _ hs))) (by lia)
 ·have hs:skp (fp t) m=m+1:=by unfold skp;rw[if_neg (by lia)]
  rw[e,hs]
  exact z0w (intBits_sub_le (intBits_mul_le ob hu.lst) (intBits_mul_le lb ht.lst)) (by lia)
theorem z5W {s:List Int}{k:Nat} (hn:∃n∈s,n≠0) (h:∀n∈s,intBits n≤k):∀n∈z3E s,intBits n≤k:=fun n hn'=>by
 unfold z3E at hn'
 obtain⟨x,hx,rfl⟩:=q0f.mp hn'
 exact intBits_le_of_natAbs (z2b ((z3O s 0).2 x hx) (by have:=z2a hn;lia)) (h x hx)
theorem z9e {pl k:Nat}{s:List Int} (h:∀n∈s,intBits n≤k):∀n∈z3c pl 0 s,intBits n≤k:=fun n hn=>by
 unfold z3c at hn
 rcases q0D.mp hn with hn|hn
 ·exact h n (q1D hn)
 ·rcases q0t.mp hn with rfl|hn
  ·exact q0m (show intBits 0≤0 by decide) (q0K _)
  ·exact h n (List.mem_of_mem_drop hn)
theorem y4F {m b c S:Nat}{t f:List Int} (ht:Bd (m+1) b c t) (hp:fp t≤m) (hf:f.length=m+1) (hb:∀n∈f,intBits n≤S):∀n∈upL (m+1) t f,intBits n≤max b c+S+m+3:=fun n hn=>by
 unfold upL at hn
 have hi:=z9e (pl:=fp t) hb
 rcases q1V hn with hn|rfl
 ·obtain⟨x,hx,rfl⟩:=q0f.mp hn
  exact z0w (intBits_mul_le (ht.way _ (by lia)) (hi x hx)) (by lia)
 ·have:=y1Y (s:=v (z3c (fp t) 0 f)) ht.way ht.lst (S:=S) fun j _=>z0N hi j
  exact z0w (intBits_sub_le (x:=0) (show intBits 0≤0 by decide) this) (by lia)
open Fc in
theorem z6Y {k:Nat}:∀(F:List Nat) (s:List Int),(∀n∈s,intBits n≤k)→∀n∈z5i s F,intBits n≤k
 |[],_,h=>h
 |p::F,s,h=>z6Y F (z3c p 0 s) (z9e h)
open Fc in
theorem y2O {m br S:Nat}{k t:List Int} (hl:t.length=m+1) (hk:k.length=m+1) (ht:∀n∈t,intBits n≤br) (hb:∀n∈k,intBits n≤S):∀n∈upS m k t,intBits n≤S+(br+m+3):=fun n hn=>by
 unfold upS at hn
 rcases q1V hn with hn|rfl
 ·obtain⟨x,hx,rfl⟩:=q0f.mp hn
  exact z0w (intBits_mul_le (z0N ht _) (hb x hx)) (by lia)
 ·have:=y1Y (m:=m) (b:=br) (c:=br) (a:=v t) (s:=v k) (S:=S) (fun j _=>z0N ht j) (z0N ht m) fun j _=>z0N hb j
  exact z0w (intBits_sub_le (x:=0) (show intBits 0≤0 by decide) this) (by lia)
abbrev z5B:Stmt:=top 28
theorem sc_lifted:z0r ["rows","spot","known","row","place","missing"] ["rows","spot"] (z0j z5B):=⟨rfl,rfl,rfl,by decide+kernel,rfl,by decide+kernel,by decide+kernel⟩
open Fc in
def z7w (K:PySem.W.Frag):Sp:=fun vs H Q _=>∃(l q:Addr) (as:List Addr) (us:List (List Int)) (s:List Int) (m br S:Nat),vs=[.ref l,.ref q]∧H l=some (.lst (as.map V.ref))∧QsA K H as us∧H q=some (.lst (s.map V.int))∧s.length+us.length=m+1∧(∀t∈us,t.length=m+1∧fp t<m∧∀n∈t,intBits n≤br)∧(us.map fp).Pairwise (· < ·)∧(∀n∈s,intBits n≤S)∧m≤6∧us.length≤6∧br≤9000∧S+us.length*(br+m+3)≤12900∧(∃n∈z1h m us s,n≠0)∧
 ∀(r:Addr) (H':Hp),H r=none→Same H H'→(∀n∈z1h m us s,intBits n≤S+us.length*(br+m+3))→H' r=some (.lst ((z3E (z1h m us s)).map V.int))→Q (.ref r) H'
open Fc in
theorem y1n (T:Txt mg) (F:Fun K "lifted" "lifted" z5B f fd) (c_first_place:Cal P w K mg base 3 "first_place" ["row"] (z2j K)) (c_height:Cal P w K mg base 3 "height" ["bound","spot"] (z2S K)) (c_lowest:Cal P w K mg base 3 "lowest" ["numbers"] (z5q K)):FnOk P w K mg base CX0 4 f fd ["rows","spot"] (z7w K):=by
 refine F.ok sc_lifted (fun vs H Q E h=>?_) (fun cdv A outer s H vs Q E hr h=>?_)
 ·obtain⟨_,_,_,_,_,_,_,_,rfl,_⟩:=h;rfl
 obtain⟨l,q',as,us,fs,m,br,S,rfl,hl,has,hq,hlen,hu,hup,hb,m6,u6,br9,hS,hnz,q⟩:=h
 refine⟨_,(z0c (z0n (i:=2) sc_lifted.nd rfl (Or.inl rfl) (z0J (z1S (K:=K) rfl) rfl T.list boot_list (z0a (pv 1) z0d)))
  (z0c (z1f PassesOwn.never rfl (z0E (K:=K) rfl (pv 0)) (z0k (i:=3) sc_lifted.nd rfl (Or.inr rfl)) (z0h (z1E (z6K PySem.F.plainAttrs_list PySem.F.slot_list_insert PySem.F.type_list_insert y1u (pv 2) (z0a (z0q c_first_place hr rfl (z0a (pv 3) z0d)) (z0a z0f z0d))))))
  (z0c (z1f PassesOwn.never rfl (z0E (K:=K) rfl (pv 0)) (z0k (i:=3) sc_lifted.nd rfl (Or.inr rfl)) (z0c (z0n (i:=4) sc_lifted.nd rfl (Or.inr rfl) (z0q c_first_place hr rfl (z0a (pv 3) z0d)))
  (z0c (z0n (i:=5) sc_lifted.nd rfl (Or.inl rfl) (z0s z1P z0f (z0q c_height hr rfl (z0a (pv 3) (z0a (pv 2) z0d)))))
  (z0c (z3o (jj:=2) rfl sc_lifted.nd rfl (Or.inl rfl) (Or.inl rfl) (Nc:=["number","row","place"]) (fr:=[none,some 3,some 4]) rfl (z0E (K:=K) rfl (pv 2)) rfl (by decide) rfl (by decide) rfl ⟨rfl,⟨rfl,trivial⟩⟩ ⟨⟨rfl,rfl,rfl,rfl⟩,⟨⟨rfl,rfl,rfl,rfl⟩,trivial⟩⟩ (fun _ _ _ _=>(z0k (i:=0) (show List.Nodup (["number","row","place"]:List Str) from by decide) rfl (Or.inl rfl))) (fun _ _ _ _=>z0H) (fun _ _ _ _=>(z0s z0Z (z0T (z3s (K:=K) rfl) (pv 1) (pv 2) (fun _ _=>rfl)) (pv 0))))
  (z0h (z2B (pv 5) (z3A (pv 2) (pv 4) z1A)))))))
  (z0h (z0t (z0q c_lowest hr rfl (z0a (pv 2) z0d))))))),?_⟩
 have al:as.length=us.length:=has.1
 have unz:∀t∈us,∃n∈t,n≠0:=fun t ht=>y1s (by have:=hu t ht;lia)
 refine z0p (fun σ H'=>∃r,H r=none∧σ=[some (.ref l),some (.ref q'),some (.ref r),none,none,none]∧Same H H'∧H' r=some (.lst (fs.map V.int))) (fun N hN=>?_) ?_
 ·exact⟨_,rfl,q',_,rfl,.inl (SqL.of hq),fun r hr=>hN _ _ ⟨r,hr,rfl,z0e hr _,z0b⟩⟩
 rintro σ H0 ⟨r,hr0,rfl,g0,e0⟩
 have insl:∀i,i≤us.length→(z5i fs ((us.take i).map fp)).length =fs.length+i∧∀t,us[i]? =some t→fp t≤fs.length+i:=fun i hi=>by
  have hup2:((us.take i).map fp).Pairwise (· < ·):=by rw[List.map_take];exact hup.sublist (List.take_sublist _ _)
  have fpl:∀(j:Nat) (t:List Int),us[j]? =some t→fp t≤fs.length+j:=fun j t e=>by
   have hj:=(q0y.mp e).1
   have key:∀d,j+d<us.length→fp t+d≤fp (us.getD (j+d) []):=fun d=>by
        induction d with
        |zero=>intro h;rw[Nat.add_zero,List.getD_eq_getElem?_getD,Nat.add_zero,e];exact Nat.le_refl _
        |succ d ih=>
         intro h
         have h1:=ih (by lia)
         have h2:=(List.pairwise_iff_getElem.mp hup) (j+d) (j+(d+1)) (by rw[q0a];lia) (by rw[q0a];lia) (by lia)
         rw[q1C,q1C] at h2
         rw[q0b,q0c (by lia)] at h1 ⊢
         have h1':fp t+d≤fp us[j+d]:=h1
         show fp t+(d+1)≤fp us[j+(d+1)]
         lia
   have:=key (us.length - 1 - j) (by lia)
   have hm:=(hu (us.getD (j+(us.length - 1 - j)) []) (by rw[q0b,q0c (by lia)];exact q0w _)).2.1
   lia
  refine⟨?_,fpl i⟩
  have:∀(F:List Nat) (k:List Int),(∀(j:Nat) (p:Nat),F[j]? =some p→p≤k.length+j)→(z5i k F).length =k.length+F.length:=by
   intro F
   induction F with
   |nil=>intro k _;rfl
   |cons p F ih=>
    intro k h
    have h0:=h 0 p rfl
    have hl1:(z3c p 0 k).length =k.length+1:=z8X (by lia)
    have:=ih (z3c p 0 k) fun j x e=>by have:=h (j+1) x e;lia
    rw[hl1] at this
    rw[q0u]
    show (z5i (z3c p 0 k) F).length =_
    lia
  rw[this _ _ fun j p e=>?_,q0a,q0q,Nat.min_eq_left hi]
  rw[q0g] at e
  obtain⟨t,ht,rfl⟩:=q0r.mp e
  have hji:j<i:=by have:=(q0y.mp ht).1;rw[q0q] at this;lia
  rw[q1B hji] at ht
  exact fpl j t ht
 refine z0p (fun σ H'=>∃s3,σ=[some (.ref l),some (.ref q'),some (.ref r),s3,none,none]∧Same H H'∧H' r=some (.lst ((z5i fs (us.map fp)).map V.int))) (fun N hN=>?_) ?_
 ·refine⟨_,rfl,l,rfl,⟨_,SqL.of (g0 _ _ hl)⟩,?_⟩
  refine z0I (z0B K l (as.map V.ref)) (fun i σ H'=>∃s3,σ=[some (.ref l),some (.ref q'),some (.ref r),s3,none,none]∧Same H H'∧H' r=some (.lst ((z5i fs ((us.take i).map fp)).map V.int))) ⟨_,rfl,g0,e0⟩ (fun i σ H' _ h=>by obtain⟨_,_,g,_⟩:=h;exact SqL.of (g _ _ hl)) ?_ ?_
  ·rintro i x σ H1 H2 hi ⟨s3,rfl,g,er⟩ ⟨rfl,hx⟩
   rw[q0a,al] at hi
   rw[q0g] at hx
   obtain⟨a,ha,rfl⟩:=q0r.mp hx
   have et:us[i]? =some us[i]:=q0c hi
   have htm:us[i]∈us:=q0w hi
   obtain⟨il,ifp⟩:=insl i (by lia)
   have hfp:=ifp _ et
   generalize us[i]=t at et htm hfp
   have htl:=(hu t htm).1
   refine⟨_,rfl,.inl ⟨rfl,_,SqL.of er⟩,_,rfl,a,t,rfl,(has.2 i a t ha et).same g,by lia,unz t htm,fun H3 g3=>?_⟩
   refine⟨r,_,_,_,rfl,rfl,g3 _ _ er,by lia,by rw[q0a,il];lia,z1Z (by rw[q0a,il];lia),?_⟩
   refine⟨_,rfl,fun b' o e=>by rw[z0i (z0g e hr0)];exact (g.trans g3) _ _ e,?_⟩
   rw[z0b,q0S]
   have tk:z5i fs ((us.take (i+1)).map fp)=z3c (fp t) 0 (z5i fs ((us.take i).map fp)):=by
        rw[q0E,et,q0p]
        unfold z5i
        rw[List.foldl_append];rfl
   rw[tk]
   generalize z5i fs ((us.take i).map fp)=k0
   unfold z3c
   rw[q0p,q0L,List.map_take,List.map_drop]
  ·rintro σ H1 ⟨s3,rfl,g,er⟩
   rw[q0a,al,q0P] at er
   exact hN _ _ ⟨_,rfl,g,er⟩
 obtain⟨il,_⟩:=insl us.length (q0k _)
 rw[q0P] at il
 have ib:=z6Y (us.map fp) fs hb
 clear g0 e0
 rintro σ H0 ⟨s3,rfl,g0,e0⟩
 refine z0p (fun σ H'=>∃r s3 s4 s5,H r=none∧σ=[some (.ref l),some (.ref q'),some (.ref r),s3,s4,s5]∧Same H H'∧H' r=some (.lst ((z1h m us fs).map V.int))∧∀n∈z1h m us fs,intBits n≤S+us.length*(br+m+3)) (fun N hN=>?_) ?_
 ·refine⟨_,rfl,l,rfl,⟨_,SqL.of (g0 _ _ hl)⟩,?_⟩
  refine z0I (z0B K l (as.map V.ref)) (fun i σ H'=>∃r s3 s4 s5 k,H r=none∧σ=[some (.ref l),some (.ref q'),some (.ref r),s3,s4,s5]∧Same H H'∧H' r=some (.lst (k.map V.int))∧k=(us.take i).foldl (upS m) (z5i fs (us.map fp))∧k.length=m+1∧∀n∈k,intBits n≤S+i*(br+m+3)) ⟨_,_,_,_,z5i fs (us.map fp),hr0,rfl,g0,e0,rfl,by lia,fun n hn=>z0w (ib n hn) (by lia)⟩ (fun i σ H' _ h=>by obtain⟨_,_,_,_,_,_,_,g,_⟩:=h;exact SqL.of (g _ _ hl)) ?_ ?_
  ·clear g0 e0 hr0
   rintro i x σ H1 H2 hi ⟨r,s3,s4,s5,k,hr0,rfl,g,er,ek,kl,kb⟩ ⟨rfl,hx⟩
   rw[q0a,al] at hi
   rw[q0g] at hx
   obtain⟨a,ha,rfl⟩:=q0r.mp hx
   have et:us[i]? =some us[i]:=q0c hi
   have htm:us[i]∈us:=q0w hi
   generalize us[i]=t at et htm
   obtain⟨tl,tfp,tb⟩:=hu t htm
   have tnz:=unz t htm
   have haA:=(has.2 i a t ha et).same g
   have hsz:(i+1)*(br+m+3)≤us.length*(br+m+3):=Nat.mul_le_mul_right _ hi
   have hs1:(i+1)*(br+m+3)=i*(br+m+3)+(br+m+3):=Nat.succ_mul _ _
   refine⟨_,rfl,a,t,rfl,haA,by lia,tnz,fun H3 g3=>?_⟩
   refine⟨_,rfl,_,rfl,a,r,t,k,m,rfl,haA.same g3,g3 _ _ er,tl,kl,by lia,fun n hn=>z0w (tb n hn) (by lia),fun n hn=>z0w (kb n hn) (by lia),fun H4 g4=>?_⟩
   refine⟨_,_,rfl,rfl,?_⟩
   have g34:=g3.trans g4
   have er4:=g34 _ _ er
   have ha4:=haA.same g34
   refine⟨_,rfl,r,rfl,⟨_,SqL.of er4⟩,fun D hD=>?_⟩
   refine z0V rfl (z0B K r (k.map V.int)) hD (fun _=>true) (fun x=>match x with| .int n=> .int (v t (fp t)*n)|u=>u) (fun H' g'=>SqL.of (g' _ _ er4)) (z0l (by rw[q0a];lia)) ?_ ?_ ?_
   ·intro x hx Hc gc S h
    exact h
   ·intro x hx _ Hc gc S h
    obtain⟨n,hn,rfl⟩:=q0f.mp hx
    exact⟨_,rfl,_,rfl,z5f (ha4.same gc) (y4q (by lia)) ⟨_,rfl,_,_,rfl,rfl,z2y (z0w (z0N tb (fp t)) (show _≤9000 by lia)) (z0w (kb n hn) (show _≤13000 by lia)),h⟩⟩
   rw[z0z,q0x]
   have em:k.map ((fun x=>match x with| .int n=>V.int (v t (fp t)*n)|u=>u)∘V.int)=(k.map fun n=>v t (fp t)*n).map V.int:=by rw[q0x];rfl
   rw[em]
   have g5:=z0e hD (.lst ((k.map fun n=>v t (fp t)*n).map V.int))
   have e5:upd H4 D (.lst ((k.map fun n=>v t (fp t)*n).map V.int)) D=some (.lst ((k.map fun n=>v t (fp t)*n).map V.int)):=z0b
   generalize upd H4 D (.lst ((k.map fun n=>v t (fp t)*n).map V.int))=H5 at*
   refine⟨_,rfl,_,rfl,_,rfl,D,_,_,fp t,rfl,rfl,e5,z2m (by rw[q0a,q0a,kl];lia),?_⟩
   have hD0:=(g.trans g34).free hD
   refine⟨D,_,_,_,upS m k t,hD0,rfl,fun b' o e=>by rw[z0i (z0g e hD0)];exact ((g.trans g34).trans g5) _ _ e,?_,?_,by rw[z7t];exact kl,fun n hn=>z0w (y2O tl kl tb kb n hn) (by lia)⟩
   ·rw[z0b]
    unfold upS
    rw[List.map_set]
   ·rw[q0E,et,List.foldl_append,ek];rfl
  ·rintro σ H1 ⟨r,s3,s4,s5,k,hr0,rfl,g,er,ek,kl,kb⟩
   rw[q0a,al] at ek kb
   rw[q0P] at ek
   subst ek
   exact hN _ _ ⟨r,_,_,_,hr0,rfl,g,er,kb⟩
 clear g0 e0
 rintro σ H1 ⟨r,s3,s4,s5,hr1,rfl,g1,e1,b1⟩
 have ll:(z1h m us fs).length =m+1:=by
  have:∀(us:List (List Int)) (k:List Int),(us.foldl (upS m) k).length =k.length:=by
   intro us
   induction us with
   |nil=>intro k;rfl
   |cons t us ih=>intro k;rw[List.foldl_cons,ih,z7t]
  show (us.foldl (upS m) (z5i fs (us.map fp))).length =_
  rw[this];lia
 exact⟨_,rfl,r,_,rfl,e1,by lia,hnz,fun n hn=>z0w (b1 n hn) (by lia),fun r2 H2 hr2 g2 e2=>q r2 H2 (g1.free hr2) (g1.trans g2) b1 e2⟩
def z5r (K:PySem.W.Frag):Sp:=fun vs H Q _=>∃(l q a:Addr) (t fs:List Int) (m b c S:Nat),vs=[.ref l,.ref q]∧H l=some (.lst [V.ref a])∧H a=some (.lst (t.map V.int))∧H q=some (.lst (fs.map V.int))∧Bd (m+1) b c t∧fp t≤m∧0<v t (fp t)∧fs.length=m+1∧(∃j,v fs j≠0)∧(∀n∈fs,intBits n≤S)∧b≤2100∧c≤2100∧S≤6000∧m≤5∧
 ∀(r:Addr) (H':Hp),H r=none→Same H H'→H' r=some (.lst ((z3E (upL (m+1) t fs)).map V.int))→Q (.ref r) H'
theorem z8W {vs:List V}{H:Hp}{Q:VK}{E:XK} (h:z5r K vs H Q E):z7w K vs H Q E:=by
 obtain⟨l,q',a,t,fs,m,b,c,S,rfl,hl,ha,hq,hB,hp,hpos,fl,fpos,fb,b2,c2,s6,m5,q⟩:=h
 have tb:=hB.all
 have unz:∃n∈upL (m+1) t fs,n≠0:=by
  obtain⟨j,hj⟩:=fpos
  refine z1Y (j:=skp (fp t) j) ?_
  rw[z8t fl hp]
  exact q1m (by lia) hj
 refine⟨l,q',[a],[t],fs,m+1,2100,S,rfl,hl,⟨rfl,fun i x y e1 e2=>?_⟩,hq,by rw[fl];rfl,fun x hx=>?_,List.pairwise_singleton _ _,fb,by lia,by show 1≤6;decide,by decide,by show S+1*(2100+(m+1)+3)≤_;lia,unz,fun r H' hr g _ e=>q r H' hr g e⟩
 ·cases i with
  |zero=>cases e1;cases e2;exact .inl (SqL.of ha)
  |succ i=>simp at e1
 ·rw[q0i.mp hx]
  exact⟨hB.len,by lia,fun n hn=>z0w (tb n hn) (by lia)⟩
end
end L2
namespace L2
open PySem PySem.Spec PyProof.Rows
section
open Fr Wl Rk Pt Ld
open Builtin.Int (intBits)
variable {P:Program}{w:World}{K:PySem.W.Frag}{mg:Str→Option Value}{base:Heap}{f:Addr}{fd:FuncData}
theorem z6l {m p b L:Nat}{s:List Int} (hs:0<v s m) (sb:intBits (v s m)≤L):∀(bs:List (List Int)) (z:Int),(∀r∈bs,intBits (v r p)≤b∧0<hg m (v r) (v s))→1≤z→intBits z≤b+L+1→intBits (bs.foldl (fun z r=>max z (((v r p).natAbs :Int)*v s m/hg m (v r) (v s)+1)) z)≤b+L+1
 |[],z,_,_,hz=>hz
 |r::bs,z,h,z1,hz=>by
  rw[q2b]
  obtain⟨h1,h2⟩:=h r q0j
  have hm:intBits (((v r p).natAbs :Int)*v s m)≤b+L:=intBits_mul_le (intBits_le_of_natAbs (y:=v r p) (by lia) h1) sb
  have n0:0≤((v r p).natAbs :Int)*v s m:=q1y (Int.natCast_nonneg _) (q1G hs)
  have hd:0≤((v r p).natAbs :Int)*v s m/hg m (v r) (v s):=Int.ediv_nonneg n0 (q1G h2)
  have hle:((v r p).natAbs :Int)*v s m/hg m (v r) (v s)≤((v r p).natAbs :Int)*v s m:=Int.ediv_le_self _ n0
  have hq:intBits (((v r p).natAbs :Int)*v s m/hg m (v r) (v s))≤b+L:=intBits_le_of_natAbs (by lia) hm
  have hq1:intBits (((v r p).natAbs :Int)*v s m/hg m (v r) (v s)+1)≤b+L+1:=by
   refine intBits_le_iff.mpr ?_
   have:=intBits_le_iff.mp hq
   rw[Nat.pow_succ]
   generalize ((v r p).natAbs :Int)*v s m/hg m (v r) (v s)=y at*
   lia
  refine z6l hs sb bs _ (fun r' hr'=>h r' (q0h _ hr')) (by lia) ?_
  generalize ((v r p).natAbs :Int)*v s m/hg m (v r) (v s)+1=y at*
  rcases (by lia:max z y=z∨max z y=y) with e|e
  ·rw[e];exact hz
  ·rw[e];exact hq1
theorem z8v {m p b L:Nat}{sg:Int}{s:List Int}{bs:List (List Int)} (hsg:sg=1∨sg= -1) (hl:s.length=m+1) (hp:p<m) (hs:0<v s m) (sb:∀n∈s,intBits n≤L) (hb:∀r∈bs,intBits (v r p)≤b∧0<hg m (v r) (v s)):∀n∈z7p m p sg s bs,intBits n≤b+2*L+2:=fun n hn=>by
 have hbt:intBits (z3R m p s bs)≤b+L+1:=z6l hs (z0N sb m) bs 1 hb (by decide) (by
  refine q0m (show intBits 1≤1 by decide) (by lia))
 obtain⟨j,_,rfl⟩:=mem_at hn
 rw[y0r (by lia)]
 by_cases c:j=p
 ·rw[if_pos c]
  exact z0w (intBits_add_le (intBits_mul_le hbt (z0N sb j)) (z7A hsg (z0N sb m))) (by lia)
 ·rw[if_neg c,q1A]
  exact z0w (intBits_mul_le hbt (z0N sb j)) (by lia)
theorem y2F (i:Int):(if i<0 then -i else i)=(i.natAbs:Int):=by split<;>lia
theorem y6w (i j:Int):(if j>i then j else i)=max i j:=by split<;>lia
abbrev z4a:Stmt:=top 29
theorem sc_stepped:z0r ["bounds","spot","place","sign","bottom","bound","moved"] ["bounds","spot","place","sign"] (z0j z4a):=⟨rfl,rfl,rfl,by decide+kernel,rfl,by decide+kernel,by decide+kernel⟩
def z3X (K:PySem.W.Frag):Sp:=fun vs H Q _=>∃(lb q:Addr) (as:List Addr) (bs:List (List Int)) (s:List Int) (p:Nat) (sg:Int) (m b c L:Nat),vs=[.ref lb,.ref q,.int (p:Nat),.int sg]∧H lb=some (.lst (as.map V.ref))∧LsA H as bs∧H q=some (.lst (s.map V.int))∧(∀r∈bs,Bd m b c r)∧Win m bs s∧p<m∧(sg=1∨sg= -1)∧(∀n∈s,intBits n≤L)∧b≤2100∧c≤2100∧b+2*L+4≤13000∧m≤6∧bs.length≤100∧
 ∀(r:Addr) (H':Hp),H r=none→Same H H'→H' r=some (.lst ((z3E (z7p m p sg s bs)).map V.int))→Q (.ref r) H'
theorem z9K (T:Txt mg) (F:Fun K "stepped" "stepped" z4a f fd) (c_height:Cal P w K mg base 3 "height" ["bound","spot"] (z2T K)) (c_lowest:Cal P w K mg base 3 "lowest" ["numbers"] (z5q K)):FnOk P w K mg base CX0 4 f fd ["bounds","spot","place","sign"] (z3X K):=by
 refine F.ok sc_stepped (fun vs H Q E h=>?_) (fun cdv A outer s H vs Q E hr h=>?_)
 ·obtain⟨_,_,_,_,_,_,_,_,_,_,_,rfl,_⟩:=h;rfl
 obtain⟨lb,q',as,bs,sp,p,sg,m,b,c,L,rfl,hlb,hls,hq,hB,hW,pm,hsg,sb,b2,c2,hL,m6,n100,q⟩:=h
 refine⟨_,(z0c (z0n (i:=4) sc_stepped.nd rfl (Or.inr rfl) z0f)
  (z0c (z1f PassesOwn.never rfl (z0E (K:=K) rfl (pv 0)) (z0k (i:=5) sc_stepped.nd rfl (Or.inl rfl)) (z0h (z0n (i:=4) sc_stepped.nd rfl (Or.inr rfl) (z0A (y2A rfl) rfl T.max boot_max (z0a (pv 4) (z0a (z0s z1r (z0s z3K (z0s z0Z (z0A z3Q rfl T.abs boot_abs (z0a (z0T (z0x (K:=K) rfl) (pv 5) (pv 2) (fun _ _=>rfl)) z0d)) (z0T (z0x (K:=K) rfl) (pv 1) (z1O z1d z0f) (fun _ _=>rfl))) (z0q c_height hr rfl (z0a (pv 5) (z0a (pv 1) z0d)))) z0f) z0d))))))
  (z0c (z3o (jj:=6) rfl sc_stepped.nd rfl (Or.inl rfl) (Or.inl rfl) (Nc:=["number","bottom"]) (fr:=[none,some 4]) rfl (z0E (K:=K) rfl (pv 1)) rfl (by decide) rfl (by decide) rfl ⟨rfl,trivial⟩ ⟨⟨rfl,rfl,rfl,rfl⟩,trivial⟩ (fun _ _ _ _=>(z0k (i:=0) (show List.Nodup (["number","bottom"]:List Str) from by decide) rfl (Or.inl rfl))) (fun _ _ _ _=>z0H) (fun _ _ _ _=>(z0s z0Z (pv 1) (pv 0))))
  (z0c (z2B (z0s z1r (z0T (z0x (K:=K) rfl) (pv 6) (pv 2) (fun _ _=>rfl)) (z0s z0Z (pv 3) (z0T (z0x (K:=K) rfl) (pv 1) (z1O z1d z0f) (fun _ _=>rfl)))) (z3A (pv 6) (pv 2) z1A))
  (z0h (z0t (z0q c_lowest hr rfl (z0a (pv 6) z0d)))))))),?_⟩
 have sl:=hW.1.1
 have spos:=hW.1.2
 obtain⟨s',y,es⟩:∃a' x,sp=a'++[x]:=⟨sp.dropLast,sp.getLast (fun z=>by rw[z] at sl;simp at sl),(q0X _).symm⟩
 have s'l:s'.length=m:=by rw[es,q0l] at sl;simpa using sl
 have ey:y=v sp m:=by
  show y=sp.getD m 0
  rw[es,q0b,q0R (by lia),s'l,Nat.sub_self];rfl
 have hq':H q'=some (.lst (s'.map V.int++[V.int (v sp m)])):=by rw[hq,←ey,es,q0p];rfl
 refine z0p (fun σ H'=>σ=[some (.ref lb),some (.ref q'),some (.int (p:Nat)),some (.int sg),some (.int 1),none,none]∧H=H') (fun N hN=>?_) ?_
 ·exact hN _ _ ⟨rfl,rfl⟩
 rintro σ H0 ⟨rfl,rfl⟩
 refine z0p (fun σ H'=>∃s5,σ=[some (.ref lb),some (.ref q'),some (.int (p:Nat)),some (.int sg),some (.int (z3R m p sp bs)),s5,none]∧Same H H') (fun N hN=>?_) ?_
 ·refine⟨_,rfl,lb,rfl,⟨_,SqL.of hlb⟩,?_⟩
  refine z0I (z0B K lb (as.map V.ref)) (fun i σ H'=>∃s5,σ=[some (.ref lb),some (.ref q'),some (.int (p:Nat)),some (.int sg),some (.int (z3R m p sp (bs.take i))),s5,none]∧Same H H') ⟨_,rfl,Same.refl _⟩ (fun i σ H' _ h=>by obtain⟨_,_,g⟩:=h;exact SqL.of (g _ _ hlb)) ?_ ?_
  ·rintro i x σ H1 H2 hi ⟨s5,rfl,g⟩ ⟨rfl,hx⟩
   rw[q0a,hls.1] at hi
   rw[q0g] at hx
   obtain⟨a,ha,rfl⟩:=q0r.mp hx
   have et:bs[i]? =some bs[i]:=q0c hi
   have hum:bs[i]∈bs:=q0w hi
   have tk:bs.take (i+1)=bs.take i++[bs[i]]:=by rw[q0E,et];rfl
   generalize bs[i]=u at et hum tk
   have hu:=hB u hum
   have hau:=g _ _ (hls.2 i a u ha et)
   have hh:=hW.2 u hum
   have ub:=hu.all
   have hub:intBits (if v u p<0 then -v u p else v u p)≤b:=by rw[y2F];exact intBits_le_of_natAbs (y:=v u p) (by lia) (hu.way p pm)
   refine⟨_,rfl,_,rfl,_,rfl,a,_,_,_,rfl,rfl,SqL.of hau,y4q (by rw[hu.len];lia),_,rfl,_,rfl,_,rfl,q',_,_,_,rfl,rfl,SqL.of (g _ _ hq'),z2w _ _,_,_,rfl,rfl,z2y hub (z0N sb m),?_⟩
   refine⟨_,rfl,_,rfl,a,q',u,sp,m,rfl,hau,g _ _ hq,hu.len,sl,by lia,fun n hn=>z0w (ub n hn) (by lia),fun n hn=>z0w (sb n hn) (by lia),fun H3 g3=>?_⟩
   refine⟨_,_,rfl,rfl,⟨by lia,z0w (intBits_mul_le hub (z0N sb m)) (by lia)⟩,_,_,rfl,rfl,_,_,rfl,?_⟩
   have eb:(if ((if v u p<0 then -v u p else v u p)*v sp m).fdiv (hg m (v u) (v sp))+1>z3R m p sp (bs.take i) then ((if v u p<0 then -v u p else v u p)*v sp m).fdiv (hg m (v u) (v sp))+1 else z3R m p sp (bs.take i))=z3R m p sp (bs.take (i+1)):=by
        rw[tk,y2F,Int.fdiv_eq_ediv_of_nonneg _ (q1G hh),y6w]
        unfold z3R
        rw[List.foldl_append]
        rfl
   refine⟨some (.ref a),?_,g.trans g3⟩
   rw[eb]
   rfl
  ·rintro σ H1 ⟨s5,rfl,g⟩
   rw[q0a,hls.1,q0P]
   exact hN _ _ ⟨_,rfl,g⟩
 rintro σ H1 ⟨s5,rfl,g1⟩
 have hbb:∀r∈bs,intBits (v r p)≤b∧0<hg m (v r) (v sp):=fun r hr=>⟨(hB r hr).way p pm,hW.2 r hr⟩
 have hbt:intBits (z3R m p sp bs)≤b+L+1:=z6l spos (z0N sb m) bs 1 hbb (by decide) (q0m (show intBits 1≤1 by decide) (by lia))
 have hq1:=g1 _ _ hq
 refine z0p (fun σ H'=>∃D s5,H1 D=none∧σ=[some (.ref lb),some (.ref q'),some (.int (p:Nat)),some (.int sg),some (.int (z3R m p sp bs)),s5,some (.ref D)]∧Same H1 H'∧H' D=some (.lst ((sp.map fun n=>z3R m p sp bs*n).map V.int))) (fun N hN=>?_) ?_
 ·refine⟨_,rfl,q',rfl,⟨_,SqL.of hq1⟩,fun D hD=>?_⟩
  refine z0V rfl (z0B K q' (sp.map V.int)) hD (fun _=>true) (fun x=>match x with| .int n=> .int (z3R m p sp bs*n)|u=>u) (fun H' g'=>SqL.of (g' _ _ hq1)) (z0l (by rw[q0a];lia)) ?_ ?_ ?_
  ·intro x hx Hc gc S h
   exact h
  ·intro x hx _ Hc gc S h
   obtain⟨n,hn,rfl⟩:=q0f.mp hx
   exact⟨_,rfl,_,rfl,_,_,rfl,rfl,z2y hbt (sb n hn),h⟩
  rw[z0z,q0x]
  refine hN _ _ ⟨D,_,hD,rfl,z0e hD _,?_⟩
  rw[z0b,q0x];rfl
 rintro σ H2 ⟨D,s5,hD1,rfl,g2,eD⟩
 have g12:=g1.trans g2
 have hDn:=g1.free hD1
 refine z0p (fun σ H'=>σ=[some (.ref lb),some (.ref q'),some (.int (p:Nat)),some (.int sg),some (.int (z3R m p sp bs)),s5,some (.ref D)]∧Same H H'∧H' D=some (.lst ((z7p m p sg sp bs).map V.int))) (fun N hN=>?_) ?_
 ·have hat:atI ((sp.map fun n=>z3R m p sp bs*n).map V.int) ((p:Nat):Int)=some (.int (z3R m p sp bs*v sp p)):=by
   rw[y4q (by rw[q0a];lia),z3S]
  refine⟨_,rfl,_,rfl,D,_,_,_,rfl,rfl,SqL.of eD,hat,_,rfl,_,rfl,_,rfl,q',_,_,_,rfl,rfl,SqL.of (g12 _ _ hq'),z2w _ _,_,_,rfl,rfl,z2y (m:=1) (by rcases hsg with rfl|rfl<;>decide) (z0N sb m),_,_,rfl,rfl,?_⟩
  refine⟨_,rfl,_,rfl,D,_,_,p,rfl,rfl,eD,z2m (by rw[q0a,q0a];lia),?_⟩
  refine hN _ _ ⟨rfl,fun b' o e=>by rw[z0i (z0g e hDn)];exact g12 _ _ e,?_⟩
  rw[z0b]
  unfold z7p
  rw[List.map_set]
 rintro σ H3 ⟨rfl,g3,eD3⟩
 have hlen:(z7p m p sg sp bs).length =m+1:=by rw[y0s,sl]
 have snz:∃n∈z7p m p sg sp bs,n≠0:=by
  refine z1Y (j:=m) ?_
  rw[y0r (by lia),if_neg (by lia),q1A]
  have bt1:1≤z3R m p sp bs:=(z7i bs 1).1
  exact q1m (by lia) (by lia)
 exact⟨_,rfl,D,_,rfl,eD3,by lia,snz,fun n hn=>z0w (z8v hsg sl pm spos sb hbb n hn) (by lia),fun r2 H4 hr2 g4 e4=>q r2 H4 (g3.free hr2) (g3.trans g4) e4⟩
end
end L2
namespace L2
open PySem PySem.Spec PyProof.Rows
section
open Fr Wl Rk Pt Ld
open Builtin.Int (intBits)
variable {P:Program}{w:World}{K:PySem.W.Frag}{mg:Str→Option Value}{base:Heap}{f:Addr}{fd:FuncData}
def Sb:Nat→Nat→Nat→Nat
 |0,_,_=>1
 |m+1,b,c=>b+2*(max b c+Sb m (2*b+1) (b+c+1)+m+3)+4
def z7q:Nat→Nat→Nat→Bool
 |0,b,c=>decide (b≤11000)&&decide (c≤11000)
 |m+1,b,c=>decide (b≤2100)&&decide (c≤2100)&&decide (Sb (m+1) b c≤12000)&&z7q m (2*b+1) (b+c+1)
theorem y4u (m b c:Nat):1≤Sb m b c:=by
 cases m with
 |zero=>exact Nat.le_refl _
 |succ m=>rw[Sb];lia
theorem y3W {m b c:Nat} (h:z7q m b c=true):b≤11000∧c≤11000:=by
 cases m with
 |zero=>unfold z7q at h;simpa using h
 |succ m=>unfold z7q at h;simp only[Bool.and_eq_true,decide_eq_true_eq] at h;have:=h.1.1;lia
theorem y6x {m b c:Nat} (h:z7q (m+1) b c=true):b≤2100∧c≤2100:=by
 unfold z7q at h;simp only[Bool.and_eq_true,decide_eq_true_eq] at h;exact h.1.1
theorem z8V {m b c:Nat} (h:z7q (m+1) b c=true):Sb (m+1) b c≤12000∧z7q m (2*b+1) (b+c+1)=true:=by
 unfold z7q at h;simp only[Bool.and_eq_true,decide_eq_true_eq] at h;exact⟨h.1.2,h.2⟩
theorem y6y {m b c:Nat} (h:z7q m b c=true):Sb m b c≤12000:=by
 cases m with
 |zero=>show 1≤12000;decide
 |succ m=>exact (z8V h).1
abbrev z1u:Stmt:=top 30
theorem sc_spot_across:z0r ["ways","bounds","bound","row","found"] ["ways","bounds","bound"] (z0j z1u):=⟨rfl,rfl,rfl,by decide+kernel,rfl,by decide+kernel,by decide+kernel⟩
abbrev z1t:Stmt:=top 31
theorem sc_spot_within:z0r ["ways","bounds","spot","place","bound"] ["ways","bounds"] (z0j z1t):=⟨rfl,rfl,rfl,by decide+kernel,rfl,by decide+kernel,by decide+kernel⟩
abbrev y7a (m:Nat) (bs:List (List Int)) (k:Nat) (H:Hp) (Q:VK):Prop:=
 (∀(r:Addr) (s:List Int) (H':Hp),H r=none→Same H H'→H' r=some (.lst (s.map V.int))→Win m bs s→(∀n∈s,intBits n≤k)→Q (.ref r) H')∧(∀H',Same H H'→¬Pw m bs→Q .non H')
def z9y (K:PySem.W.Frag) (k:Nat):Sp:=fun vs H Q _=>∃(m:Nat) (l:Addr) (as:List Addr) (bs:List (List Int)) (b c:Nat),k=m+1∧vs=[.int (m:Nat),.ref l]∧H l=some (.lst (as.map V.ref))∧LsA H as bs∧(∀r∈bs,Bd m b c r)∧z7q m b c=true∧m≤5∧bs.length≤100∧y7a m bs (Sb m b c) H Q
def z7z (K:PySem.W.Frag) (k:Nat):Sp:=fun vs H Q _=>∃(m:Nat) (l ab:Addr) (as:List Addr) (bs:List (List Int)) (bd s0:List Int) (b c:Nat),k=m+1∧vs=[.int (m:Nat),.ref l,.ref ab]∧H l=some (.lst (as.map V.ref))∧LsA H as bs∧H ab=some (.lst (bd.map V.int))∧(∀r∈bs,Bd m b c r)∧Bd m b c bd∧z7q m b c=true∧m≤5∧bs.length≤100∧Win m bs s0∧hg m (v bd) (v s0)≤0∧y7a m (bs++[bd]) (Sb m b c) H Q
theorem y3U (T:Txt mg) (F:Fun K "spot_across" "spot_across" z1u f fd) (n:Nat) (c_turned:Cal P w K mg base (6+2*n) "turned" ["numbers","sign"] (z2q K)) (c_lead:Cal P w K mg base (6+2*n) "lead" ["bound"] (y0A K)) (c_drawn:Cal P w K mg base (6+2*n) "drawn" ["rows","numbers"] (z7x K)) (c_stepped:Cal P w K mg base (6+2*n) "stepped" ["bounds","spot","place","sign"] (z3X K)) (c_lifted:Cal P w K mg base (6+2*n) "lifted" ["rows","spot"] (z5r K)) (c_first_place:Cal P w K mg base (6+2*n) "first_place" ["row"] (z2j K)) (c_spot_within:Cal P w K mg base (6+2*n) "spot_within" ["ways","bounds"] (z9y K n)):FnOk P w K mg base CX0 (6+2*n+1) f fd ["ways","bounds","bound"] (z7z K (n+1)):=by
 refine F.ok sc_spot_across (fun vs H Q E h=>?_) (fun cdv A outer s H vs Q E hr h=>?_)
 ·obtain⟨_,_,_,_,_,_,_,_,_,_,rfl,_⟩:=h;rfl
 obtain⟨m,l,ab,as,bs,bd,s0,b,c,hk,rfl,hl,hls,hab,hB,hbd,hlim,m5,n100,hW0,hh0,q1,q2⟩:=h
 obtain rfl:n=m:=by lia
 refine⟨_,(z0c (z0S (z4Z (z2V (z0A (z3e (K:=K) rfl rfl) rfl T.any boot_any (z0a (z1l (z2r (K:=K) rfl) (pv 2) z1G (z1F (z1O z1d z0f))) z0d)))) (z0h (z0t z5d)) z0y)
  (z0c (z0n (i:=3) sc_spot_across.nd rfl (Or.inr rfl) (z0q c_turned hr rfl (z0a (pv 2) (z0a (z0q c_lead hr rfl (z0a (pv 2) z0d)) z0d))))
  (z0c (z0n (i:=4) sc_spot_across.nd rfl (Or.inl rfl) (z0q c_spot_within hr rfl (z0a (z0s z1P (pv 0) z0f) (z0a (z0G (Nc:=["other","row"]) (fr:=[none,some 3]) rfl (z0E (K:=K) rfl (pv 1)) rfl (by decide) rfl (by decide) rfl ⟨rfl,trivial⟩ ⟨⟨rfl,rfl,rfl,rfl⟩,trivial⟩ (fun _ _ _ _=>(z0k (i:=0) (show List.Nodup (["other","row"]:List Str) from by decide) rfl (Or.inl rfl))) (fun _ _ _ _=>z0H) (fun _ _ _ _=>(z0q c_drawn hr rfl (z0a (z0U (z0a (pv 1) z0d)) (z0a (pv 0) z0d))))) z0d))))
  (z0c (z0S (z5a (z8K (pv 4))) (z0h (z0t z5d)) z0y)
  (z0h (z0t (z0q c_stepped hr rfl (z0a (pv 1) (z0a (z0q c_lifted hr rfl (z0a (z0U (z0a (pv 3) z0d)) (z0a (pv 4) z0d))) (z0a (z0q c_first_place hr rfl (z0a (pv 2) z0d)) (z0a (z0q c_lead hr rfl (z0a (pv 2) z0d)) z0d))))))))))),?_⟩
 have bl:=hbd.len
 obtain⟨ns,x,eb⟩:∃a' x,bd=a'++[x]:=⟨bd.dropLast,bd.getLast (fun z=>by rw[z] at bl;simp at bl),(q0X _).symm⟩
 have nsl:ns.length=n:=by rw[eb,q0l] at bl;simpa using bl
 have hab':H ab=some (.lst (ns.map V.int++[V.int x])):=by rw[hab,eb,q0p];rfl
 have vns:∀j,j<n→v bd j=v ns j:=fun j hj=>by
  show bd.getD j 0=ns.getD j 0
  rw[eb,q0b,q0b,q1e (by lia)]
 refine z0p (fun σ H'=>σ=[some (.int (n:Nat)),some (.ref l),some (.ref ab),none,none]∧Same H H'∧fp bd<n) (fun N hN=>?_) ?_
 ·refine⟨_,rfl,_,rfl,_,rfl,ab,_,rfl,SqL.of hab',fun z hz=>?_⟩
  rw[z3P]
  have g1:=z0e hz (.lst (ns.map V.int))
  refine⟨z,_,rfl,.inl (SqL.of z0b),z2t ns,_,rfl,?_⟩
  by_cases hnz:∃n∈ns,n≠0
  ·rw[(z2d ns).mpr hnz]
   refine z3t ?_
   refine hN _ _ ⟨rfl,g1,?_⟩
   obtain⟨n',h1,h2⟩:=hnz
   obtain⟨j,hj,e⟩:=mem_at h1
   refine q0H fun cc=>h2 ?_
   rw[←e,←vns j (by lia)]
   exact z1k (by lia)
  ·have h0:(ns.map V.int).any trV=false:=by
        cases z:(ns.map V.int).any trV with
        |false=>rfl
        |true=>exact absurd ((z2d ns).mp z) hnz
   rw[h0]
   refine z5h ?_
   refine q2 _ g1 (y2f (s0:=s0) (fun j hj=>?_) hW0.1 hh0)
   rw[vns j hj]
   exact q0H fun hc=>hnz (z1Y hc)
 rintro σ H1 ⟨rfl,g1,hfp⟩
 obtain⟨m,rfl⟩:∃k,n=k+1:=⟨n - 1,by lia⟩
 obtain⟨hS,hlim'⟩:=z8V hlim
 obtain⟨b2,c2⟩:=y6x hlim
 have bb:∀n∈bd,intBits n≤2100:=fun n hn=>z0w (hbd.all n hn) (by lia)
 have bnz:∃n∈bd,n≠0:=y1s (by lia)
 have ft:=z8f bnz (z1v bd)
 have hBt:=hbd.turn (z1v bd)
 have tnz:∃n∈z0F (ldL bd) bd,n≠0:=z1Y (j:=fp bd) (by rw[z2P];have:=z6U bnz;lia)
 have tpos:0<v (z0F (ldL bd) bd) (fp (z0F (ldL bd) bd)):=by rw[z2P,ft];exact z6U bnz
 have hrl:∀u∈bs,u.length=m+2:=fun u hu=>(hB u hu).len
 refine z0p (fun σ H'=>∃ar,σ=[some (.int ((m+1:Nat):Int)),some (.ref l),some (.ref ab),some (.ref ar),none]∧Same H H'∧H' ar=some (.lst ((z0F (ldL bd) bd).map V.int))) (fun N hN=>?_) ?_
 ·refine⟨_,rfl,_,rfl,ab,bd,rfl,g1 _ _ hab,by lia,bnz,fun H2 g2=>?_⟩
  exact⟨ab,bd,ldL bd,rfl,.inl (SqL.of ((g1.trans g2) _ _ hab)),by lia,z1v bd,fun n hn=>z0w (bb n hn) (by decide),fun r H' hr g' e'=>hN _ _ ⟨r,rfl,g1.trans (g2.trans g'),e'⟩⟩
 clear g1
 rintro σ H1 ⟨ar,rfl,g1,ear⟩
 have hl1:=g1 _ _ hl
 have hls1:=hls.same g1
 refine z0p (fun σ H'=>Same H H'∧((∃rf fs,σ=[some (.int ((m+1:Nat):Int)),some (.ref l),some (.ref ab),some (.ref ar),some (.ref rf)]∧H' rf=some (.lst (fs.map V.int))∧H' ar=some (.lst ((z0F (ldL bd) bd).map V.int))∧Win m (bs.map (drR (z0F (ldL bd) bd))) fs∧∀n∈fs,intBits n≤Sb m (2*b+1) (b+c+1))∨(σ=[some (.int ((m+1:Nat):Int)),some (.ref l),some (.ref ab),some (.ref ar),some .non]∧¬Pw m (bs.map (drR (z0F (ldL bd) bd)))))) (fun N hN=>?_) ?_
 ·refine⟨_,rfl,_,_,rfl,rfl,_,rfl,l,rfl,⟨_,SqL.of hl1⟩,fun D hD=>?_⟩
  refine z5m rfl (z0B K l (as.map V.ref)) hD (fun _=>true) (fun H' x u=>∃(a:Addr) (t:List Int) (p:Addr),x=V.ref a∧u=V.ref p∧H1 a=some (.lst (t.map V.int))∧H' p=some (.lst ((drR (z0F (ldL bd) bd) t).map V.int))∧p≠D) ?_ (fun H' g'=>SqL.of (g' _ _ hl1)) (z0l (by rw[q0a,hls.1];lia)) ?_ ?_ ?_
  ·rintro H2 H3 x u k ⟨acc,hd⟩ ⟨a,t,p,e1,e2,e3,e4,e5⟩
   exact⟨a,t,p,e1,e2,e3,k _ _ e5 e4,e5⟩
  ·intro x hx Hc gc S h
   exact h _ (Same.refl _)
  ·rintro x hx _ Hc gc ⟨acc,hacc⟩ S h
   obtain⟨a,ha,rfl⟩:=q0f.mp hx
   obtain⟨i,hi,rfl⟩:=q0C.mp ha
   have hi2:i<bs.length:=by rw[←hls.1];exact hi
   have hc:=hls1.2 i _ _ (q0c hi) (q0c hi2)
   have htm:bs[i]∈bs:=q0w hi2
   generalize bs[i]=t at hc htm
   have hBr:=hB t htm
   refine⟨_,rfl,z0l (by show 1≤_;decide),fun z hz=>?_⟩
   have g2:=z0e hz (.lst [V.ref ar])
   refine⟨_,rfl,z,_,ar,z0F (ldL bd) bd,t,2100,rfl,z0b,g2 _ _ (gc _ _ ear),.inl (SqL.of (g2 _ _ (gc _ _ hc))),by rw[hBr.len,hBt.len],by rw[hBt.len];lia,tnz,fun n hn=>z0w (hBt.all n hn) (by lia),fun n hn=>z0w (hBr.all n hn) (by lia),by decide,fun r H3 hr3 _ g3 e3=>?_⟩
   exact h _ _ (g2.trans g3) ⟨_,t,r,rfl,rfl,hc,e3,fun z=>by rw[z] at hr3;have:=g2 _ _ hacc;rw[hr3] at this;cases this⟩
  ·intro us H2 g2 hD2 he
   rw[z0z] at he
   obtain⟨as1,rfl,hL1,hL2⟩:=y2k (G:= .lst) (F:= .lst) (g:=drR (z0F (ldL bd) bd)) (fun xs ys h=>by injection h) hls1.1 hls1.2 (he.imp fun x u ⟨a,t,p,e1,e2,e3,e4,_⟩=>⟨a,t,p,e1,e2,e3,e4⟩)
   refine⟨m,D,as1,bs.map (drR (z0F (ldL bd) bd)),2*b+1,b+c+1,rfl,?_,hD2,⟨hL1,hL2⟩,fun r hr=>?_,hlim',by lia,by rw[q0a];lia,fun rf fs H3 hrf g3 erf hWf hbf=>?_,fun H3 g3 hno=>?_⟩
   ·show [V.int _,V.ref D]=_
    congr 2
    lia
   ·obtain⟨u,hu,rfl⟩:=q0f.mp hr
    exact hBt.draw (hB u hu) (by lia) tnz
   ·exact hN _ _ ⟨g1.trans (g2.trans g3),.inl ⟨rf,fs,rfl,erf,(g2.trans g3) _ _ ear,hWf,hbf⟩⟩
   ·exact hN _ _ ⟨g1.trans (g2.trans g3),.inr ⟨rfl,hno⟩⟩
 clear g1 hl1 hls1 ear
 rintro σ H1 ⟨g1,⟨rf,fs,rfl,erf,ear,hWf,hbf⟩|⟨rfl,hno⟩⟩
 ·refine z0p (fun σ H'=>σ=[some (.int ((m+1:Nat):Int)),some (.ref l),some (.ref ab),some (.ref ar),some (.ref rf)]∧H1=H') (fun N hN=>?_) ?_
  ·refine⟨_,rfl,_,rfl,?_⟩
   refine z3t ?_
   exact hN _ _ ⟨rfl,rfl⟩
  rintro σ H1' ⟨rfl,rfl⟩
  obtain⟨w1,w2,w3⟩:=z8j (w:=m) bl hrl (by lia) hWf
  have e0:Sb (m+1) b c=b+2*(max b c+Sb m (2*b+1) (b+c+1)+m+3)+4:=rfl
  have hub:=y4F hBt (by rw[ft];lia) hWf.1.1 hbf
  have hw:=y3K (t:=z0F (ldL bd) bd) (by rw[ft];lia) hBt.len tpos hrl hWf
  have hlb:=z5W (z1Y (j:=m+1) (by have:=hw.1.2;lia)) hub
  refine⟨_,rfl,_,rfl,z0l (by show 1≤_;decide),fun z hz=>?_⟩
  have g2:=z0e hz (.lst [V.ref ar])
  have e2:upd H1 z (.lst [V.ref ar]) z=some (.lst [V.ref ar]):=z0b
  generalize upd H1 z (.lst [V.ref ar])=H2 at*
  refine⟨_,rfl,z,rf,ar,z0F (ldL bd) bd,fs,m,b,c,Sb m (2*b+1) (b+c+1),rfl,e2,g2 _ _ ear,g2 _ _ erf,hBt,by rw[ft];lia,tpos,hWf.1.1,⟨m,by have:=hWf.1.2;lia⟩,hbf,b2,c2,by lia,by lia,fun r3 H3 hr3 g3 e3=>?_⟩
  have g13:=g1.trans (g2.trans g3)
  refine⟨_,rfl,ab,bd,rfl,.inl (SqL.of (g13 _ _ hab)),by lia,bnz,fun H4 g4=>?_⟩
  have g14:=g13.trans g4
  refine⟨_,rfl,ab,bd,rfl,g14 _ _ hab,by lia,bnz,fun H5 g5=>?_⟩
  have g15:=g14.trans g5
  refine⟨l,r3,as,bs,z3E (upL (m+1) (z0F (ldL bd) bd) fs),fp bd,ldL bd,m+1,b,c,max b c+Sb m (2*b+1) (b+c+1)+m+3,rfl,g15 _ _ hl,hls.same g15,(g4.trans g5) _ _ e3,hB,w1,hfp,z1v bd,hlb,b2,c2,by lia,by lia,n100,fun r6 H6 hr6 g6 e6=>?_⟩
  refine q1 r6 _ H6 (g15.free hr6) (g15.trans g6) e6 w3 ?_
  have snz:∃n∈z7p (m+1) (fp bd) (ldL bd) (z3E (upL (m+1) (z0F (ldL bd) bd) fs)) bs,n≠0:=by
   refine z1Y (j:=m+1) ?_
   rw[y0r (by rw[w1.1.1];lia),if_neg (by lia),q1A]
   have bt1:1≤z3R (m+1) (fp bd) (z3E (upL (m+1) (z0F (ldL bd) bd) fs)) bs:=(z7i bs 1).1
   have:=w1.1.2
   exact q1m (by lia) (by lia)
  exact fun n hn=>z0w (z5W snz (z8v (z1v bd) w1.1.1 hfp w1.1.2 hlb fun r hr=>⟨(hB r hr).way _ hfp,w1.2 r hr⟩) n hn) (by lia)
 ·refine z0p (fun σ H'=>False) (fun N hN=>?_) (fun _ _ h=>h.elim)
  refine⟨_,rfl,_,rfl,?_⟩
  refine z5h ?_
  exact q2 _ g1 (z8k bl hrl (by lia) hW0 hh0 hno)
end
end L2
namespace L2
open PySem PySem.Spec PyProof.Rows
section
open Fr Wl Rk Pt Ld
open Builtin.Int (intBits)
variable {P:Program}{w:World}{K:PySem.W.Frag}{mg:Str→Option Value}{base:Heap}{f:Addr}{fd:FuncData}
def z2x (m:Nat):List Int:=List.replicate m 0++[1]
theorem z6n (m:Nat):Spt m (z2x m):=by
 refine⟨by unfold z2x;simp,?_⟩
 show 0<(z2x m).getD m 0
 unfold z2x
 rw[q0b,q0R (by simp),List.length_replicate,Nat.sub_self]
 decide
theorem z4R (m:Nat):∀n∈z2x m,intBits n≤1:=fun n hn=>by
 unfold z2x at hn
 rcases q0D.mp hn with h|h
 ·rw[(List.mem_replicate.mp h).2];decide
 ·rw[q0i.mp h];decide
theorem z4Q (m:Nat):(List.replicate m [V.int 0]).flatten =(List.replicate m (0:Int)).map V.int:=by
 induction m with
 |zero=>rfl
 |succ m ih=>rw[List.replicate_succ,List.flatten_cons,ih,List.replicate_succ];rfl
theorem y6u (T:Txt mg) (F:Fun K "spot_within" "spot_within" z1t f fd) (n:Nat) (c_height:Cal P w K mg base (7+2*n) "height" ["bound","spot"] (z2T K)) (c_spot_across:Cal P w K mg base (7+2*n) "spot_across" ["ways","bounds","bound"] (z7z K (n+1))):FnOk P w K mg base CX0 (7+2*n+1) f fd ["ways","bounds"] (z9y K (n+1)):=by
 refine F.ok sc_spot_within (fun vs H Q E h=>?_) (fun cdv A outer s H vs Q E hr h=>?_)
 ·obtain⟨_,_,_,_,_,_,_,rfl,_⟩:=h;rfl
 obtain⟨m,l,as,bs,b,c,hk,rfl,hl,hls,hB,hlim,m5,n100,q1,q2⟩:=h
 obtain rfl:n=m:=by lia
 refine⟨_,(z0c (z0n (i:=2) sc_spot_within.nd rfl (Or.inl rfl) (z0s z6O (z0s y1h (z0U (z0a z0f z0d)) (pv 0)) (z0U (z0a z0f z0d))))
  (z0c (z1f PassesOwn.never rfl (z8J (K:=K) rfl rfl T.enumerate (z0a (pv 1) z0d)) (z1c (K:=K) rfl 2 rfl (z0u (z0k (i:=3) sc_spot_within.nd rfl (Or.inl rfl)) (z0u (z0k (i:=4) sc_spot_within.nd rfl (Or.inl rfl)) z0Y))) (z0h (z0S (z0v op_le (z0q c_height hr rfl (z0a (pv 4) (z0a (pv 2) z0d))) z0f (z0D _)) (z0c (z0n (i:=2) sc_spot_within.nd rfl (Or.inl rfl) (z0q c_spot_across hr rfl (z0a (pv 0) (z0a (z1l (z2r (K:=K) rfl) (pv 1) z1G (z1F (pv 3))) (z0a (pv 4) z0d)))))
  (z0h (z0S (z5a (z8K (pv 2))) (z0h (z0t z5d)) z0y))) z0y)))
  (z0h (z0t (pv 2))))),?_⟩
 obtain⟨b2,c2⟩:=y3W hlim
 have hS:=y6y hlim
 refine z0p (fun σ H'=>∃r,H r=none∧σ=[some (.int (n:Nat)),some (.ref l),some (.ref r),none,none]∧Same H H'∧H' r=some (.lst ((z2x n).map V.int))) (fun N hN=>?_) ?_
 ·refine⟨z0l (by show 1≤_;decide),fun z hz=>?_⟩
  have g0:=z0e hz (.lst [V.int 0])
  have e0:upd H z (.lst [V.int 0]) z=some (.lst [V.int 0]):=z0b
  generalize upd H z (.lst [V.int 0])=H0 at*
  refine⟨_,rfl,z,_,_,rfl,rfl,e0,by lia,by lia,z0l (by rw[q0S];show 1*n≤_;lia),fun z1 hz1=>?_⟩
  rw[q0S,z4Q]
  have g1:=z0e hz1 (.lst ((List.replicate n (0:Int)).map V.int))
  have e1:upd H0 z1 (.lst ((List.replicate n (0:Int)).map V.int)) z1=some (.lst ((List.replicate n (0:Int)).map V.int)):=z0b
  generalize upd H0 z1 (.lst ((List.replicate n (0:Int)).map V.int))=H1 at*
  refine⟨z0l (by show 1≤_;decide),fun z2 hz2=>?_⟩
  have g2:=z0e hz2 (.lst [V.int 1])
  have e2:upd H1 z2 (.lst [V.int 1]) z2=some (.lst [V.int 1]):=z0b
  generalize upd H1 z2 (.lst [V.int 1])=H2 at*
  refine⟨z1,z2,_,_,rfl,rfl,g2 _ _ e1,e2,z0l (by rw[q0a,List.length_replicate];show n+1≤_;lia),fun z3 hz3=>?_⟩
  have g02:=g0.trans (g1.trans g2)
  refine hN _ _ ⟨z3,g02.free hz3,rfl,g02.trans (z0e hz3 _),?_⟩
  rw[z0b]
  unfold z2x
  rw[q0p]
  rfl
 rintro σ H0 ⟨r0,hr0,rfl,g0,e0⟩
 refine z0p (fun σ H'=>∃r sp s3 s4,H r=none∧σ=[some (.int (n:Nat)),some (.ref l),some (.ref r),s3,s4]∧Same H H'∧H' r=some (.lst (sp.map V.int))∧Win n bs sp∧∀n'∈sp,intBits n'≤Sb n b c) (fun N hN=>?_) ?_
 ·refine⟨_,rfl,l,_,rfl,g0 _ _ hl,?_⟩
  refine z0I (z6G K l (as.map V.ref)) (fun i σ H'=>∃r sp s3 s4,H r=none∧σ=[some (.int (n:Nat)),some (.ref l),some (.ref r),s3,s4]∧Same H H'∧H' r=some (.lst (sp.map V.int))∧Win n (bs.take i) sp∧∀n'∈sp,intBits n'≤Sb n b c)
   ⟨r0,z2x n,_,_,hr0,rfl,g0,e0,⟨z6n n,fun b' hb'=>by simp at hb'⟩,fun n' hn'=>z0w (z4R n n' hn') (y4u _ _ _)⟩ (fun i σ H' _ h=>by obtain⟨_,_,_,_,_,_,g,_⟩:=h;exact SqL.of (g _ _ hl)) ?_ ?_
  ·clear e0 g0 hr0
   rintro i x σ H1 H2 hi ⟨r,sp,s3,s4,hr1,rfl,g,er,hW,hb⟩ ⟨pr,vv,rfl,hpr,hvv,rfl⟩
   rw[q0a,hls.1] at hi
   rw[q0g] at hvv
   obtain⟨a,ha,rfl⟩:=q0r.mp hvv
   have et:bs[i]? =some bs[i]:=q0c hi
   have hum:bs[i]∈bs:=q0w hi
   have tk:bs.take (i+1)=bs.take i++[bs[i]]:=by rw[q0E,et];rfl
   generalize bs[i]=bd at et hum tk
   have g2:=z0e hpr (.tup [.int i,.ref a])
   have ep:upd H1 pr (.tup [.int i,.ref a]) pr=some (.tup [.int i,.ref a]):=z0b
   generalize upd H1 pr (.tup [.int i,.ref a])=H2 at*
   have gg2:=g.trans g2
   have hbd:=hB bd hum
   have hab:=gg2 _ _ (hls.2 i a bd ha et)
   refine⟨pr,_,rfl,SqT.of ep,rfl,_,_,rfl,_,_,rfl,rfl,?_⟩
   refine⟨_,rfl,_,rfl,a,r,bd,sp,n,rfl,hab,g2 _ _ er,hbd.len,hW.1.1,by lia,fun n' hn'=>z0w (hbd.all n' hn') (by lia),fun n' hn'=>z0w (hb n' hn') (by lia),fun H3 g3=>?_⟩
   refine⟨_,_,rfl,rfl,_,rfl,?_⟩
   have gg3:=gg2.trans g3
   refine z3f (fun cc=>?_) (fun cc=>?_)
   ·have hle:hg n (v bd) (v sp)≤0:=of_decide_eq_true cc
    refine⟨_,rfl,_,rfl,_,rfl,_,rfl,l,_,rfl,SqL.of (gg3 _ _ hl),fun p1 hp1=>?_⟩
    rw[z9n (by lia) (by rw[q0a,hls.1];lia),q0S,←List.map_take]
    have g4:=z0e hp1 (.lst ((as.take i).map V.ref))
    have e4:upd H3 p1 (.lst ((as.take i).map V.ref)) p1=some (.lst ((as.take i).map V.ref)):=z0b
    generalize upd H3 p1 (.lst ((as.take i).map V.ref))=H4 at*
    have gg4:=gg3.trans g4
    have hls4:LsA H4 (as.take i) (bs.take i):=⟨by rw[q0q,q0q,hls.1],fun j a' t' e1 e2=>by
     have hj:j<i:=by
         have:=(q0y.mp e2).1
         rw[q0q] at this;lia
     rw[q1B hj] at e1 e2
     exact gg4 _ _ (hls.2 j a' t' e1 e2)⟩
    refine⟨_,rfl,n,p1,a,as.take i,bs.take i,bd,sp,b,c,rfl,rfl,e4,hls4,(g3.trans g4) _ _ hab,fun r' hr'=>hB r' (q1D hr'),hbd,hlim,m5,by rw[q0q];lia,hW,hle,fun r5 sp5 H5 hr5 g5 er5 hW5 hb5=>?_,fun H5 g5 hno=>?_⟩
    ·refine⟨_,rfl,_,rfl,?_⟩
     refine z3t ?_
     exact⟨r5,sp5,_,_,gg4.free hr5,rfl,gg4.trans g5,er5,by rw[tk];exact hW5,hb5⟩
    ·refine⟨_,rfl,_,rfl,?_⟩
     refine z5h ?_
     refine q2 _ (gg4.trans g5) fun hp=>hno ?_
     rw[←tk]
     exact Pw.less (cs:=bs.drop (i+1)) (by rw[q1P];exact hp)
   ·have hgt:¬hg n (v bd) (v sp)≤0:=fun z=>cc (decide_eq_true z)
    refine⟨r,sp,_,_,hr1,rfl,gg3,(g2.trans g3) _ _ er,⟨hW.1,fun b' hb'=>?_⟩,hb⟩
    rw[tk] at hb'
    rcases q0D.mp hb' with h|h
    ·exact hW.2 b' h
    ·rw[q0i.mp h];lia
  ·rintro σ H1 ⟨r,sp,s3,s4,hr1,rfl,g,er,hW,hb⟩
   rw[q0a,hls.1,q0P] at hW
   exact hN _ _ ⟨r,sp,_,_,hr1,rfl,g,er,hW,hb⟩
 clear e0 g0 hr0
 rintro σ H1 ⟨r,sp,s3,s4,hr1,rfl,g,er,hW,hb⟩
 exact⟨_,rfl,q1 r sp H1 hr1 g er hW hb⟩
theorem z5N {fa:Addr}{fda:FuncData} (T:Txt mg) (Fa:Fun K "spot_across" "spot_across" z1u fa fda) (ba:Binds K fda ["ways","bounds","bound"] []) (ka:PySem.W.keepIn K (.ref fa)=true) (ma:mg "spot_across"=some (.ref fa))
 (F:Fun K "spot_within" "spot_within" z1t f fd) (bw:Binds K fd ["ways","bounds"] []) (kw:PySem.W.keepIn K (.ref f)=true) (mw:mg "spot_within"=some (.ref f))
 (c_turned:Cal P w K mg base 5 "turned" ["numbers","sign"] (z2q K)) (c_lead:Cal P w K mg base 5 "lead" ["bound"] (y0A K)) (c_drawn:Cal P w K mg base 5 "drawn" ["rows","numbers"] (z7x K)) (c_stepped:Cal P w K mg base 5 "stepped" ["bounds","spot","place","sign"] (z3X K)) (c_lifted:Cal P w K mg base 5 "lifted" ["rows","spot"] (z5r K)) (c_first_place:Cal P w K mg base 5 "first_place" ["row"] (z2j K)) (c_height:Cal P w K mg base 5 "height" ["bound","spot"] (z2T K)):
 ∀n,FnOk P w K mg base CX0 (6+2*n) f fd ["ways","bounds"] (z9y K n)∧FnOk P w K mg base CX0 (6+2*n+1) fa fda ["ways","bounds","bound"] (z7z K (n+1))
 |0=>by
  have cw:FnOk P w K mg base CX0 (6+2*0) f fd ["ways","bounds"] (z9y K 0):=⟨fun _ _ _ _ h=>by obtain⟨_,_,_,_,_,_,e,_⟩:=h;lia,fun _ _ _ _ _ _ _ _ _ _ _ _ _ h=>by obtain⟨_,_,_,_,_,_,e,_⟩:=h;lia⟩
  exact⟨cw,y3U T Fa 0 (c_turned.mono (by lia)) (c_lead.mono (by lia)) (c_drawn.mono (by lia)) (c_stepped.mono (by lia)) (c_lifted.mono (by lia)) (c_first_place.mono (by lia)) ⟨f,fd,cw,bw,kw,mw⟩⟩
 |n+1=>by
  obtain⟨_,ha⟩:=z5N T Fa ba ka ma F bw kw mw c_turned c_lead c_drawn c_stepped c_lifted c_first_place c_height n
  have e7:6+2*n+1=7+2*n:=by lia
  have ha':Cal P w K mg base (7+2*n) "spot_across" ["ways","bounds","bound"] (z7z K (n+1)):=⟨fa,fda,by rw[←e7];exact ha,ba,ka,ma⟩
  have hw:=y6u T F n (c_height.mono (by lia)) ha'
  have e8:7+2*n+1=6+2*(n+1):=by lia
  rw[e8] at hw
  exact⟨hw,y3U T Fa (n+1) (c_turned.mono (by lia)) (c_lead.mono (by lia)) (c_drawn.mono (by lia)) (c_stepped.mono (by lia)) (c_lifted.mono (by lia)) (c_first_place.mono (by lia)) ⟨f,fd,hw,bw,kw,mw⟩⟩
end
end L2
namespace L2
open PySem PySem.Spec PyProof.Rows
section
open Fr Wl Rk Pt Ld
open Builtin.Int (intBits)
variable {P:Program}{w:World}{K:PySem.W.Frag}{mg:Str→Option Value}{base:Heap}{f:Addr}{fd:FuncData}
abbrev z2G:Stmt:=top 32
theorem z6F:z0r ["walls","signs"] ["walls","signs"] (z0j z2G):=⟨rfl,rfl,rfl,by decide+kernel,rfl,by decide+kernel,by decide+kernel⟩
def z8D (K:PySem.W.Frag):Sp:=fun vs H Q _=>∃(l q:Addr) (as:List Addr) (ts:List (List Int)) (sg:List Int),vs=[.ref l,.ref q]∧H l=some (.lst (as.map V.ref))∧TsA H as ts∧H q=some (.tup (sg.map V.int))∧ts.length=sg.length∧Sgn sg∧ts.length≤100∧(∀t∈ts,t.length≤100∧∀n∈t,intBits n≤13000)∧
 ∀(r:Addr) (bs:List Addr) (H':Hp),H r=none→Same H H'→H' r=some (.lst (bs.map V.ref))→LsA H' bs (bdL ts sg)→Q (.ref r) H'
theorem z6S (T:Txt mg) (F:Fun K "bounds_at" "bounds_at" z2G f fd) (c_turned:Cal P w K mg base 1 "turned" ["numbers","sign"] (z2q K)):FnOk P w K mg base CX0 2 f fd ["walls","signs"] (z8D K):=by
 refine F.ok z6F (fun vs H Q E h=>?_) (fun cdv A outer s H vs Q E hr h=>?_)
 ·obtain⟨_,_,_,_,_,rfl,_⟩:=h;rfl
 obtain⟨l,q',as,ts,sg,rfl,hl,hts,hq,hlen,hsg,n100,zt,q⟩:=h
 refine⟨_,(z0h (z0t (z0G (Nc:=["numbers","sign"]) (fr:=[none,none]) rfl (z3p (K:=K) rfl rfl T.zip (z0a (pv 0) (z0a (pv 1) z0d))) rfl (by decide) rfl (by decide) rfl trivial trivial (fun _ _ _ _=>(z1c (K:=K) rfl 2 rfl (z0u (z0k (i:=0) (show List.Nodup (["numbers","sign"]:List Str) from by decide) rfl (Or.inl rfl)) (z0u (z0k (i:=1) (show List.Nodup (["numbers","sign"]:List Str) from by decide) rfl (Or.inl rfl)) z0Y)))) (fun _ _ _ _=>z0H) (fun _ _ _ _=>(z0q c_turned hr rfl (z0a (pv 0) (z0a (pv 1) z0d))))))),?_⟩
 refine⟨_,rfl,_,rfl,l,q',true,false,_,_,rfl,SqL.of hl,SqT.of hq,fun D hD=>?_⟩
 have dl:(as.zip (ts.zip sg)).length =ts.length:=by rw[q0I,q0I,hts.1];lia
 refine z5l (as.zip (ts.zip sg)) (by rw[q0I,q0a,q0a,hts.1,dl];lia) (z1L K true false l q' (as.map V.ref) (sg.map V.int)) hD (fun d=>(V.ref d.1,V.int d.2.2)) ?_ (fun _=>true) (fun H' d u=>∃p,u= .ref p∧p≠D∧H' p=some (.lst ((z0F d.2.2 d.2.1).map V.int))) ?_ ?_ (fun H' g'=>⟨SqL.of (g' _ _ hl),SqT.of (g' _ _ hq)⟩) (z0l (by rw[q0I,q0a,q0a,hts.1];lia)) ?_ ?_ ?_
 ·intro i c d hc hd
  rw[q0G] at hc hd
  obtain⟨c1,c2⟩:=hc
  obtain⟨d1,d2⟩:=hd
  rw[q0G] at d2
  rw[q0g] at c1 c2
  rw[d1] at c1
  rw[d2.2] at c2
  obtain⟨u,v⟩:=c
  have h1:V.ref d.1=u:=Option.some.inj c1
  have h2:V.int d.2.2=v:=Option.some.inj c2
  rw[h1,h2]
 ·rintro H2 H3 d u k _ ⟨p,e1,e2,e3⟩
  exact⟨p,e1,e2,k _ _ e2 e3⟩
 ·intro p u v σ H hp S h
  exact⟨p,_,rfl,SqT.of hp,rfl,_,_,rfl,_,_,rfl,rfl,h⟩
 ·intro d hd Hc gc S h
  exact h _ (Same.refl _)
 ·rintro d hd _ Hc gc ⟨acc,hacc⟩ S h
  obtain⟨i,hi⟩:=q1R.mp hd
  rw[q0G] at hi
  obtain⟨d1,d2⟩:=hi
  rw[q0G] at d2
  have ha:=hts.2 i d.1 d.2.1 d1 d2.1
  have hm:=zt _ (q0B d2.1)
  have hs:=hsg _ (q0B d2.2)
  refine⟨_,rfl,_,rfl,d.1,d.2.1,d.2.2,rfl,.inr (SqT.of (gc _ _ ha)),hm.1,hs,hm.2,fun r H' hr g' e'=>?_⟩
  exact h _ _ g' ⟨r,rfl,fun z=>(by rw[z,hacc] at hr;cases hr),e'⟩
 ·intro us H1 g1 hD1 he
  rw[z0z] at he
  obtain⟨bs,hbs⟩:∃bs:List Addr,us=bs.map V.ref:=by
   clear hD1
   generalize as.zip (ts.zip sg)=ds at he
   induction he with
   |nil=>exact⟨[],rfl⟩
   |cons h1 _ ih=>
    obtain⟨p,rfl,_⟩:=h1
    obtain⟨bs,rfl⟩:=ih
    exact⟨p::bs,rfl⟩
  subst hbs
  refine q D bs H1 hD g1 hD1 ⟨?_,fun i a t ea et=>?_⟩
  ·have:=he.length
   rw[dl,q0a] at this
   unfold bdL
   rw[q2e];lia
  ·unfold bdL at et
   rw[List.getElem?_zipWith] at et
   have hi:i<ts.length:=by
        have:=(q0y.mp ea).1
        have h2:=he.length
        rw[dl,q0a] at h2
        lia
   have e1:ts[i]? =some ts[i]:=q0c hi
   have e2:sg[i]? =some (sg[i]'(by lia)):=q0c (by lia)
   have e3:as[i]? =some (as[i]'(by rw[hts.1];exact hi)):=q0c _
   rw[e1,e2] at et
   have hd:(as.zip (ts.zip sg))[i]? =some (as[i]'(by rw[hts.1];exact hi),(ts[i],sg[i]'(by lia))):=by
        rw[q0G]
        refine⟨e3,?_⟩
        rw[q0G]
        exact⟨e1,e2⟩
   obtain⟨p,hp,_,h3⟩:=he.get hd (by rw[q0g,ea];rfl)
   cases hp
   rw[←Option.some.inj et]
   exact h3
abbrev z7F:Stmt:=top 10
theorem sc_ratio:z0r ["top","bottom","shared"] ["top","bottom"] (z0j z7F):=⟨rfl,rfl,rfl,by decide+kernel,rfl,by decide+kernel,by decide+kernel⟩
def ratL (t b:Int):List Int:=[t.fdiv (Int.gcd t b:Nat),b.fdiv (Int.gcd t b:Nat)]
def y0x (K:PySem.W.Frag):Sp:=fun vs H Q _=>∃(t b:Int),vs=[.int t,.int b]∧0<b∧intBits t≤13000∧intBits b≤13000∧∀(r:Addr) (H':Hp),H r=none→Same H H'→H' r=some (.tup ((ratL t b).map V.int))→Q (.ref r) H'
theorem y3j (T:Txt mg) (F:Fun K "ratio" "ratio" z7F f fd) (c_divisor:Cal P w K mg base 1 "divisor" ["one","other"] z1K):FnOk P w K mg base CX0 2 f fd ["top","bottom"] (y0x K):=by
 refine F.ok sc_ratio (fun vs H Q E h=>?_) (fun cdv A outer s H vs Q E hr h=>?_)
 ·obtain⟨_,_,rfl,_⟩:=h;rfl
 obtain⟨t,b,rfl,b0,tb,bb,q⟩:=h
 refine⟨_,(z0c (z0S (z0v z3q (pv 1) z0f (z0D _)) (z0h z8H) z0y)
  (z0c (z0n (i:=2) sc_ratio.nd rfl (Or.inl rfl) (z0q c_divisor hr rfl (z0a (pv 0) (z0a (pv 1) z0d))))
  (z0c (z0S (z0v y5c (pv 1) z0f (z0D _)) (z0h (z0n (i:=2) sc_ratio.nd rfl (Or.inl rfl) (z1O z1d (pv 2)))) z0y)
  (z0h (z0t (z2e (z0a (z0s z3K (pv 0) (pv 2)) (z0a (z0s z3K (pv 1) (pv 2)) z0d)))))))),?_⟩
 have g0:((Int.gcd t b:Nat):Int)≠0:=fun z=>by
  have:=(Int.gcd_eq_zero_iff.mp (Int.ofNat_eq_zero.mp z)).2
  lia
 refine⟨_,rfl,rfl,_,rfl,?_⟩
 refine z3f (fun c=>?_) (fun c=>?_)
 ·have:b=0:=by
   have:=of_decide_eq_true c
   injection this
  lia
 refine⟨_,rfl,_,rfl,t,b,rfl,?_⟩
 refine⟨_,rfl,_,_,rfl,rfl,_,rfl,?_⟩
 refine z3f (fun c2=>?_) (fun c2=>?_)
 ·have:b<0:=of_decide_eq_true c2
  lia
 refine⟨_,rfl,_,rfl,_,_,rfl,rfl,⟨g0,tb⟩,_,rfl,_,rfl,_,_,rfl,rfl,⟨g0,bb⟩,z0l (by show 2≤_;decide),fun r hr=>?_⟩
 exact q r _ hr (z0e hr _) z0b
abbrev z3i:Stmt:=top 35
theorem z7D:z0r ["spot"] ["spot"] (z0j z3i):=⟨rfl,rfl,rfl,by decide+kernel,rfl,by decide+kernel,by decide+kernel⟩
def y0y (K:PySem.W.Frag):Sp:=fun vs H Q _=>∃(p:Addr) (s:List Int) (m:Nat),vs=[.ref p]∧H p=some (.lst (s.map V.int))∧Spt m s∧m≤50∧(∀n∈s,intBits n≤13000)∧
 ∀(r:Addr) (bs:List Addr) (H':Hp),H r=none→Same H H'→H' r=some (.tup (bs.map V.ref))→TsA H' bs (s.dropLast.map fun t=>ratL t (v s m))→Q (.ref r) H'
theorem z7P (T:Txt mg) (F:Fun K "point_of" "point_of" z3i f fd) (c_ratio:Cal P w K mg base 2 "ratio" ["top","bottom"] (y0x K)):FnOk P w K mg base CX0 3 f fd ["spot"] (y0y K):=by
 refine F.ok z7D (fun vs H Q E h=>?_) (fun cdv A outer s H vs Q E hr h=>?_)
 ·obtain⟨_,_,_,rfl,_⟩:=h;rfl
 obtain⟨p,sp,m,rfl,hp,hs,m50,sb,q⟩:=h
 refine⟨_,(z0h (z0t (z0J (z0W (K:=K) rfl) rfl T.tuple boot_tuple (z0a (z0G (Nc:=["top","spot"]) (fr:=[none,some 0]) rfl (z0E (K:=K) rfl (z1l (z2r (K:=K) rfl) (pv 0) z1G (z1F (z1O z1d z0f)))) rfl (by decide) rfl (by decide) rfl ⟨rfl,trivial⟩ ⟨⟨rfl,rfl,rfl,rfl⟩,trivial⟩ (fun _ _ _ _=>(z0k (i:=0) (show List.Nodup (["top","spot"]:List Str) from by decide) rfl (Or.inl rfl))) (fun _ _ _ _=>z0H) (fun _ _ _ _=>(z0q c_ratio hr rfl (z0a (pv 0) (z0a (z0T (z0x (K:=K) rfl) (pv 1) (z1O z1d z0f) (fun _ _=>rfl)) z0d))))) z0d)))),?_⟩
 obtain⟨sl,spos⟩:=hs
 obtain⟨s',y,es⟩:∃a' x,sp=a'++[x]:=⟨sp.dropLast,sp.getLast (fun z=>by rw[z] at sl;simp at sl),(q0X _).symm⟩
 have s'l:s'.length=m:=by rw[es,q0l] at sl;simpa using sl
 have ey:y=v sp m:=by
  show y=sp.getD m 0
  rw[es,q0b,q0R (by lia),s'l,Nat.sub_self];rfl
 have hp':H p=some (.lst (s'.map V.int++[V.int (v sp m)])):=by rw[hp,←ey,es,q0p];rfl
 have ed:sp.dropLast=s':=by rw[es,List.dropLast_concat]
 refine⟨_,rfl,_,rfl,_,rfl,p,_,rfl,SqL.of hp',fun z hz=>?_⟩
 rw[z3P]
 have g1:=z0e hz (.lst (s'.map V.int))
 have e1:upd H z (.lst (s'.map V.int)) z=some (.lst (s'.map V.int)):=z0b
 generalize upd H z (.lst (s'.map V.int))=H1 at*
 refine⟨z,rfl,⟨_,SqL.of e1⟩,fun D hD=>?_⟩
 refine z0X s' (by rw[q0a]) (z0B K z (s'.map V.int)) hD (fun n σ=>σ.set 0 (some (.int n))) (fun d e σ=>q1Q ..) (fun _=>true) (fun H' n u=>∃q,u= .ref q∧H' q=some (.tup ((ratL n (v sp m)).map V.int))) ?_ (fun H' g'=>SqL.of (g' _ _ e1)) (z0l (by rw[q0a];lia)) ?_ ?_ ?_ ?_
 ·rintro H2 H3 d u k ⟨acc,hd⟩ ⟨q,e1,e2⟩
  exact⟨q,e1,k _ _ (fun z=>by rw[z,hd] at e2;cases e2) e2⟩
 ·intro i x d hx hd σ H2 g2 S h
  rw[q0g,hd] at hx
  cases hx
  exact h
 ·intro d hd Hc gc S h
  exact h _ (Same.refl _)
 ·intro d hd _ Hc gc _ S h
  refine⟨_,rfl,_,rfl,_,rfl,p,_,_,_,rfl,rfl,SqL.of (gc _ _ (g1 _ _ hp')),z2w _ _,d,v sp m,rfl,spos,sb d (by rw[es];exact q0J _ hd),z0N sb m,fun r H' hr g' e'=>h _ _ g' ⟨r,rfl,e'⟩⟩
 ·intro us H2 g2 hD2 he
  rw[z0z] at he
  obtain⟨bs,hbs⟩:∃bs:List Addr,us=bs.map V.ref:=by
   clear hD2 es s'l hp' ed e1
   induction he with
   |nil=>exact⟨[],rfl⟩
   |cons h1 _ ih=>
    obtain⟨p,rfl,_⟩:=h1
    obtain⟨bs,rfl⟩:=ih
    exact⟨p::bs,rfl⟩
  subst hbs
  have g02:=g1.trans g2
  refine⟨D,_,rfl,.inl ⟨SqL.of hD2,fun r hr=>?_⟩⟩
  have g3:=z0e hr (.tup (bs.map V.ref))
  refine q r bs _ (g02.free hr) (g02.trans g3) z0b ⟨?_,fun i a t ea et=>?_⟩
  ·have:=he.length
   rw[q0a] at this
   rw[ed,q0a,this]
  ·rw[ed,q0g] at et
   obtain⟨n,hn,rfl⟩:=q0r.mp et
   obtain⟨q2,hq2,h3⟩:=he.get hn (by rw[q0g,ea];rfl)
   cases hq2
   exact g3 _ _ h3
end
end L2
namespace L2
open PySem PySem.Spec PyProof.Rows
section
open Fr Wl Rk Pt Ld
open Builtin.Int (intBits)
variable {P:Program}{w:World}{K:PySem.W.Frag}{mg:Str→Option Value}{base:Heap}{f:Addr}{fd:FuncData}
structure LandD where
 a:Addr
 sg:List Int
 q:Addr
 sp:List Int
def LandAt (H:Hp) (d:LandD) (x:V):Prop:=∃p,x= .ref p∧H p=some (.tup [.ref d.a,.ref d.q])∧H d.a=some (.tup (d.sg.map V.int))∧H d.q=some (.lst (d.sp.map V.int))
theorem LandAt.same {H H':Hp}{d:LandD}{x:V} (h:LandAt H d x) (g:Same H H'):LandAt H' d x:=by
 obtain⟨p,e,h1,h2,h3⟩:=h
 exact⟨p,e,g _ _ h1,g _ _ h2,g _ _ h3⟩
theorem LandAt.put {H:Hp}{d:LandD}{x:V}{l:Addr}{o:HO}{ys:List V} (h:LandAt H d x) (hl:H l=some (.lst ys)) (hq:d.q≠l):LandAt (upd H l o) d x:=by
 obtain⟨p,e,h1,h2,h3⟩:=h
 exact⟨p,e,by rw[z0i fun z=>by rw[z,hl] at h1;cases h1];exact h1,by rw[z0i fun z=>by rw[z,hl] at h2;cases h2];exact h2,by rw[z0i hq];exact h3⟩
theorem Each.andL {α β:Type}{R:α→β→Prop}{Pp:α→Prop}{as:List α}{bs:List β} (h:Each R as bs) (hp:∀a∈as,Pp a):Each (fun a b=>R a b∧Pp a) as bs:=by
 induction h with
 |nil=>exact .nil
 |cons h1 _ ih=>exact .cons ⟨h1,hp _ List.mem_cons_self⟩ (ih fun a ha=>hp a (List.mem_cons_of_mem _ ha))
structure z4O (m b c:Nat) (ts:List (List Int)) (d:LandD):Prop where
 len:ts.length=d.sg.length
 sgn:Sgn d.sg
 win:Win m (bdL ts d.sg) d.sp
 bits:∀n∈d.sp,intBits n≤Sb m b c
theorem bd_Bd {m b c:Nat}{ts:List (List Int)}{sg:List Int} (h:∀t∈ts,Bd m b c t) (hs:Sgn sg):∀r∈bdL ts sg,Bd m b c r:=fun r hr=>by
 unfold bdL at hr
 obtain⟨i,hi,rfl⟩:=q0C.mp hr
 rw[List.getElem_zipWith]
 exact (h _ (q0w _)).turn (hs _ (q0w _))
abbrev z5z:Stmt:=top 33
theorem sc_parted:z0r ["ways","walls","found","numbers","more","signs","spot","bounds","sign","bound","within"] ["ways","walls","found","numbers"] (z0j z5z):=⟨rfl,rfl,rfl,by decide+kernel,rfl,by decide+kernel,by decide+kernel⟩
def z8y (K:PySem.W.Frag):Sp:=fun vs H Q _=>∃(m:Nat) (lw lf an:Addr) (as:List Addr) (ts:List (List Int)) (xs:List V) (ds:List LandD) (t:List Int) (b c:Nat),vs=[.int (m:Nat),.ref lw,.ref lf,.ref an]∧H lw=some (.lst (as.map V.ref))∧TsA H as ts∧H lf=some (.lst xs)∧Each (LandAt H) ds xs∧H an=some (.tup (t.map V.int))∧(∀u∈ts++[t],Bd m b c u)∧(∀d∈ds,z4O m b c ts d)∧z7q m b c=true∧m≤4∧ts.length≤20∧ds.length≤1000∧
 ∀(r:Addr) (xs':List V) (ds':List LandD) (H':Hp),H r=none→Same H H'→H' r=some (.lst xs')→Each (LandAt H') ds' xs'→(∀d∈ds',z4O m b c (ts++[t]) d)→ds'.map LandD.sg=(ds.map LandD.sg).flatMap (z1q m ts t)→Q (.ref r) H'
open Classical in
theorem y1l (T:Txt mg) (F:Fun K "parted" "parted" z5z f fd) (c_bounds_at:Cal P w K mg base 15 "bounds_at" ["walls","signs"] (z8D K)) (c_turned:Cal P w K mg base 15 "turned" ["numbers","sign"] (z2q K)) (c_height:Cal P w K mg base 15 "height" ["bound","spot"] (z2T K)) (c0:∀m,m≤4→Cal P w K mg base 15 "spot_across" ["ways","bounds","bound"] (z7z K (m+1))):FnOk P w K mg base CX0 16 f fd ["ways","walls","found","numbers"] (z8y K):=by
 refine F.ok sc_parted (fun vs H Q E h=>?_) (fun cdv A outer s H vs Q E hr h=>?_)
 ·obtain⟨_,_,_,_,_,_,_,_,_,_,_,rfl,_⟩:=h;rfl
 obtain⟨m,lw,lf,an,as,ts,xs,ds,t,b,c,rfl,hlw,hts,hlf,hE,han,hB,hG,hlim,m4,n20,d1000,q⟩:=h
 have c_spot_across:=c0 m m4
 refine⟨_,(z0c (z0n (i:=4) sc_parted.nd rfl (Or.inl rfl) (z0U z0d))
  (z0c (z1f PassesOwn.never rfl (z0E (K:=K) rfl (pv 2)) (z1c (K:=K) rfl 2 rfl (z0u (z0k (i:=5) sc_parted.nd rfl (Or.inl rfl)) (z0u (z0k (i:=6) sc_parted.nd rfl (Or.inl rfl)) z0Y))) (z0c (z0n (i:=7) sc_parted.nd rfl (Or.inl rfl) (z0q c_bounds_at hr rfl (z0a (pv 1) (z0a (pv 5) z0d))))
  (z0h (z1f PassesOwn.never rfl (y1b (K:=K) rfl (z2e (z0a (z1O z1d z0f) (z0a z0f z0d)))) (z0k (i:=8) sc_parted.nd rfl (Or.inl rfl)) (z0c (z0n (i:=9) sc_parted.nd rfl (Or.inl rfl) (z0q c_turned hr rfl (z0a (pv 3) (z0a (pv 8) z0d))))
  (z0c (z0n (i:=10) sc_parted.nd rfl (Or.inl rfl) (z3I (z0v z7N (z0q c_height hr rfl (z0a (pv 9) (z0a (pv 6) z0d))) z0f (z0D _)) (pv 6) (z0q c_spot_across hr rfl (z0a (pv 0) (z0a (pv 7) (z0a (pv 9) z0d))))))
  (z0h (z0S (z5a (z7L (pv 10))) (z0h (z1E (z6K PySem.F.plainAttrs_list PySem.F.slot_list_append PySem.F.type_list_append z1n (pv 4) (z0a (z2e (z0a (z0s (z8L (K:=K) rfl) (pv 5) (z2e (z0a (pv 8) z0d))) (z0a (pv 10) z0d))) z0d)))) z0y))))))))
  (z0h (z0t (pv 4))))),?_⟩
 obtain⟨b2,c2⟩:=y3W hlim
 have hS:=y6y hlim
 have hBt:=hB t (by simp)
 have hBs:∀u∈ts,Bd m b c u:=fun u hu=>hB u (q0J _ hu)
 have mx:max b c≤11000:=by lia
 refine z0p (fun σ H'=>∃r,H r=none∧σ=[some (.int (m:Nat)),some (.ref lw),some (.ref lf),some (.ref an),some (.ref r),none,none,none,none,none,none]∧Same H H'∧H' r=some (.lst [])) (fun N hN=>?_) ?_
 ·exact⟨q0K _,fun r hr=>hN _ _ ⟨r,hr,rfl,z0e hr _,z0b⟩⟩
 rintro σ H0 ⟨r,hr0,rfl,g0,e0⟩
 refine z0p (fun σ H'=>∃xs' ds' s5 s6 s7 s8 s9 s10,σ=[some (.int (m:Nat)),some (.ref lw),some (.ref lf),some (.ref an),some (.ref r),s5,s6,s7,s8,s9,s10]∧Same H H'∧H' r=some (.lst xs')∧Each (LandAt H') ds' xs'∧(∀d∈ds',z4O m b c (ts++[t]) d)∧ds'.map LandD.sg=(ds.map LandD.sg).flatMap (z1q m ts t)) (fun N hN=>?_) ?_
 ·refine⟨_,rfl,lf,rfl,⟨_,SqL.of (g0 _ _ hlf)⟩,?_⟩
  refine z0I (z0B K lf xs) (fun i σ H'=>∃xs' ds' s5 s6 s7 s8 s9 s10,σ=[some (.int (m:Nat)),some (.ref lw),some (.ref lf),some (.ref an),some (.ref r),s5,s6,s7,s8,s9,s10]∧Same H H'∧H' r=some (.lst xs')∧Each (LandAt H') ds' xs'∧(∀d∈ds',z4O m b c (ts++[t]) d∧d.q≠r)∧xs'.length≤2*i∧ds'.map LandD.sg=((ds.take i).map LandD.sg).flatMap (z1q m ts t))
   ⟨[],[],_,_,_,_,_,_,rfl,g0,e0,.nil,(fun d hd=>by cases hd),q0K _,rfl⟩ (fun i σ H' _ h=>by obtain⟨_,_,_,_,_,_,_,_,_,g,_⟩:=h;exact SqL.of (g _ _ hlf)) ?_ ?_
  ·clear g0 e0
   rintro i x σ H1 H2 hi ⟨xs',ds',s5,s6,s7,s8,s9,s10,rfl,g,er,hE',hG',hx',hsg⟩ ⟨rfl,hx⟩
   have hid:i<ds.length:=by rw[hE.length];exact hi
   have hdi:ds[i]? =some ds[i]:=q0c hid
   have hdm:ds[i]∈ds:=q0w hid
   have tk:ds.take (i+1)=ds.take i++[ds[i]]:=by rw[q0E,hdi];rfl
   generalize ds[i]=d at hdi hdm tk
   obtain⟨p,rfl,h1,h2,h3⟩:=(hE.get hdi hx).same g
   have hd:=hG d hdm
   have hdq0:d.q≠r:=fun z=>by
        obtain⟨_,_,_,_,h3'⟩:=hE.get hdi hx
        rw[z,hr0] at h3';cases h3'
   refine⟨p,_,rfl,SqT.of h1,rfl,_,_,rfl,_,_,rfl,rfl,?_⟩
   have hBb:=bd_Bd hBs hd.sgn
   refine z0p (fun σ H'=>∃lb bs,σ=[some (.int (m:Nat)),some (.ref lw),some (.ref lf),some (.ref an),some (.ref r),some (.ref d.a),some (.ref d.q),some (.ref lb),s8,s9,s10]∧Same H2 H'∧H' lb=some (.lst (bs.map V.ref))∧LsA H' bs (bdL ts d.sg)∧lb≠r∧r∉bs) (fun N' hN'=>?_) ?_
   ·refine⟨_,rfl,_,rfl,lw,d.a,as,ts,d.sg,rfl,g _ _ hlw,hts.same g,h2,hd.len,hd.sgn,by lia,fun u hu=>⟨by rw[(hBs u hu).len];lia,fun n hn=>z0w ((hBs u hu).all n hn) (by lia)⟩,fun lb bs H3 hlb g3 elb hbs=>?_⟩
    refine hN' _ _ ⟨lb,bs,rfl,g3,elb,hbs,fun z=>(by rw[z,er] at hlb;cases hlb),fun z=>?_⟩
    obtain⟨k,hk⟩:=q1R.mp z
    have hkl:k<(bdL ts d.sg).length :=by rw[←hbs.1];exact (q0y.mp hk).1
    have h4:=hbs.2 k r _ hk (q0c hkl)
    have hl1:=(hBb _ (q0w hkl)).len
    rw[g3 _ _ er] at h4
    generalize (bdL ts d.sg)[k]=row at h4 hl1
    cases row with
    |nil=>simp at hl1
    |cons n0 row=>
     have h5:xs'=(n0::row).map V.int:=by injection h4 with z;injection z
     rw[h5] at hE'
     cases hE' with
     |cons h6 _=>
      obtain⟨_,h7,_⟩:=h6
      cases h7
   rintro σ H3 ⟨lb,bs,rfl,g3,elb,hbs,lbr,hrb⟩
   have gH3:=g.trans g3
   have er3:=g3 _ _ er
   have hE3:=hE'.imp fun _ _ h=>LandAt.same h g3
   clear h1 h2 h3 er hE' g g3
   refine⟨_,rfl,z0l (by show 2≤_;decide),fun z hz=>?_⟩
   have zr:z≠r:=fun e=>by rw[e,er3] at hz;cases hz
   have g4:=z0e hz (.tup [V.int (-1),V.int 1])
   have e4:upd H3 z (.tup [V.int (-1),V.int 1]) z=some (.tup [V.int (-1),V.int 1]):=z0b
   generalize upd H3 z (.tup [V.int (-1),V.int 1])=H4 at*
   refine⟨z,rfl,⟨_,SqT.of e4⟩,?_⟩
   refine z0I (z5G K z [V.int (-1),V.int 1]) (fun j σ H'=>∃xs' ds' s8 s9 s10,σ=[some (.int (m:Nat)),some (.ref lw),some (.ref lf),some (.ref an),some (.ref r),some (.ref d.a),some (.ref d.q),some (.ref lb),s8,s9,s10]∧Same H H'∧H' lb=some (.lst (bs.map V.ref))∧LsA H' bs (bdL ts d.sg)∧H' z=some (.tup [V.int (-1),V.int 1])∧H' r=some (.lst xs')∧Each (LandAt H') ds' xs'∧(∀d∈ds',z4O m b c (ts++[t]) d∧d.q≠r)∧xs'.length≤2*i+j∧ds'.map LandD.sg=((ds.take i).map LandD.sg).flatMap (z1q m ts t)++([d.sg++[-1],d.sg++[1]].take j).filter fun s'=>decide (y5E m (ts++[t]) s'))
        ⟨xs',ds',_,_,_,rfl,gH3.trans g4,g4 _ _ elb,hbs.same g4,e4,g4 _ _ er3,hE3.imp fun _ _ h=>LandAt.same h g4,hG',by lia,by rw[hsg];simp⟩ (fun j σ H' _ h=>let ⟨_,_,_,_,_,_,_,_,_,e,_⟩:=h;SqT.of e) ?_ ?_
   ·clear hE3 er3 hbs elb gH3 e4 g4 hsg hx' hG'
    rintro j x σ H5 H5' hj ⟨xs',ds',s8,s9,s10,rfl,g,elb,hbs,e4,er,hE',hG',hx',hsg⟩ ⟨rfl,hx⟩
    obtain⟨sg,rfl,hsgn,tk2⟩:∃sg:Int,x= .int sg∧(sg=1∨sg= -1)∧[d.sg++[-1],d.sg++[1]].take (j+1)=[d.sg++[-1],d.sg++[1]].take j++[d.sg++[sg]]:=by
     have hj2:j<2:=hj
     rcases (by lia:j=0∨j=1) with rfl|rfl
     ·exact⟨-1,(Option.some.inj hx).symm,.inr rfl,rfl⟩
     ·exact⟨1,(Option.some.inj hx).symm,.inl rfl,rfl⟩
    have hlj:j<2:=hj
    have hRe:y5E m (ts++[t]) (d.sg++[sg])↔Pw m (bdL ts d.sg++[z0F sg t]):=by unfold y5E;rw[z8i hd.len]
    have hBx:=hBt.turn hsgn
    have hda:H5' d.a=some (.tup (d.sg.map V.int)):=by
     obtain⟨_,_,_,h2,_⟩:=hE.get hdi ‹xs[i]? =some _›
     exact g _ _ h2
    have hdq:H5' d.q=some (.lst (d.sp.map V.int)):=by
     obtain⟨_,_,_,_,h3⟩:=hE.get hdi ‹xs[i]? =some _›
     exact g _ _ h3
    refine z0p (fun σ H'=>∃ab,σ=[some (.int (m:Nat)),some (.ref lw),some (.ref lf),some (.ref an),some (.ref r),some (.ref d.a),some (.ref d.q),some (.ref lb),some (.int sg),some (.ref ab),s10]∧Same H5' H'∧H' ab=some (.lst ((z0F sg t).map V.int))) (fun N' hN'=>?_) ?_
    ·exact⟨_,rfl,_,rfl,an,t,sg,rfl,.inr (SqT.of (g _ _ han)),by rw[hBt.len];lia,hsgn,fun n hn=>z0w (hBt.all n hn) (by lia),fun ab H' hab g' e'=>hN' _ _ ⟨ab,rfl,g',e'⟩⟩
    rintro σ H6 ⟨ab,rfl,g6,eab⟩
    refine z0p (fun σ H'=>Same H6 H'∧((∃q5 sp5,σ=[some (.int (m:Nat)),some (.ref lw),some (.ref lf),some (.ref an),some (.ref r),some (.ref d.a),some (.ref d.q),some (.ref lb),some (.int sg),some (.ref ab),some (.ref q5)]∧H' q5=some (.lst (sp5.map V.int))∧q5≠r∧Win m (bdL ts d.sg++[z0F sg t]) sp5∧∀n∈sp5,intBits n≤Sb m b c)∨(σ=[some (.int (m:Nat)),some (.ref lw),some (.ref lf),some (.ref an),some (.ref r),some (.ref d.a),some (.ref d.q),some (.ref lb),some (.int sg),some (.ref ab),some .non]∧¬Pw m (bdL ts d.sg++[z0F sg t])))) (fun N' hN'=>?_) ?_
    ·refine⟨_,rfl,_,rfl,ab,d.q,z0F sg t,d.sp,m,rfl,eab,g6 _ _ hdq,hBx.len,hd.win.1.1,by lia,fun n hn=>z0w (hBx.all n hn) (by lia),fun n hn=>z0w (hd.bits n hn) (by lia),fun H7 g7=>?_⟩
     refine⟨_,_,rfl,rfl,_,rfl,?_⟩
     refine z3f (fun cc=>?_) (fun cc=>?_)
     ·have hpos:0<hg m (v (z0F sg t)) (v d.sp):=of_decide_eq_true cc
      refine⟨_,rfl,?_⟩
      refine hN' _ _ ⟨g7,.inl ⟨d.q,d.sp,rfl,(g6.trans g7) _ _ hdq,hdq0,⟨hd.win.1,fun b' hb'=>?_⟩,hd.bits⟩⟩
      rcases q0D.mp hb' with h|h
      ·exact hd.win.2 b' h
      ·rw[q0i.mp h];exact hpos
     ·have hle:hg m (v (z0F sg t)) (v d.sp)≤0:=by
          have:¬0<hg m (v (z0F sg t)) (v d.sp):=fun z=>cc (decide_eq_true z)
          lia
      have g67:=g6.trans g7
      refine⟨_,rfl,_,rfl,_,rfl,m,lb,ab,bs,bdL ts d.sg,z0F sg t,d.sp,b,c,rfl,rfl,g67 _ _ elb,hbs.same g67,g7 _ _ eab,hBb,hBx,hlim,by lia,by unfold bdL;rw[List.length_zipWith];lia,hd.win,hle,fun r5 sp5 H8 hr5 g8 er5 hW5 hb5=>?_,fun H8 g8 hno=>?_⟩
      ·exact hN' _ _ ⟨g7.trans g8,.inl ⟨r5,sp5,rfl,er5,fun z=>(by rw[z,g67 _ _ er] at hr5;cases hr5),hW5,hb5⟩⟩
      ·exact hN' _ _ ⟨g7.trans g8,.inr ⟨rfl,hno⟩⟩
    rintro σ H7 ⟨g7,⟨q5,sp5,rfl,eq5,q5r,hW5,hb5⟩|⟨rfl,hno⟩⟩
    ·have g57:=g6.trans g7
     refine⟨_,rfl,_,rfl,?_⟩
     refine z5h ?_
     refine⟨_,rfl,.inl ⟨rfl,_,SqL.of (g57 _ _ er)⟩,_,rfl,_,rfl,z0l (by show 1≤_;decide),fun z1 hz1=>?_⟩
     have g8:=z0e hz1 (.tup [V.int sg])
     have e8:upd H7 z1 (.tup [V.int sg]) z1=some (.tup [V.int sg]):=z0b
     generalize upd H7 z1 (.tup [V.int sg])=H8 at*
     have g58:=g57.trans g8
     refine⟨d.a,z1,_,_,rfl,rfl,SqT.of (g58 _ _ hda),e8,by simp,z0l (by rw[q0a,←hd.len];show _+1≤_;lia),fun p9 H9 g9 e9=>?_⟩
     have e9':H9 p9=some (.tup ((d.sg++[sg]).map V.int)):=by rw[e9,q0p];rfl
     refine⟨_,rfl,z0l (by show 2≤_;decide),fun pA hpA=>?_⟩
     have gA:=z0e hpA (.tup [V.ref p9,V.ref q5])
     have eA:upd H9 pA (.tup [V.ref p9,V.ref q5]) pA=some (.tup [V.ref p9,V.ref q5]):=z0b
     generalize upd H9 pA (.tup [V.ref p9,V.ref q5])=HA at*
     have g5A:=g58.trans (g9.trans gA)
     have erA:=g5A _ _ er
     refine⟨r,_,_,rfl,rfl,erA,z1Z (by lia),?_⟩
     have hnew:LandAt HA ⟨p9,d.sg++[sg],q5,sp5⟩ (.ref pA):=⟨pA,rfl,eA,gA _ _ e9',(g8.trans (g9.trans gA)) _ _ eq5⟩
     refine⟨xs'++[.ref pA],ds'++[⟨p9,d.sg++[sg],q5,sp5⟩],_,_,_,rfl,fun b' o e=>by rw[z0i (z0g e hr0)];exact (g.trans g5A) _ _ e,by rw[z0i lbr];exact g5A _ _ elb,⟨hbs.1,fun k a' t' e1 e2=>by
         have ne:a'≠r:=fun z=>hrb (by rw[←z];exact q0B e1)
         rw[z0i ne];exact g5A _ _ (hbs.2 k a' t' e1 e2)⟩,by rw[z0i zr];exact g5A _ _ e4,z0b,?_,fun d' hd'=>?_,by rw[q0l,q0T];lia,?_⟩
     ·refine Each.snoc ?_ (hnew.put erA q5r)
      have hE5:Each (fun d' x=>LandAt HA d' x∧d'.q≠r) ds' xs':=Each.andL (hE'.imp fun _ _ h=>LandAt.same h g5A) fun d' hd'=>(hG' d' hd').2
      exact hE5.imp fun _ _ h=>h.1.put erA h.2
     ·rcases q0D.mp hd' with h|h
      ·exact hG' d' h
      ·rw[q0i.mp h]
       refine⟨⟨by rw[q0l,q0l,hd.len];rfl,fun y hy=>?_,?_,hb5⟩,q5r⟩
       ·rcases q0D.mp hy with h|h
        ·exact hd.sgn y h
        ·rw[q0i.mp h];exact hsgn
       ·show Win m (bdL (ts++[t]) (d.sg++[sg])) sp5
        rw[z8i hd.len];exact hW5
     ·rw[q0p,hsg,tk2,q0U,q1t (by rw[decide_eq_true_eq,hRe];exact⟨sp5,hW5⟩),List.filter_nil,q1h]
      rfl
    ·have g57:=g6.trans g7
     refine⟨_,rfl,_,rfl,?_⟩
     refine z3t ?_
     refine⟨xs',ds',_,_,_,rfl,g.trans g57,g57 _ _ elb,hbs.same g57,g57 _ _ e4,g57 _ _ er,hE'.imp fun _ _ h=>LandAt.same h g57,hG',by lia,?_⟩
     rw[tk2,q0U,q1u (by rw[decide_eq_true_eq,hRe];exact hno),List.filter_nil,q2c]
     exact hsg
   ·rintro σ H5 ⟨xs',ds',s8,s9,s10,rfl,g,_,_,_,er,hE',hG',hx',hsg⟩
    refine⟨xs',ds',_,_,_,_,_,_,rfl,g,er,hE',hG',by simp at hx';lia,?_⟩
    rw[hsg,tk,q0p,List.flatMap_append]
    congr 1
    show _=([d.sg]:List (List Int)).flatMap (z1q m ts t)
    rw[List.flatMap_cons,List.flatMap_nil,q2c]
    rfl
  ·rintro σ H1 ⟨xs',ds',s5,s6,s7,s8,s9,s10,rfl,g,er,hE',hG',_,hsg⟩
   rw[←hE.length,q0P] at hsg
   exact hN _ _ ⟨xs',ds',_,_,_,_,_,_,rfl,g,er,hE',fun d hd=>(hG' d hd).1,hsg⟩
 clear g0 e0
 rintro σ H1 ⟨xs',ds',s5,s6,s7,s8,s9,s10,rfl,g,er,hE',hG',hsg⟩
 exact⟨_,rfl,q r xs' ds' H1 hr0 g er hE' hG' hsg⟩
end
end L2
namespace L2
open PySem PySem.Spec PyProof.Rows
section
open Fr Wl Rk Pt Ld
open Builtin.Int (intBits)
variable {P:Program}{w:World}{K:PySem.W.Frag}{mg:Str→Option Value}{base:Heap}{f:Addr}{fd:FuncData}
abbrev z2k:Stmt:=top 34
theorem sc_land_spots:z0r ["ways","walls","found","place","numbers"] ["ways","walls"] (z0j z2k):=⟨rfl,rfl,rfl,by decide+kernel,rfl,by decide+kernel,by decide+kernel⟩
def y0w (K:PySem.W.Frag):Sp:=fun vs H Q _=>∃(m:Nat) (lw:Addr) (as:List Addr) (ts:List (List Int)) (b c:Nat),vs=[.int (m:Nat),.ref lw]∧H lw=some (.lst (as.map V.ref))∧TsA H as ts∧(∀u∈ts,Bd m b c u)∧z7q m b c=true∧m≤4∧ts.length≤8∧
 ∀(r:Addr) (xs:List V) (ds:List LandD) (H':Hp),H r=none→Same H H'→H' r=some (.lst xs)→Each (LandAt H') ds xs→(∀d∈ds,z4O m b c ts d)→ds.map LandD.sg=sgN m ts ts.length→Q (.ref r) H'
theorem z5P (T:Txt mg) (F:Fun K "land_spots" "land_spots" z2k f fd) (c_parted:Cal P w K mg base 16 "parted" ["ways","walls","found","numbers"] (z8y K)):FnOk P w K mg base CX0 17 f fd ["ways","walls"] (y0w K):=by
 refine F.ok sc_land_spots (fun vs H Q E h=>?_) (fun cdv A outer s H vs Q E hr h=>?_)
 ·obtain⟨_,_,_,_,_,_,rfl,_⟩:=h;rfl
 obtain⟨m,lw,as,ts,b,c,rfl,hlw,hts,hB,hlim,m4,n8,q⟩:=h
 refine⟨_,(z0c (z0n (i:=2) sc_land_spots.nd rfl (Or.inl rfl) (z0U (z0a (z2e (z0a (z2e z0d) (z0a (z0s z6O (z0s y1h (z0U (z0a z0f z0d)) (pv 0)) (z0U (z0a z0f z0d))) z0d))) z0d)))
  (z0c (z1f PassesOwn.never rfl (z8J (K:=K) rfl rfl T.enumerate (z0a (pv 1) z0d)) (z1c (K:=K) rfl 2 rfl (z0u (z0k (i:=3) sc_land_spots.nd rfl (Or.inl rfl)) (z0u (z0k (i:=4) sc_land_spots.nd rfl (Or.inl rfl)) z0Y))) (z0h (z0n (i:=2) sc_land_spots.nd rfl (Or.inl rfl) (z0q c_parted hr rfl (z0a (pv 0) (z0a (z1l (z2r (K:=K) rfl) (pv 1) z1G (z1F (pv 3))) (z0a (pv 2) (z0a (pv 4) z0d))))))))
  (z0h (z0t (pv 2))))),?_⟩
 refine z0p (fun σ H'=>∃r xs ds,H r=none∧σ=[some (.int (m:Nat)),some (.ref lw),some (.ref r),none,none]∧Same H H'∧H' r=some (.lst xs)∧Each (LandAt H') ds xs∧(∀d∈ds,z4O m b c [] d)∧ds.map LandD.sg=[[]]) (fun N hN=>?_) ?_
 ·refine⟨z0l (by show 0≤_;decide),fun zt hzt=>?_⟩
  have gt:=z0e hzt (.tup [])
  have et:upd H zt (.tup []) zt=some (.tup (([]:List Int).map V.int)):=z0b
  generalize upd H zt (.tup [])=Ht at*
  refine⟨z0l (by show 1≤_;decide),fun z hz=>?_⟩
  have g0:=z0e hz (.lst [V.int 0])
  have e0:upd Ht z (.lst [V.int 0]) z=some (.lst [V.int 0]):=z0b
  generalize upd Ht z (.lst [V.int 0])=H0 at*
  refine⟨_,rfl,z,_,_,rfl,rfl,e0,by lia,by lia,z0l (by rw[q0S];show 1*m≤_;lia),fun z1 hz1=>?_⟩
  rw[q0S,z4Q]
  have g1:=z0e hz1 (.lst ((List.replicate m (0:Int)).map V.int))
  have e1:upd H0 z1 (.lst ((List.replicate m (0:Int)).map V.int)) z1=some (.lst ((List.replicate m (0:Int)).map V.int)):=z0b
  generalize upd H0 z1 (.lst ((List.replicate m (0:Int)).map V.int))=H1 at*
  refine⟨z0l (by show 1≤_;decide),fun z2 hz2=>?_⟩
  have g2:=z0e hz2 (.lst [V.int 1])
  have e2:upd H1 z2 (.lst [V.int 1]) z2=some (.lst [V.int 1]):=z0b
  generalize upd H1 z2 (.lst [V.int 1])=H2 at*
  refine⟨z1,z2,_,_,rfl,rfl,g2 _ _ e1,e2,z0l (by rw[q0a,List.length_replicate];show m+1≤_;lia),fun z3 hz3=>?_⟩
  have ez:(List.replicate m (0:Int)).map V.int++[V.int 1]=(z2x m).map V.int:=by unfold z2x;rw[List.map_append];rfl
  rw[ez]
  have g3:=z0e hz3 (.lst ((z2x m).map V.int))
  have e3:upd H2 z3 (.lst ((z2x m).map V.int)) z3=some (.lst ((z2x m).map V.int)):=z0b
  generalize upd H2 z3 (.lst ((z2x m).map V.int))=H3 at*
  refine⟨z0l (by show 2≤_;decide),fun z4 hz4=>?_⟩
  have g4:=z0e hz4 (.tup [V.ref zt,V.ref z3])
  have e4:upd H3 z4 (.tup [V.ref zt,V.ref z3]) z4=some (.tup [V.ref zt,V.ref z3]):=z0b
  generalize upd H3 z4 (.tup [V.ref zt,V.ref z3])=H4 at*
  refine⟨z0l (by show 1≤_;decide),fun z5 hz5=>?_⟩
  have g5:=z0e hz5 (.lst [V.ref z4])
  have g04:Same H H4:=gt.trans (g0.trans (g1.trans (g2.trans (g3.trans g4))))
  refine hN _ _ ⟨z5,[V.ref z4],[⟨zt,[],z3,z2x m⟩],g04.free hz5,rfl,g04.trans g5,z0b,.cons ⟨z4,rfl,g5 _ _ e4,(g0.trans (g1.trans (g2.trans (g3.trans (g4.trans g5))))) _ _ et,(g4.trans g5) _ _ e3⟩ .nil,fun d hd=>?_,rfl⟩
  rw[q0i.mp hd]
  exact⟨rfl,(fun x hx=>by cases hx),⟨z6n m,fun b' hb'=>by unfold bdL at hb';simp at hb'⟩,fun n hn=>z0w (z4R m n hn) (y4u _ _ _)⟩
 rintro σ H0 ⟨r0,xs0,ds0,hr0,rfl,g0,e0,hE0,hG0,hs0⟩
 refine z0p (fun σ H'=>∃r xs ds s3 s4,H r=none∧σ=[some (.int (m:Nat)),some (.ref lw),some (.ref r),s3,s4]∧Same H H'∧H' r=some (.lst xs)∧Each (LandAt H') ds xs∧(∀d∈ds,z4O m b c ts d)∧ds.map LandD.sg=sgN m ts ts.length) (fun N hN=>?_) ?_
 ·refine⟨_,rfl,lw,_,rfl,g0 _ _ hlw,?_⟩
  refine z0I (z6G K lw (as.map V.ref)) (fun i σ H'=>∃r xs ds s3 s4,H r=none∧σ=[some (.int (m:Nat)),some (.ref lw),some (.ref r),s3,s4]∧Same H H'∧H' r=some (.lst xs)∧Each (LandAt H') ds xs∧(∀d∈ds,z4O m b c (ts.take i) d)∧ds.map LandD.sg=sgN m ts i)
   ⟨r0,xs0,ds0,_,_,hr0,rfl,g0,e0,hE0,hG0,hs0⟩ (fun i σ H' _ h=>by obtain⟨_,_,_,_,_,_,_,g,_⟩:=h;exact SqL.of (g _ _ hlw)) ?_ ?_
  ·clear e0 g0 hr0 hE0 hG0 hs0
   rintro i x σ H1 H2 hi ⟨r,xs,ds,s3,s4,hr1,rfl,g,er,hE,hG,hsg⟩ ⟨pr,vv,rfl,hpr,hvv,rfl⟩
   rw[q0a,hts.1] at hi
   rw[q0g] at hvv
   obtain⟨a,ha,rfl⟩:=q0r.mp hvv
   have et:ts[i]? =some (ts.getD i []):=by rw[q0b,q0c hi];rfl
   have tk:ts.take (i+1)=ts.take i++[ts.getD i []]:=by rw[q0E,et];rfl
   have esg:sgN m ts (i+1)=(sgN m ts i).flatMap (z1q m (ts.take i) (ts.getD i [])):=rfl
   generalize ts.getD i []=t at et tk esg
   have g2:=z0e hpr (.tup [.int i,.ref a])
   have ep:upd H1 pr (.tup [.int i,.ref a]) pr=some (.tup [.int i,.ref a]):=z0b
   generalize upd H1 pr (.tup [.int i,.ref a])=H2 at*
   have gg2:=g.trans g2
   refine⟨pr,_,rfl,SqT.of ep,rfl,_,_,rfl,_,_,rfl,rfl,?_⟩
   refine⟨_,rfl,_,rfl,_,rfl,_,rfl,lw,_,rfl,SqL.of (gg2 _ _ hlw),fun p1 hp1=>?_⟩
   rw[z9n (by lia) (by rw[q0a,hts.1];lia),q0S,←List.map_take]
   have g4:=z0e hp1 (.lst ((as.take i).map V.ref))
   have e4:upd H2 p1 (.lst ((as.take i).map V.ref)) p1=some (.lst ((as.take i).map V.ref)):=z0b
   generalize upd H2 p1 (.lst ((as.take i).map V.ref))=H4 at*
   have gg4:=gg2.trans g4
   have g24:=g2.trans g4
   have hts4:TsA H4 (as.take i) (ts.take i):=⟨by rw[q0q,q0q,hts.1],fun j a' t' e1 e2=>by
        have hj:j<i:=by
         have:=(q0y.mp e2).1
         rw[q0q] at this;lia
        rw[q1B hj] at e1 e2
        exact gg4 _ _ (hts.2 j a' t' e1 e2)⟩
   have dl:ds.length≤1000:=by
        have h1:=z7B m ts i
        rw[←hsg,q0a] at h1
        exact q0m h1 (q0m (q1Y (by decide) (show i≤8 by lia)) (by decide))
   refine⟨_,rfl,_,rfl,m,p1,r,a,as.take i,ts.take i,xs,ds,t,b,c,rfl,e4,hts4,g24 _ _ er,hE.imp fun _ _ h=>LandAt.same h g24,gg4 _ _ (hts.2 i a t ha et),fun u hu=>?_,hG,hlim,m4,by rw[q0q];lia,dl,fun r5 xs5 ds5 H5 hr5 g5 er5 hE5 hG5 hs5=>?_⟩
   ·rw[←tk] at hu;exact hB u (q1D hu)
   ·refine⟨r5,xs5,ds5,_,_,gg4.free hr5,rfl,gg4.trans g5,er5,hE5,by rw[tk];exact hG5,?_⟩
    rw[hs5,hsg,esg]
  ·rintro σ H1 ⟨r,xs,ds,s3,s4,hr1,rfl,g,er,hE,hG,hsg⟩
   rw[q0a,hts.1] at hG hsg
   rw[q0P] at hG
   exact hN _ _ ⟨r,xs,ds,_,_,hr1,rfl,g,er,hE,hG,hsg⟩
 clear e0 g0 hr0 hE0 hG0 hs0
 rintro σ H1 ⟨r,xs,ds,s3,s4,hr1,rfl,g,er,hE,hG,hsg⟩
 exact⟨_,rfl,q r xs ds H1 hr1 g er hE hG hsg⟩
end
end L2
namespace L2
open PySem PySem.Spec PyProof.Rows
section
open Fr Wl Rk Pt Fc
open Builtin.Int (intBits)
variable {P:Program}{w:World}{K:PySem.W.Frag}{mg:Str→Option Value}{base:Heap}{f:Addr}{fd:FuncData}
def kyL (t:List Int):List Key:=t.map Sum.inl
theorem y1F (t:List Int):(kyL t).map kV=t.map V.int:=by unfold kyL;rw[List.map_map];rfl
theorem y5o {a b:List Int} (h:kyL a=kyL b):a=b:=List.map_inj_right (fun x y h=>by injection h) |>.mp h
def y0l (L:List (List Int)):List (List Key×V):=L.map fun t=>(kyL t,V.bl true)
theorem y2Y (L:List (List Int)) (t:List Int):z9G (y0l L) (kyL t) (.bl true)=y0l (if t∈L then L else L++[t]):=by
 unfold z9G
 have ha:((y0l L).any fun kv=>decide (kv.1=kyL t))=decide (t∈L):=by
  unfold y0l
  rw[List.any_map]
  rw[q1v,q1n,decide_eq_true_iff]
  constructor
  ·rintro⟨x,hx,h⟩
   have:kyL x=kyL t:=of_decide_eq_true h
   rw[←y5o this];exact hx
  ·intro h
   exact⟨t,h,decide_eq_true rfl⟩
 rw[ha]
 by_cases h:t∈L
 ·rw[if_pos h,if_pos (decide_eq_true h)]
  unfold y0l
  rw[q0x]
  refine q1d fun x _=>?_
  show (if kyL x=kyL t then (kyL x,V.bl true) else (kyL x,V.bl true))=_
  split<;>rfl
 ·rw[if_neg h,if_neg (by rw[decide_eq_false h];decide)]
  unfold y0l
  rw[q0p];rfl
theorem y0o (F:List Int→Option (List Int)) (ts:List (List Int)) (u:List Int):wd F (ts++[u])=match F u with|none=>wd F ts|some d=>if d∈wd F ts then wd F ts else wd F ts++[d]:=by
 unfold wd
 rw[List.filterMap_append]
 cases hF:F u with
 |none=>simp[hF]
 |some d=>rw[show [u].filterMap F=[d] by simp[hF],y5x]
abbrev z1D:Stmt:=top 19
theorem sc_walls_within:z0r ["rows","walls","met","numbers","rest"] ["rows","walls"] (z0j z1D):=⟨rfl,rfl,rfl,by decide+kernel,rfl,by decide+kernel,by decide+kernel⟩
def z8w (K:PySem.W.Frag):Sp:=fun vs H Q _=>∃(l b:Addr) (cs as:List Addr) (us ts:List (List Int)) (m bx br:Nat),vs=[.ref l,.ref b]∧H l=some (.lst (cs.map V.ref))∧TsA H cs us∧H b=some (.lst (as.map V.ref))∧TsA H as ts∧ts.length≤100∧m≤6∧us.length≤8∧Rws m us∧(∀t∈us,∀n∈t,intBits n≤br)∧(∀u∈ts,u.length=m+1∧∀n∈u,intBits n≤bx)∧br≤9000∧(∀i,i<us.length→bx+i*(br+1)≤20000)∧(us.length<m→bx+us.length*(br+1)≤9000)∧
 ∀(r:Addr) (bs:List Addr) (H':Hp),H r=none→Same H H'→H' r=some (.lst (bs.map V.ref))→TsA H' bs (inW m us ts)→Q (.ref r) H'
theorem z4m (T:Txt mg) (F:Fun K "walls_within" "walls_within" z1D f fd) (c_drawn:Cal P w K mg base 4 "drawn" ["rows","numbers"] (z3G K)) (c_wall:Cal P w K mg base 4 "wall" ["numbers"] (y0v K)):FnOk P w K mg base CX0 5 f fd ["rows","walls"] (z8w K):=by
 refine F.ok sc_walls_within (fun vs H Q E h=>?_) (fun cdv A outer s H vs Q E hr h=>?_)
 ·obtain⟨_,_,_,_,_,_,_,_,_,rfl,_⟩:=h;rfl
 obtain⟨l,b,cs,as,us,ts,m,bx,br,rfl,hl,hcs,hb,hts,t100,m6,u8,hR,zt,zu,b9,hbi,hb9,q⟩:=h
 refine⟨_,(z0c (z0n (i:=2) sc_walls_within.nd rfl (Or.inl rfl) y3h)
  (z0c (z1f PassesOwn.never rfl (z0E (K:=K) rfl (pv 1)) (z0k (i:=3) sc_walls_within.nd rfl (Or.inl rfl)) (z0c (z0n (i:=4) sc_walls_within.nd rfl (Or.inl rfl) (z0q c_drawn hr rfl (z0a (pv 0) (z0a (pv 3) z0d))))
  (z0h (z0S (z2V (z0A (z3e (K:=K) rfl rfl) rfl T.any boot_any (z0a (z1l (z5w (K:=K) rfl) (pv 4) z1G (z1F (z1O z1d z0f))) z0d))) (z0h (y4X (hu_of hr) (pv 2) (z0q c_wall hr rfl (z0a (pv 4) z0d)) z4I rfl)) z0y))))
  (z0h (z0t (z0J (y0e rfl) rfl T.list boot_list (z0a (pv 2) z0d)))))),?_⟩
 refine fun d hd=>?_
 have g0:=z0e hd (.dT [])
 have e0:upd H d (.dT []) d=some (.dT (y0l (inW m us ([]:List (List Int))))):=z0b
 generalize upd H d (.dT [])=H0 at*
 refine⟨_,rfl,b,rfl,⟨_,SqL.of (g0 _ _ hb)⟩,?_⟩
 refine z0I (z0B K b (as.map V.ref)) (fun i σ H'=>∃(s3 s4:Option V),σ=[some (.ref l),some (.ref b),some (.ref d),s3,s4]∧H' d=some (.dT (y0l (inW m us (ts.take i))))∧Same H H')
  ⟨_,_,rfl,e0,g0⟩ (fun i σ H' _ h=>by obtain⟨_,_,_,_,g⟩:=h;exact SqL.of (g _ _ hb)) ?_ ?_
 ·clear e0
  rintro i x σ H1 H2 hi ⟨s3,s4,rfl,ed,g⟩ ⟨rfl,hx⟩
  rw[q0a,hts.1] at hi
  rw[q0g] at hx
  obtain⟨c,hc,rfl⟩:=q0r.mp hx
  have et:ts[i]? =some ts[i]:=q0c hi
  have hum:ts[i]∈ts:=q0w hi
  have tk:ts.take (i+1)=ts.take i++[ts[i]]:=by rw[q0E,et];rfl
  generalize ts[i]=u at et hum tk
  obtain⟨ul,ub⟩:=zu u hum
  have hlen:(inW m us (ts.take i)).length ≤(ts.take i).length :=z8p (drG m us) (ts.take i)
  rw[q0q] at hlen
  refine⟨_,rfl,_,rfl,l,c,cs,us,u,m,bx,br,rfl,g _ _ hl,⟨hcs.1,fun i a t e1 e2=> .inr (SqT.of (g _ _ (hcs.2 i a t e1 e2)))⟩,.inr (SqT.of (g _ _ (hts.2 i c u hc et))),ul,by lia,u8,fun t ht=>⟨(hR.row t ht).1,hR.nz ht,zt t ht⟩,ub,b9,hbi,fun r H3 _ zb g3 er=>?_⟩
  have ed3:=g3 _ _ ed
  have dl:=z4z hR u
  obtain⟨ns,last,ens⟩:∃ns last,drL m us u=ns++[last]:=⟨(drL m us u).dropLast,(drL m us u).getLast (fun z=>by rw[z] at dl;simp at dl),(q0X _).symm⟩
  have er':H3 r=some (.lst (ns.map V.int++[V.int last])):=by rw[er,ens,q0p];rfl
  refine⟨_,rfl,_,rfl,_,rfl,z5v (b:=true) (xs:=ns.map V.int) (v:= .int last) (SqL.of er') fun q0 H4 g4 hq0=>?_⟩
  refine⟨q0,_,rfl,hq0,z2t ns,_,rfl,?_⟩
  have gg:=g.trans (g3.trans g4)
  have ed4:=g4 _ _ ed3
  have hdl:(drL m us u).dropLast =ns:=by rw[ens,List.dropLast_concat]
  by_cases hnz:∃n∈ns,n≠0
  ·rw[(z2d ns).mpr hnz]
   refine z5h ?_
   have hF:drG m us u=some (z0m (ns++[last])):=by
        unfold drG
        rw[hdl,if_pos (by rw[q1n];obtain⟨n,h1,h2⟩:=hnz;exact⟨n,h1,by simpa using h2⟩),ens]
   have e4:=g4 _ _ er
   refine⟨_,rfl,_,rfl,r,ns,last,rfl,.inl (SqL.of (by rw[e4,ens])),by rw[←ens];lia,fun n hn=>q0m (zb n (by rw[ens];exact hn)) (hb9 (by have:0<ns.length:=(let ⟨_,h,_⟩:=hnz;List.length_pos_of_mem h);have:=congrArg List.length ens;rw[dl,q0l,q0T] at this;lia)),hnz,fun tt H5 g5 e5=>?_⟩
   refine⟨d,_,rfl,DPut.t (k:=kyL (z0m (ns++[last]))) (g5 _ _ ed4) (by rw[y1F];exact e5) (z1Z (by unfold y0l;rw[List.length_map];lia)),?_⟩
   refine⟨_,_,rfl,?_,fun b o e=>by rw[z0i (z0g e hd)];exact (gg.trans g5) _ _ e⟩
   rw[z0b,y2Y,tk]
   unfold inW
   rw[y0o,hF]
  ·have h0:(ns.map V.int).any trV=false:=by
        cases z:(ns.map V.int).any trV with
        |false=>rfl
        |true=>exact absurd ((z2d ns).mp z) hnz
   rw[h0]
   refine z3t ?_
   have hF:drG m us u=none:=by
        unfold drG
        rw[hdl,if_neg]
        intro z
        obtain⟨n,h1,h2⟩:=q1n.mp z
        exact hnz ⟨n,h1,by simpa using h2⟩
   refine⟨_,_,rfl,?_,gg⟩
   rw[tk]
   unfold inW at ed4 ⊢
   rw[y0o,hF]
   exact ed4
 ·rintro σ H1 ⟨s3,s4,rfl,ed,g⟩
  rw[q0a,hts.1,q0P] at ed
  have hlen:(inW m us ts).length ≤ts.length:=z8p (drG m us) ts
  refine⟨_,rfl,d,_,rfl,ed,by unfold y0l;rw[List.length_map];lia,fun r bs hr1 hbl hb=>?_⟩
  have g2:=z0e hr1 (.lst (bs.map V.ref))
  refine q r bs _ (g.free hr1) (g.trans g2) z0b ⟨by rw[hbl];unfold y0l;rw[List.length_map],fun i b t e1 e2=>?_⟩
  have z:=hb i b (kyL t) (.bl true) e1 (by unfold y0l;rw[List.getElem?_map,e2];rfl)
  rw[y1F] at z
  exact g2 _ _ z
end
end L2
namespace L2
open PySem PySem.Spec PyProof.Rows
section
open Fr Wl Rk
open Builtin.Int (intBits)
variable {P:Program}{w:World}{K:PySem.W.Frag}{mg:Str→Option Value}{base:Heap}{f:Addr}{fd:FuncData}
theorem z6v {rs:List Int} (h:0<rs.length):∃ns last,rs=ns++[last]:=⟨rs.dropLast,rs.getLast (fun z=>by rw[z] at h;simp at h),(q0X _).symm⟩
theorem z8d {m:Nat}:∀(l:List Nat) (k:Nat),l.Pairwise (· < ·)→(∀x∈l,k≤x∧x<m)→l.length≤m - k
 |[],_,_,_=>Nat.zero_le _
 |x::l,k,hp,h=>by
  have hx:=h x q0j
  have:=z8d l (x+1) (q1i.mp hp).2 fun y hy=>⟨(q1i.mp hp).1 y hy,(h y (q0h _ hy)).2⟩
  rw[q0u]
  lia
theorem Rk.Rws.len {m:Nat}{us:List (List Int)} (h:Rws m us):us.length≤m:=by
 have:=z8d (m:=m) (us.map fp) 0 (by rw[q0Y];exact h.up) fun x hx=>by
  obtain⟨t,ht,rfl⟩:=q0f.mp hx
  exact⟨q0K _,(h.row t ht).2.1⟩
 rw[q0a] at this
 exact this
def bnJ (B:Nat):Nat→Nat
 |0=>0
 |k+1=>bnJ B k+(B+k*(bnJ B k+1))+1
theorem bnJ3 {B k:Nat} (hB:B≤130) (hk:k≤3):bnJ B k≤1315:=by
 rcases (by lia:k=0∨k=1∨k=2∨k=3) with e|e|e|e<;>subst e<;>simp only[bnJ]<;>lia
theorem bnJ4 {B k:Nat} (hB:B≤130) (hk:k≤4):bnJ B k≤5394:=by
 rcases (by lia:k=0∨k=1∨k=2∨k=3∨k=4) with e|e|e|e|e<;>subst e<;>simp only[bnJ]<;>lia
def z5s (K:PySem.W.Frag):Sp:=fun vs H Q _=>∃(l p:Addr) (b:Bool) (bs:List Addr) (us:List (List Int)) (xs:List Int) (m B:Nat),vs=[.ref l,.ref p]∧SqB b K H l (bs.map V.ref)∧TsA H bs us∧H p=some (.tup (xs.map V.int))∧xs.length=m+1∧m≤4∧B≤130∧(∀n∈xs,intBits n≤B)∧Rws m us∧(∀t∈us,∀n∈t,intBits n≤bnJ B us.length)∧
 (∀(r:Addr) (bs':List Addr) (us':List (List Int)) (H':Hp),H r=none→Same H H'→H' r=some (.lst (bs'.map V.ref))→TsA H' bs' us'→Rws m us'→(∀t∈us',∀n∈t,intBits n≤bnJ B us'.length)→In (us'.map v)=In (v xs::us.map v)→Q (.ref r) H')∧
 (∀H',Same H H'→(∃z,In (v xs::us.map v) z∧(∀j,j<m→z j=0)∧z m≠0)→Q .non H')
theorem z9f {m j:Nat}:∀(l:List Nat) (k:Nat),l.Pairwise (· < ·)→(∀x∈l,k≤x∧x<m)→j∉l→k≤j→j<m→l.length+1≤m - k
 |[],k,_,_,_,h1,h2=>by rw[List.length_nil];lia
 |x::l,k,hp,h,hj,h1,h2=>by
  have hx:=h x q0j
  have hne:x≠j:=fun e=>hj (by rw[e];exact q0j)
  have low:=(q1i.mp hp).1
  rw[q0u]
  by_cases hlt:x<j
  ·have:=z9f (m:=m) (j:=j) l (x+1) (q1i.mp hp).2 (fun y hy=>⟨low y hy,(h y (q0h _ hy)).2⟩) (fun z=>hj (q0h _ z)) (by lia) h2
   lia
  ·have:=z8d (m:=m) l (x+1) (q1i.mp hp).2 fun y hy=>⟨low y hy,(h y (q0h _ hy)).2⟩
   lia
theorem Rk.Rws.lt {m:Nat}{us:List (List Int)} (h:Rws m us) {y:List Int} (h0:∀t∈us,v y (fp t)=0) {j:Nat} (hj:j<m) (hn:v y j≠0):us.length+1≤m:=by
 have:=z9f (m:=m) (j:=j) (us.map fp) 0 (by rw[q0Y];exact h.up) (fun x hx=>by
  obtain⟨t,ht,rfl⟩:=q0f.mp hx
  exact⟨q0K _,(h.row t ht).2.1⟩) (fun hx=>by
  obtain⟨t,ht,e⟩:=q0f.mp hx
  exact hn (by rw[←e];exact h0 t ht)) (q0K _) hj
 rw[q0a] at this
 lia
theorem z5b {rs:List Int}{k:Nat} (h:∃n∈rs,n≠0) (hb:∀n∈rs,intBits n≤k):∀n∈z0m rs,intBits n≤k:=fun n hn=>by
 unfold z0m at hn
 obtain⟨x,hx,rfl⟩:=q0f.mp hn
 exact intBits_le_of_natAbs (z2b (z3x hx) (z2g h)) (hb x hx)
theorem y3f {α β:Type}{g:α→β}{l2:List α}{l:List β} (h:l.Perm (l2.map g)):∃l':List α,l'.Perm l2∧l=l'.map g:=by
 have base:∀l2:List α,Paired (fun a b=>b=g a) l2 (l2.map g):=fun l2=>by
  induction l2 with
  |nil=>exact .nil
  |cons a l ih=>exact .cons rfl ih
 obtain⟨l',h1,h2⟩:=z4k h (base l2)
 refine⟨l',h1,?_⟩
 clear h h1 base
 induction h2 with
 |nil=>rfl
 |cons e _ ih=>rw[List.map_cons,e,ih]
theorem y5L {H:Hp}{as:List Addr}{ts:List (List Int)} (h:TsA H as ts) {c:List Int×Addr} (hc:c∈ts.zip as):H c.2=some (.tup (c.1.map V.int)):=by
 obtain⟨i,hi,e⟩:=q0C.mp hc
 rw[q0I] at hi
 rw[q2g] at e
 have e1:ts[i]=c.1:=congrArg Prod.fst e
 have e2:as[i]'(by lia)=c.2:=congrArg Prod.snd e
 exact h.2 i c.2 c.1 (by rw[q0c (by lia),e2]) (by rw[q0c (by lia),e1])
theorem ts_of {H:Hp}{zs:List (List Int×Addr)} (h:∀c∈zs,H c.2=some (.tup (c.1.map V.int))):TsA H (zs.map Prod.snd) (zs.map Prod.fst):=by
 refine⟨by rw[q0a,q0a],fun i a t e1 e2=>?_⟩
 rw[q0g] at e1 e2
 obtain⟨c,hc,rfl⟩:=q0r.mp e1
 rw[hc] at e2
 cases e2
 exact h c (q0B hc)
theorem y2m {H1 H':Hp}{r:List Int}{as:List Addr}{ts:List (List Int)}{us:List V} (h:TsA H1 as ts) (e:Each (fun x u=>∃(a:Addr) (t:List Int) (p:Addr),x=V.ref a∧u=V.ref p∧H1 a=some (.tup (t.map V.int))∧H' p=some (.tup ((z2z r t).map V.int))) (as.map V.ref) us):∃as',us=as'.map V.ref∧TsA H' as' (ts.map (z2z r)):=by
 induction us generalizing as ts with
 |nil=>
  have:=e.length
  rw[q0a] at this
  have h0:as=[]:=q1b.mp this
  subst h0
  have h1:ts=[]:=q1b.mp (by rw[←h.1];rfl)
  subst h1
  exact⟨[],rfl,TsA.nil⟩
 |cons u us ih=>
  cases as with
  |nil=>cases e
  |cons a as=>
   cases ts with
   |nil=>have:=h.1;simp at this
   |cons t ts=>
    cases e with
    |cons e1 e2=>
     obtain⟨b,t',p,hb,rfl,h1,h2⟩:=e1
     cases hb
     have ht:=h.2 0 a t rfl rfl
     rw[ht] at h1
     have et:t=t':=by
      have z:t.map V.int=t'.map V.int:=by injection h1 with z;injection z
      exact List.map_inj_right (fun x y h=>by injection h) |>.mp z
     subst et
     obtain⟨as',rfl,hh⟩:=ih ⟨by simpa using h.1,fun i b u e1 e2=>h.2 (i+1) b u (by simpa using e1) (by simpa using e2)⟩ e2
     refine⟨p::as',rfl,by simp[hh.1],fun i b u e1 e2=>?_⟩
     cases i with
     |zero=>cases e1;cases e2;exact h2
     |succ i=>exact hh.2 i b u (by simpa using e1) (by simpa using e2)
theorem y5S {b:Bool}{K:PySem.W.Frag}{H:Hp}{a:Addr}{xs:List V} (h:SqB b K H a xs):SqL K H a xs∨SqT K H a xs:=by
 cases b with
 |true=>exact .inl h
 |false=>exact .inr h
abbrev z5D:Stmt:=top 20
theorem sc_joined:z0r ["rows","numbers","rest","added","kept"] ["rows","numbers"] (z0j z5D):=⟨rfl,rfl,rfl,by decide+kernel,rfl,by decide+kernel,by decide+kernel⟩
theorem y1o (T:Txt mg) (F:Fun K "joined" "joined" z5D f fd) (c_rest_by:Cal P w K mg base 4 "rest_by" ["rows","numbers"] (y3M K)) (c_wall:Cal P w K mg base 4 "wall" ["numbers"] (y0v K)) (c_cleared:Cal P w K mg base 4 "cleared" ["numbers","row"] (z3Y K)) (c_first_place:Cal P w K mg base 2 "first_place" ["row"] (z2j K)):FnOk P w K mg base CX0 5 f fd ["rows","numbers"] (z5s K):=by
 refine F.ok sc_joined (fun vs H Q E h=>?_) (fun cdv A outer s H vs Q E hr h=>?_)
 ·obtain⟨_,_,_,_,_,_,_,_,rfl,_⟩:=h;rfl
 obtain⟨l,p,b,bs,us,xs,m,B,rfl,hl,htu,hp,hlx,m4,hB,zx,hR,zb,q1,q2⟩:=h
 refine⟨_,(z0c (z0n (i:=2) sc_joined.nd rfl (Or.inl rfl) (z0q c_rest_by hr rfl (z0a (pv 0) (z0a (pv 1) z0d))))
  (z0c (z0S (z2V (z0A (z3e (K:=K) rfl rfl) rfl T.any boot_any (z0a (z1l (z5w (K:=K) rfl) (pv 2) z1G (z1F (z1O z1d z0f))) z0d))) (z0c (z0n (i:=3) sc_joined.nd rfl (Or.inr rfl) (z0q c_wall hr rfl (z0a (pv 2) z0d)))
  (z0c (z3o (jj:=4) rfl sc_joined.nd rfl (Or.inl rfl) (Or.inl rfl) (Nc:=["row","added"]) (fr:=[none,some 3]) rfl (z2W (K:=K) rfl (pv 0)) rfl (by decide) rfl (by decide) rfl ⟨rfl,trivial⟩ ⟨⟨rfl,rfl,rfl,rfl⟩,trivial⟩ (fun _ _ _ _=>(z0k (i:=0) (show List.Nodup (["row","added"]:List Str) from by decide) rfl (Or.inl rfl))) (fun _ _ _ _=>z0H) (fun _ _ _ _=>(z0q c_wall hr rfl (z0a (z0q c_cleared hr rfl (z0a (pv 0) (z0a (pv 1) z0d))) z0d))))
  (z0h (z0t (y3g c_first_place hr rfl T.sorted rfl (z0s z6O (pv 4) (z0U (z0a (pv 3) z0d)))))))) z0y)
  (z0c (z0S (z0v z3q (z0T (z0x (K:=K) rfl) (pv 2) (z1O z1d z0f) (fun _ _=>rfl)) z0f (z0D _)) (z0h (z0t (z0J (z1S (K:=K) rfl) rfl T.list boot_list (z0a (pv 0) z0d)))) z0y)
  (z0h (z0t z5d))))),?_⟩
 have ul:=hR.len
 have b4:bnJ B us.length≤5394:=bnJ4 hB (by lia)
 obtain⟨rl,rz,_⟩:=hR.rest hlx
 refine⟨_,rfl,_,rfl,l,p,b,bs,us,xs,B,bnJ B us.length,rfl,hl,htu,.inr (SqT.of hp),by lia,by lia,fun t ht=>⟨by rw[(hR.row t ht).1,hlx],hR.nz ht,zb t ht⟩,zx,by lia,fun i hi=>?_,fun r H1 zr lr g1 er=>?_⟩
 ·have:i*(bnJ B us.length+1)≤3*(bnJ B us.length+1):=Nat.mul_le_mul_right _ (by lia)
  lia
 have hoff:=hR.off_all hlx
 have hsame:=hR.same hlx
 have hmore:=fun us'=>hR.more (us':=us') hlx
 generalize us.foldl z0o xs=rs at*
 obtain⟨ns,last,ers⟩:=z6v (rs:=rs) (by lia)
 have nl:ns.length=m:=by rw[ers,q0l] at rl;simpa using rl
 have vns:∀j,j<m→v rs j=v ns j:=fun j hj=>by
  show rs.getD j 0=ns.getD j 0
  rw[ers,q0b,q0b,q1e (by lia)]
 have vl:v rs m=last:=by
  show rs.getD m 0=last
  rw[ers,q0b,q0R (by lia),nl,Nat.sub_self];rfl
 have er':H1 r=some (.lst ((ns++[last]).map V.int)):=by rw[←ers];exact er
 refine⟨_,rfl,_,rfl,_,rfl,z5v (b:=true) (xs:=ns.map V.int) (v:= .int last) (by have z:=er';rw[q0p] at z;exact SqL.of z) fun q0 H2 g2 hq0=>?_⟩
 refine⟨q0,_,rfl,hq0,z2t ns,_,rfl,?_⟩
 have g12:=g1.trans g2
 by_cases hnz:∃n∈ns,n≠0
 ·rw[(z2d ns).mpr hnz]
  refine z5h ?_
  have hnz2:∃n∈rs,n≠0:=let ⟨n,h1,h2⟩:=hnz;⟨n,by rw[ers];exact q0J _ h1,h2⟩
  obtain⟨j,hj,hjn⟩:∃j,j<m∧v rs j≠0:=by
   obtain⟨n,h1,h2⟩:=hnz
   obtain⟨j,hj,e⟩:=q0C.mp h1
   refine⟨j,by lia,?_⟩
   rw[vns j (by lia)]
   show ns.getD j 0≠0
   rw[q0b,q0c hj,e];exact h2
  have u3:=hR.lt rz hj hjn
  have u3':us.length≤3:=by lia
  have bb:bnJ B us.length≤1315:=bnJ3 hB u3'
  have bm:us.length*(bnJ B us.length+1)≤3*(bnJ B us.length+1):=Nat.mul_le_mul_right _ u3'
  have zr3:∀n∈rs,intBits n≤B+us.length*(bnJ B us.length+1):=zr
  refine⟨_,rfl,r,ns,last,rfl,.inl (SqL.of (g2 _ _ er')),by rw[←ers];lia,fun n hn=>q0m (zr3 n (by rw[ers];exact hn)) (by lia),hnz,fun t H3 g3 et=>?_⟩
  rw[←ers] at et
  have za:=z5b hnz2 zr3
  have na:=z5I hnz2
  have la:(z0m rs).length =m+1:=by rw[Rk.plain_len,rl]
  have hmr:=fun us' hp hs=>hmore us' ⟨j,hj,hjn⟩ hp hs
  have zra:∀u∈us,v (z0m rs) (fp u)=0:=fun u hu=>(z1j hnz2 _).mpr (rz u hu)
  have afp:fp (z0m rs)<m:=by
   rw[z6f hnz2]
   exact q0H fun hc=>hjn (z1k (by lia))
  have g123:=g12.trans g3
  have hl3:=hl.same g123
  refine⟨_,rfl,l,b,_,rfl,hl3,fun D hD=>?_⟩
  refine z7e rfl (z1V K b l (bs.map V.ref)) hD (fun _=>true) (fun H' x u=>∃(a:Addr) (t':List Int) (q':Addr),x=V.ref a∧u=V.ref q'∧H3 a=some (.tup (t'.map V.int))∧H' q'=some (.tup ((z2z (z0m rs) t').map V.int))) ?_ (fun H' g'=>hl3.same g') (z0l (by rw[q0a,htu.1];lia)) ?_ ?_ ?_
  ·rintro H4 H5 x u k ⟨acc,hd⟩ ⟨a,t',q',e1,e2,e3,e4⟩
   exact⟨a,t',q',e1,e2,e3,k _ _ (fun z=>by rw[z,hd] at e4;cases e4) e4⟩
  ·intro x hx Hc gc S h
   exact h _ (Same.refl _)
  ·intro x hx _ Hc gc S h
   obtain⟨a,ha,rfl⟩:=q0f.mp hx
   obtain⟨i,hi,rfl⟩:=q0C.mp ha
   have hi2:i<us.length:=by rw[←htu.1];exact hi
   have hc:=g123 _ _ (htu.2 i _ _ (q0c hi) (q0c hi2))
   have htm:us[i]∈us:=q0w hi2
   generalize us[i]=t' at hc htm
   obtain⟨y1,y2,y3⟩:=hR.row t' htm
   have kn:v (z0o t' (z0m rs)) (fp t')≠0:=by
     rw[z2o (by rw[y1,la]),zra t' htm,q0W,Int.sub_zero]
     exact q1m (z6L na) (z1Q (hR.nz htm))
   have cl:(z0o t' (z0m rs)).length =m+1:=by rw[z1b (by rw[y1,la]),y1]
   refine⟨_,rfl,_,rfl,_,t,t',z0m rs,bnJ B us.length,B+us.length*(bnJ B us.length+1),rfl,.inr (SqT.of (gc _ _ hc)),.inr (SqT.of (gc _ _ et)),by rw[y1,la],by lia,zb t' htm,za,by lia,by lia,na,fun l2 H4 z4 g4 e4=>?_⟩
   obtain⟨ns2,last2,ec⟩:=z6v (rs:=z0o t' (z0m rs)) (by lia)
   have n2l:ns2.length=m:=by rw[ec,q0l] at cl;simpa using cl
   have nz2:∃n∈ns2,n≠0:=by
     refine z1Y (j:=fp t') fun z=>kn ?_
     show (z0o t' (z0m rs)).getD (fp t') 0=0
     rw[ec,q0b,q1e (by lia),←q0b]
     exact z
   refine⟨l2,ns2,last2,rfl,.inl (SqL.of (by rw[←ec];exact e4)),by rw[←ec];lia,fun n hn=>q0m (z4 n (by rw[ec];exact hn)) (by lia),nz2,fun t2 H5 g5 e5=>?_⟩
   rw[←ec] at e5
   exact h _ _ (g4.trans g5) ⟨_,t',t2,rfl,rfl,hc,e5⟩
  ·intro ks H4 g4 hD4 he
   rw[z0z] at he
   obtain⟨as',rfl,hts'⟩:=y2m (htu.same g123) he
   have gg4:=g123.trans g4
   refine⟨_,rfl,_,rfl,z0l (by show 1≤_;decide),fun r5 hr5=>?_⟩
   have g5:=z0e hr5 (.lst [V.ref t])
   have e5:upd H4 r5 (.lst [V.ref t]) r5=some (.lst [V.ref t]):=z0b
   generalize upd H4 r5 (.lst [V.ref t])=H5 at*
   refine⟨D,r5,_,_,rfl,rfl,g5 _ _ hD4,e5,z0l (by rw[q0a,hts'.1,q0a];show us.length+1≤16777216;lia),fun r6 hr6=>?_⟩
   have g6:=z0e hr6 (.lst (as'.map V.ref++[V.ref t]))
   have e6:upd H5 r6 (.lst (as'.map V.ref++[V.ref t])) r6=some (.lst ((as'++[t]).map V.ref)):=by rw[z0b,q0p];rfl
   generalize upd H5 r6 (.lst (as'.map V.ref++[V.ref t]))=H6 at*
   have tsA:TsA H6 (as'++[t]) (us.map (z2z (z0m rs))++[z0m rs]):=(hts'.same (g5.trans g6)).snoc ((g4.trans (g5.trans g6)) _ _ et)
   have g46:=g5.trans g6
   generalize hw:us.map (z2z (z0m rs))++[z0m rs]=ws at*
   have wl:ws.length=us.length+1:=by rw[←hw,q0l,q0a];rfl
   have wz:∀u∈ws,(∃n∈u,n≠0)∧u.length=m+1∧∀n∈u,intBits n≤bnJ B (us.length+1):=fun u hu=>by
     rw[←hw] at hu
     rcases q0D.mp hu with hu|hu
     ·obtain⟨t',ht',rfl⟩:=q0f.mp hu
      obtain⟨y1,y2,y3⟩:=hR.row t' ht'
      have kn:v (z0o t' (z0m rs)) (fp t')≠0:=by
         rw[z2o (by rw[y1,la]),zra t' ht',q0W,Int.sub_zero]
         exact q1m (z6L na) (z1Q (hR.nz ht'))
      refine⟨z5I (z1Y kn),?_,?_⟩
      ·unfold z2z;rw[Rk.plain_len,z1b (by rw[y1,la]),y1]
      ·exact z5b (z1Y kn) fun n hn=>q0m (z5n (by rw[y1,la]) na (zb t' ht') za n hn) (by show _≤bnJ B us.length+(B+us.length*(bnJ B us.length+1))+1;lia)
     ·rw[q0i.mp hu]
      exact⟨na,la,fun n hn=>q0m (za n hn) (by show _≤bnJ B us.length+(B+us.length*(bnJ B us.length+1))+1;lia)⟩
   refine⟨r6,_,ws.map (fun u=>((fp u:Nat):Int)),rfl,e6,by rw[q0a,q0a,tsA.1],by rw[q0a,tsA.1,wl];lia,fun i x n hx hn Hk gk=>?_,fun D7 qs H7 hn7 g7 hp7 hw7 e7=>?_⟩
   ·rw[q0g] at hx hn
    obtain⟨a,ha,rfl⟩:=q0r.mp hx
    obtain⟨u,hu,rfl⟩:=q0r.mp hn
    obtain⟨w1,w2,_⟩:=wz u (q0B hu)
    exact⟨a,u,rfl,.inr (SqT.of (gk _ _ (tsA.2 i a u ha hu))),by lia,w1,fun H' g'=>⟨rfl,g'⟩⟩
   ·have ez:(ws.map fun u=>((fp u:Nat):Int)).zip ((as'++[t]).map V.ref)=(ws.zip (as'++[t])).map fun c=>(((fp c.1:Nat):Int),V.ref c.2):=by rw[List.zip_map];rfl
    rw[ez] at hp7
    obtain⟨zs,z1,rfl⟩:=y3f hp7
    have g67:=g46.trans g7
    have p1:(zs.map Prod.fst).Perm ws:=by
     have:=z1.map Prod.fst
     rw[List.map_fst_zip (by rw[tsA.1];exact q0k _)] at this
     exact this
    have o1:(zs.map Prod.fst).Pairwise fun a b=>fp a≤fp b:=by
     rw[q0Y] at hw7 ⊢
     exact hw7.imp fun h=>by dsimp only at h;lia
    obtain⟨m1,m2,m3⟩:=hmr _ p1 o1
    refine q1 D7 (zs.map Prod.snd) (zs.map Prod.fst) H7 (((gg4.trans g46)).free hn7) (gg4.trans g67) ?_ (ts_of fun c hc=>g7 _ _ (y5L tsA (z1.mem_iff.mp hc))) m1 ?_ m2
    ·rw[e7,q0x,q0x];rfl
    ·intro u hu n hn
     rw[q0a] at m3
     rw[q0a,m3]
     exact (wz u (p1.mem_iff.mp hu)).2.2 n hn
 ·have h0:(ns.map V.int).any trV=false:=by
   cases z:(ns.map V.int).any trV with
   |false=>rfl
   |true=>exact absurd ((z2d ns).mp z) hnz
  rw[h0]
  refine z3t ?_
  have z0:∀j,j<m→v rs j=0:=fun j hj=>by
   rw[vns j hj]
   refine q0H fun hc=>hnz (z1Y hc)
  refine⟨_,rfl,_,rfl,_,_,_,_,rfl,rfl,SqL.of (g2 _ _ er'),by rw[q0p];exact z2w _ _,rfl,_,rfl,?_⟩
  refine z3f (fun c=>?_) (fun c=>?_)
  ·have hz:last=0:=by simpa using c
   refine⟨_,rfl,l,_,rfl,y5S (hl.same g12),fun r3 hr3=>?_⟩
   refine q1 r3 bs us _ (g12.free hr3) (g12.trans (z0e hr3 _)) z0b (htu.same (g12.trans (z0e hr3 _))) hR zb ?_
   refine hsame fun j=>?_
   by_cases hj:j<m
   ·exact z0 j hj
   ·by_cases hj2:j=m
    ·rw[hj2,vl,hz]
    ·show rs.getD j 0=0
     rw[q0b,q1r (by lia)];rfl
  ·have hz:last≠0:=fun z=>c (by simp[z])
   exact q2 _ g12 ⟨v rs,hoff,z0,by rw[vl];exact hz⟩
end
end L2
namespace L2
open PySem PySem.Spec PyProof.Rows
section
open Fr Wl Rk Pt Pa
open Builtin.Int (intBits)
variable {P:Program}{w:World}{K:PySem.W.Frag}{mg:Str→Option Value}{base:Heap}{f:Addr}{fd:FuncData}
theorem y4i {A:Around}{k:Nat} (hr:Room k A):A.units+2<cLine:=Nat.lt_of_le_of_lt (Nat.add_le_add_left (by decide:2≤64) _) hr.units
def kk (us:List (List Int)):K2:=us.map fun t=>t.map Sum.inl
theorem y6z {us ws:List (List Int)} (h:kk us=kk ws):us=ws:=(List.map_inj_right fun a b e=>(List.map_inj_right fun x y h=>by injection h).mp e).mp h
structure PtD where
 us:List (List Int)
 bs:List Addr
 a:Addr
def ky (p:PtD):K2×Addr:=(kk p.us,p.a)
def PtAt (H:Hp) (p:PtD):Prop:=H p.a=some (.tup (p.bs.map V.ref))∧TsA H p.bs p.us
def PtLi (H:Hp) (p:PtD):Prop:=H p.a=some (.lst (p.bs.map V.ref))∧TsA H p.bs p.us
theorem PtAt.key {H:Hp}{p:PtD} (h:PtAt H p):z4N H (kk p.us) p.a:=by
 refine⟨p.bs,h.1,by rw[h.2.1];unfold kk;rw[List.length_map],fun i r x e1 e2=>?_⟩
 unfold kk at e2
 rw[q0g] at e2
 obtain⟨t,ht,rfl⟩:=q0r.mp e2
 rw[q0x]
 exact h.2.2 i r t e1 ht
theorem PtAt.mono {H H':Hp}{p:PtD} (h:PtAt H p) (g:∀b ys,H b=some (.tup ys)→H' b=some (.tup ys)):PtAt H' p:=⟨g _ _ h.1,h.2.1,fun i a t e1 e2=>g _ _ (h.2.2 i a t e1 e2)⟩
def y0X (ps:List PtD) (q:PtD):List PtD:=if (ps.any fun p=>decide (p.us=q.us))=true then ps else ps++[q]
theorem y6d (ps:List PtD) (q:PtD):z9H (ps.map ky) (kk q.us) q.a=(y0X ps q).map ky:=by
 have e:((ps.map ky).any fun p=>decide (p.1=kk q.us))=ps.any fun p=>decide (p.us=q.us):=by
  rw[List.any_map]
  congr 1
  funext p
  show decide (kk p.us=kk q.us)=decide (p.us=q.us)
  by_cases c:p.us=q.us
  ·rw[c,decide_eq_true rfl,decide_eq_true rfl]
  ·rw[decide_eq_false c,decide_eq_false fun z=>c (y6z z)]
 unfold z9H y0X
 rw[e]
 split
 ·rfl
 ·rw[q0p];rfl
theorem y3a (ps:List PtD) (q:PtD):(y0X ps q).length ≤ps.length+1:=by
 unfold y0X
 split
 ·lia
 ·rw[q0l,q0T];lia
theorem y2Z {ps:List PtD}{q p:PtD} (h:p∈y0X ps q):p∈ps∨p=q:=by
 unfold y0X at h
 split at h
 ·exact .inl h
 ·rcases q0D.mp h with h|h
  ·exact .inl h
  ·exact .inr (q0i.mp h)
theorem y4V (ps:List PtD) (q:PtD) (h:(ps.map PtD.us).Nodup):((y0X ps q).map PtD.us).Nodup ∧∀x,x∈(y0X ps q).map PtD.us↔x∈ps.map PtD.us∨x=q.us:=by
 unfold y0X
 split
 ·rename_i c
  obtain⟨p,hp,e⟩:=q1n.mp c
  refine⟨h,fun x=>⟨.inl,fun z=>z.elim id fun z=>?_⟩⟩
  rw[z,←of_decide_eq_true e]
  exact q0f.mpr ⟨p,hp,rfl⟩
 ·rename_i c
  have hn:q.us∉ps.map PtD.us:=fun z=>c (by
   obtain⟨p,hp,e⟩:=q0f.mp z
   exact q1n.mpr ⟨p,hp,decide_eq_true e⟩)
  rw[q0p]
  refine⟨q1w.mpr ⟨h,by simp,fun a ha b hb=>?_⟩,fun x=>?_⟩
  ·rw[q0i.mp hb]
   exact fun z=>hn (by have z2:a=q.us:=z;rw[←z2];exact ha)
  ·rw[q0D]
   show _∨x∈[q.us]↔_
   rw[q0i]
theorem z7u {H:Hp}{d:Addr}{φ:Heap→Prop} (e:H d=some (.ext φ)) (X:HO):∀b ys,H b=some (.tup ys)→upd H d X b=some (.tup ys):=fun b ys h=>by
 rw[z0i (fun z=>by rw[z,e] at h;cases h)];exact h
abbrev z2H:Stmt:=top 22
theorem sc_all_parts:z0r ["walls","parts","numbers","rows","more"] ["walls"] (z0j z2H):=⟨rfl,rfl,rfl,by decide+kernel,rfl,by decide+kernel,by decide+kernel⟩
def z4W (K:PySem.W.Frag):Sp:=fun vs H Q _=>∃(b:Addr) (as:List Addr) (ws:List (List Int)) (m B:Nat),vs=[.ref b]∧H b=some (.lst (as.map V.ref))∧TsA H as ws∧ws.length≤8∧m≤4∧B≤130∧(∀t∈ws,t.length=m+1∧∀n∈t,intBits n≤B)∧
 ∀(r:Addr) (ps:List PtD) (H':Hp),H r=none→Same H H'→H' r=some (.lst (ps.map fun p=>V.ref p.a))→(∀p∈ps,H p.a=none∧PtLi H' p)→ps.length≤256→PartsI m (bnJ B) ws (ps.map PtD.us)→Q (.ref r) H'
theorem z6T (T:Txt mg) (F:Fun K "all_parts" "all_parts" z2H f fd) (c_joined:Cal P w K mg base 5 "joined" ["rows","numbers"] (z5s K)):FnOk P w K mg base CX0 6 f fd ["walls"] (z4W K):=by
 refine F.ok sc_all_parts (fun vs H Q E h=>?_) (fun cdv A outer s H vs Q E hr h=>?_)
 ·obtain⟨_,_,_,_,_,rfl,_⟩:=h;rfl
 obtain⟨b,as,ws,m,B,rfl,hb,hts,t8,m4,hB,zt,q⟩:=h
 refine⟨_,(z0c (z0n (i:=1) sc_all_parts.nd rfl (Or.inl rfl) (y3i (y4i hr) (z2e z0d) z4I))
  (z0c (z1f PassesOwn.never rfl (z0E (K:=K) rfl (pv 0)) (z0k (i:=2) sc_all_parts.nd rfl (Or.inl rfl)) (z0h (z1f PassesOwn.never rfl (z0E (K:=K) rfl (z0J (y0f rfl) rfl T.list boot_list (z0a (pv 1) z0d))) (z0k (i:=3) sc_all_parts.nd rfl (Or.inl rfl)) (z0c (z0n (i:=4) sc_all_parts.nd rfl (Or.inl rfl) (z0q c_joined hr rfl (z0a (pv 3) (z0a (pv 2) z0d))))
  (z0h (z0S (z5a (z7L (pv 4))) (z0h (y4W (y4i hr) (pv 1) (z0J (z0W (K:=K) rfl) rfl T.tuple boot_tuple (z0a (pv 4) z0d)) z4I rfl)) z0y))))))
  (z0h (z0t (z0G (Nc:=["rows"]) (fr:=[none]) rfl (pi_d2 (pv 1)) rfl (by decide) rfl (by decide) rfl trivial trivial (fun _ _ _ _=>(z0k (i:=0) (show List.Nodup (["rows"]:List Str) from by decide) rfl (Or.inl rfl))) (fun _ _ _ _=>z0H) (fun _ _ _ _=>(z0J (z1S (K:=K) rfl) rfl T.list boot_list (z0a (pv 0) z0d)))))))),?_⟩
 refine z0p (fun σ H'=>∃(d:Addr) (ps:List PtD),σ=[some (.ref b),some (.ref d),none,none,none]∧H d=none∧Same H H'∧H' d=some (D2 P w d (ps.map ky))∧(∀p∈ps,PtAt H' p)∧ps.length=1∧PartsI m (bnJ B) [] (ps.map PtD.us)) (fun N hN=>?_) ?_
 ·intro d hd
  refine⟨q0K _,fun e he=>?_⟩
  have g1:=z0e hd (D2 P w d [])
  have g2:=z0e he (.tup [])
  have ed:=g2 _ _ (show upd H d (D2 P w d []) d=_ from z0b)
  refine⟨e,[],rfl,rfl,ed,PtAt.key (p:=⟨[],[],e⟩) ⟨z0b,TsA.nil⟩,?_⟩
  refine hN _ _ ⟨d,[⟨[],[],e⟩],rfl,hd,fun c o h=>by rw[z0i (z0g h hd)];exact (g1.trans g2) _ _ h,z0b,fun p hp=>?_,rfl,PartsI.start⟩
  rw[q0i.mp hp]
  exact⟨z7u ed _ _ _ z0b,TsA.nil⟩
 rintro σ0 H0 ⟨d,ps0,rfl,hd,g0,e0,hP0,l0,hI0⟩
 refine z0p (fun σ H'=>∃(ps:List PtD) (s2 s3 s4:Option V),σ=[some (.ref b),some (.ref d),s2,s3,s4]∧Same H H'∧H' d=some (D2 P w d (ps.map ky))∧(∀p∈ps,PtAt H' p)∧ps.length≤256∧PartsI m (bnJ B) ws (ps.map PtD.us)) (fun N hN=>?_) ?_
 ·refine⟨_,rfl,b,rfl,⟨_,SqL.of (g0 _ _ hb)⟩,?_⟩
  refine z0I (z0B K b (as.map V.ref)) (fun i σ H'=>∃(ps:List PtD) (s2 s3 s4:Option V),σ=[some (.ref b),some (.ref d),s2,s3,s4]∧Same H H'∧H' d=some (D2 P w d (ps.map ky))∧(∀p∈ps,PtAt H' p)∧ps.length≤2^i∧PartsI m (bnJ B) (ws.take i) (ps.map PtD.us)) ⟨ps0,_,_,_,rfl,g0,e0,hP0,by rw[l0];decide,hI0⟩ (fun i σ H' _ h=>by obtain⟨_,_,_,_,_,g,_⟩:=h;exact SqL.of (g _ _ hb)) ?_ ?_
  ·clear e0 hP0 l0 hI0
   rintro i x σ H1 H2 hi ⟨ps,s2,s3,s4,rfl,g,ed,hP,pl,hI⟩ ⟨rfl,hx⟩
   rw[q0a,hts.1] at hi
   rw[q0g] at hx
   obtain⟨a,ha,rfl⟩:=q0r.mp hx
   have hti:ws[i]? =some ws[i]:=q0c hi
   have htm:ws[i]∈ws:=q0w hi
   generalize ws[i]=u at hti htm
   have tk:ws.take (i+1)=ws.take i++[u]:=by rw[q0E,hti];rfl
   obtain⟨ul,ub⟩:=zt u htm
   have hau:=g _ _ (hts.2 i a u ha hti)
   have d8:ps.length≤128:=q0m pl (q0m (q1Y (by decide) (show i≤7 by lia)) (by decide))
   refine⟨_,rfl,d,ps.map ky,rfl,ed,by rw[q0a];lia,fun l hl=>?_⟩
   have exs:((ps.map ky).map fun p=>V.ref p.2)=ps.map fun p=>V.ref p.a:=by rw[q0x];rfl
   rw[exs]
   have gl:=z0e hl (.lst (ps.map fun p=>V.ref p.a))
   have el0:upd H2 l (.lst (ps.map fun p=>V.ref p.a)) l=some (.lst (ps.map fun p=>V.ref p.a)):=z0b
   generalize upd H2 l (.lst (ps.map fun p=>V.ref p.a))=H3 at*
   refine⟨l,rfl,⟨_,SqL.of el0⟩,?_⟩
   refine z0I (z0B K l (ps.map fun p=>V.ref p.a)) (fun j σ H'=>∃(ps':List PtD) (s3 s4:Option V),σ=[some (.ref b),some (.ref d),some (.ref a),s3,s4]∧Same H H'∧H' l=some (.lst (ps.map fun p=>V.ref p.a))∧H' d=some (D2 P w d (ps'.map ky))∧(∀p∈ps',PtAt H' p)∧(∀p∈ps,PtAt H' p)∧H' a=some (.tup (u.map V.int))∧ps'.length≤ps.length+j∧MidI m (bnJ B) (ws.take i) u (ps.map PtD.us) (ps'.map PtD.us) j)
        ⟨ps,_,_,rfl,g.trans gl,el0,gl _ _ ed,fun p hp=>(hP p hp).mono fun _ _=>gl _ _,fun p hp=>(hP p hp).mono fun _ _=>gl _ _,gl _ _ hau,q0k _,hI.mid u⟩ (fun j σ H' _ h=>let ⟨_,_,_,_,_,hl,_⟩:=h;SqL.of hl) ?_ ?_
   ·rintro j y σ H4 H5 hj ⟨ps',s3',s4',rfl,g',el,ed',hP',hPo,hau',pl',hM⟩ ⟨rfl,hy⟩
    rw[q0a] at hj
    rw[q0g] at hy
    obtain⟨p,hp,rfl⟩:=q0r.mp hy
    have hpm:=q0B hp
    have hpu:(ps.map PtD.us)[j]? =some p.us:=by rw[q0g,hp];rfl
    obtain⟨gd1,gd2⟩:=hI.good p.us (q0f.mpr ⟨p,hpm,rfl⟩)
    obtain⟨hp1,hp2⟩:=hPo p hpm
    refine⟨_,rfl,_,rfl,p.a,a,false,p.bs,p.us,u,m,B,rfl,SqT.of hp1,hp2,hau',ul,m4,hB,ub,gd1,gd2,fun r2 bs2 us2 H6 hr2 g6 er2 hts2 hR2 hb2 hI2=>?_,fun H6 g6 ho=>?_⟩
    ·refine⟨_,rfl,_,rfl,?_⟩
     refine z5h ?_
     refine⟨_,rfl,_,rfl,r2,_,rfl,.inl ⟨SqL.of er2,fun t ht=>?_⟩⟩
     have g7:=z0e ht (.tup (bs2.map V.ref))
     have et:upd H6 t (.tup (bs2.map V.ref)) t=some (.tup (bs2.map V.ref)):=z0b
     generalize upd H6 t (.tup (bs2.map V.ref))=H7 at*
     have g67:=g6.trans g7
     have ed7:=g67 _ _ ed'
     have kt:PtAt H7 ⟨us2,bs2,t⟩:=⟨et,hts2.same g7⟩
     refine⟨d,t,ps'.map ky,kk us2,rfl,rfl,rfl,ed7,fun k hk=>?_,kt.key,z1Z (by rw[q0a];lia),?_⟩
     ·obtain⟨p',hp',rfl⟩:=q0f.mp hk
      exact ((hP' p' hp').mono fun _ _=>g67 _ _).key
     ·have pe:=y6d ps' ⟨us2,bs2,t⟩
      dsimp only at pe
      rw[pe]
      have tu:=z7u ed7 (D2 P w d ((y0X ps' ⟨us2,bs2,t⟩).map ky))
      obtain⟨n1,n2⟩:=y4V ps' ⟨us2,bs2,t⟩ hM.nd
      have pl2:=y3a ps' ⟨us2,bs2,t⟩
      have hld:l≠d:=fun z=>by rw[z,ed'] at el;cases el
      refine⟨y0X ps' ⟨us2,bs2,t⟩,_,_,rfl,fun c o h=>?_,by rw[z0i hld];exact g67 _ _ el,z0b,fun p' hp'=>?_,fun p' hp'=>((hPo p' hp').mono fun _ _=>g67 _ _).mono tu,tu _ _ (g67 _ _ hau'),by lia,hM.put hI hpu hR2 hb2 hI2 n1 n2⟩
      ·rw[z0i (z0g h hd)];exact (g'.trans g67) _ _ h
      ·rcases y2Z hp' with h|rfl
       ·exact ((hP' p' h).mono fun _ _=>g67 _ _).mono tu
       ·exact kt.mono tu
    ·refine⟨_,rfl,_,rfl,?_⟩
     refine z3t ?_
     exact⟨ps',_,_,rfl,g'.trans g6,g6 _ _ el,g6 _ _ ed',fun p' hp'=>(hP' p' hp').mono fun _ _=>g6 _ _,fun p' hp'=>(hPo p' hp').mono fun _ _=>g6 _ _,g6 _ _ hau',by lia,hM.off hpu ho⟩
   ·rintro σ H4 ⟨ps',s3',s4',rfl,g',el,ed',hP',hPo,hau',pl',hM⟩
    rw[q0a] at pl' hM
    refine⟨ps',_,_,_,rfl,g',ed',hP',by rw[Nat.pow_succ];lia,?_⟩
    rw[tk]
    exact MidI.done (by rw[q0a];exact hM) hI
  ·rintro σ H1 ⟨ps,s2,s3,s4,rfl,g,ed,hP,pl,hI⟩
   rw[q0a,hts.1] at pl hI
   rw[q0P] at hI
   exact hN _ _ ⟨ps,_,_,_,rfl,g,ed,hP,q0m pl (q0m (q1Y (by decide) t8) (by decide)),hI⟩
 rintro σ1 H1 ⟨ps,s2,s3,s4,rfl,g,ed,hP,pl,hI⟩
 refine⟨_,rfl,d,ps.map ky,rfl,ed,fun o D hD=>?_⟩
 have tu:=z7u ed (.frz o (D2 P w d (ps.map ky)))
 have gF:Same H (upd H1 d (.frz o (D2 P w d (ps.map ky)))):=fun c x h=>by rw[z0i (z0g h hd)];exact g _ _ h
 have eF:upd H1 d (.frz o (D2 P w d (ps.map ky))) d=some (.frz o (D2 P w d (ps.map ky))):=z0b
 have hPF:∀p∈ps,PtAt (upd H1 d (.frz o (D2 P w d (ps.map ky)))) p:=fun p hp=>(hP p hp).mono tu
 have ln:((ps.map ky).map fun p=>V.ref p.2).length =ps.length:=by rw[q0a,q0a]
 refine z0X ps ln (y4P P w d o (ps.map ky)) hD (fun p σ=>σ.set 0 (some (.ref p.a))) (fun p e σ=>q1Q ..) (fun _=>true) (fun H' p u=>∃q:Addr,u= .ref q∧q≠D∧H q=none∧H' q=some (.lst (p.bs.map V.ref))∧TsA H' p.bs p.us) ?_ (fun H' g'=>g' _ _ eF) (z0l (by rw[ln];lia)) ?_ ?_ ?_ ?_
 ·rintro H4 H5 p u k ⟨acc,hacc⟩ ⟨z,e1,e2,e3,e4,e5⟩
  exact⟨z,e1,e2,e3,k _ _ e2 e4,e5.1,fun i a t ea et=>k _ _ (fun y=>by have:=e5.2 i a t ea et;rw[y,hacc] at this;cases this) (e5.2 i a t ea et)⟩
 ·intro i x p hx hp σ H3 g3 S h
  rw[q0x,q0g,hp] at hx
  cases hx
  exact h
 ·intro p hp Hc gc S h
  exact h _ (Same.refl _)
 ·rintro p hp _ Hc gc ⟨acc,hacc⟩ S h
  obtain⟨h1,h2⟩:=(hPF p hp).mono fun _ _=>gc _ _
  refine⟨_,rfl,p.a,_,rfl,.inr (SqT.of h1),fun z hz=>?_⟩
  have g4:=z0e hz (.lst (p.bs.map V.ref))
  have zD:z≠D:=fun y=>by rw[y,hacc] at hz;cases hz
  exact h _ _ g4 ⟨z,rfl,zD,(gF.trans gc).free hz,z0b,h2.same g4⟩
 ·intro us H3 g3 hD3 he
  rw[z0z] at he
  have out:∀(ps:List PtD) (us:List V),Each (fun p u=>∃q:Addr,u=V.ref q∧q≠D∧H q=none∧H3 q=some (.lst (p.bs.map V.ref))∧TsA H3 p.bs p.us) ps us→∃qs:List PtD,us=(qs.map fun p=>V.ref p.a)∧qs.map PtD.us=ps.map PtD.us∧∀p∈qs,H p.a=none∧PtLi H3 p:=by
   intro ps us h
   induction h with
   |nil=>exact⟨[],rfl,rfl,fun p hp=>nomatch hp⟩
   | @cons p u ps us h1 _ ih=>
     obtain⟨z,rfl,_,e3,e4,e5⟩:=h1
     obtain⟨qs,rfl,k2,k3⟩:=ih
     refine⟨⟨p.us,p.bs,z⟩::qs,rfl,by rw[q0L,q0L,k2],fun x hx=>?_⟩
     rcases q0t.mp hx with rfl|hx
     ·exact⟨e3,e4,e5⟩
     ·exact k3 x hx
  obtain⟨qs,rfl,k2,k3⟩:=out ps us he
  have kl:qs.length=ps.length:=by have:=congrArg List.length k2;rw[q0a,q0a] at this;exact this
  exact q D qs H3 (gF.free hD) (gF.trans g3) hD3 k3 (by lia) (by rw[k2];exact hI)
end
end L2
namespace L2
open PySem PySem.Spec PyProof.Rows
section
open Fr Wl Rk Pt Ld Fc Pa
open Builtin.Int (intBits)
variable {P:Program}{w:World}{K:PySem.W.Frag}{mg:Str→Option Value}{base:Heap}{f:Addr}{fd:FuncData}
abbrev z4b:Stmt:=top 37
theorem sc_sign_at:z0r ["numbers","spot","high"] ["numbers","spot"] (z0j z4b):=⟨rfl,rfl,rfl,by decide+kernel,rfl,by decide+kernel,by decide+kernel⟩
def z8x (K:PySem.W.Frag):Sp:=fun vs H Q _=>∃(p q:Addr) (a s:List Int) (m:Nat),vs=[.ref p,.ref q]∧SqA K H p (a.map V.int)∧H q=some (.lst (s.map V.int))∧a.length=m+1∧s.length=m+1∧m≤50∧(∀n∈a,intBits n≤20000)∧(∀n∈s,intBits n≤20000)∧
 ∀H',Same H H'→Q (.int (sgZ (hg m (v a) (v s)))) H'
theorem z9L (T:Txt mg) (F:Fun K "sign_at" "sign_at" z4b f fd) (c_height:Cal P w K mg base 1 "height" ["bound","spot"] (z2S K)):FnOk P w K mg base CX0 2 f fd ["numbers","spot"] (z8x K):=by
 refine F.ok sc_sign_at (fun vs H Q E h=>?_) (fun cdv A outer s H vs Q E hr h=>?_)
 ·obtain⟨_,_,_,_,_,rfl,_⟩:=h;rfl
 obtain⟨p,q',a,sp,m,rfl,hp,hq,al,sl,m50,ba,bs,q⟩:=h
 refine⟨_,(z0c (z0n (i:=2) sc_sign_at.nd rfl (Or.inl rfl) (z0q c_height hr rfl (z0a (pv 0) (z0a (pv 1) z0d))))
  (z0c (z0S (z0v z3q (pv 2) z0f (z0D _)) (z0h (z0t z0f)) z0y)
  (z0h (z0t (z3I (z0v z7N (pv 2) z0f (z0D _)) z0f (z1O z1d z0f)))))),?_⟩
 refine⟨_,rfl,_,rfl,p,q',a,sp,m,rfl,hp,hq,al,sl,m50,ba,bs,fun H1 g1=>?_⟩
 replace q:=q H1 g1
 generalize hg m (v a) (v sp)=z at*
 unfold sgZ at q
 refine⟨_,rfl,rfl,_,rfl,?_⟩
 refine z3f (fun c=>?_) (fun c=>?_)
 ·have z0:z=0:=by have:=of_decide_eq_true c;injection this
  rw[if_pos z0] at q
  exact q
 ·have z0:z≠0:=fun e=>c (by rw[e];exact decide_eq_true rfl)
  rw[if_neg z0] at q
  refine⟨_,rfl,_,_,rfl,rfl,_,rfl,?_⟩
  refine z3f (fun d=>?_) (fun d=>?_)
  ·rw[if_pos (of_decide_eq_true d)] at q
   exact q
  ·rw[if_neg (fun e=>d (decide_eq_true e))] at q
   exact⟨_,rfl,q⟩
abbrev z3h:Stmt:=top 39
theorem z7C:z0r ["face"] ["face"] (z0j z3h):=⟨rfl,rfl,rfl,by decide+kernel,rfl,by decide+kernel,by decide+kernel⟩
def z6w (K:PySem.W.Frag):Sp:=fun vs H Q _=>∃(p a b:Addr),vs=[.ref p]∧H p=some (.tup [.ref a,.ref b])∧Q (.ref a) H
theorem z7O (T:Txt mg) (F:Fun K "signs_of" "signs_of" z3h f fd):FnOk P w K mg base CX0 1 f fd ["face"] (z6w K):=by
 refine F.ok z7C (fun vs H Q E h=>?_) (fun cdv A outer s H vs Q E hr h=>?_)
 ·obtain⟨_,_,_,rfl,_⟩:=h;rfl
 obtain⟨p,a,b,rfl,hp,q⟩:=h
 refine⟨_,(z0h (z0t (z0T (y5p (K:=K) rfl) (pv 0) z0f (fun _ _=>rfl)))),?_⟩
 exact⟨_,rfl,p,_,_,_,rfl,rfl,SqT.of hp,(show atI [V.ref a,V.ref b] 0=some (.ref a) from rfl),q⟩
theorem y5u {α β:Type}{R:β→V→Prop}{g:α→β}{cs:List α}{us:List V} (h:Each (fun e u=>R (g e) u) cs us):Each R (cs.map g) us:=by
 induction h with
 |nil=>exact .nil
 |cons a _ ih=>exact .cons a ih
theorem y0O {m:Nat}{us:List (List Int)} (h:Rws m us):us.length≤m:=by
 have h1:(us.map fp).length ≤(List.range m).length :=(Rws.nd h).length_le_of_subset fun j hj=>q1c.mpr (Rws.fpm h j hj)
 rw[q0a,q1H] at h1
 exact h1
def FaceAt (H:Hp) (sg:List Int) (x:V):Prop:=∃p a b,x= .ref p∧H p=some (.tup [.ref a,.ref b])∧H a=some (.tup (sg.map V.int))
theorem FaceAt.same {H H':Hp}{sg:List Int}{x:V} (h:FaceAt H sg x) (g:Same H H'):FaceAt H' sg x:=
 let ⟨p,a,b,e,h1,h2⟩:=h;⟨p,a,b,e,g _ _ h1,g _ _ h2⟩
theorem FaceAt.keep {H H':Hp}{sg:List Int}{x:V}{l:Addr}{ys:List V} (h:FaceAt H sg x) (hl:H l=some (.lst ys)) (g:∀b o,b≠l→H b=some o→H' b=some o):FaceAt H' sg x:=
 let ⟨p,a,b,e,h1,h2⟩:=h;⟨p,a,b,e,g _ _ (fun z=>by rw[z,hl] at h1;cases h1) h1,g _ _ (fun z=>by rw[z,hl] at h2;cases h2) h2⟩
abbrev z4g:Stmt:=top 38
theorem z9D:z0r ["walls","spot"] ["walls","spot"] (z0j z4g):=⟨rfl,rfl,rfl,by decide+kernel,rfl,by decide+kernel,by decide+kernel⟩
def z8B (K:PySem.W.Frag):Sp:=fun vs H Q _=>∃(lw q:Addr) (as:List Addr) (ts:List (List Int)) (s:List Int) (m:Nat),vs=[.ref lw,.ref q]∧H lw=some (.lst (as.map V.ref))∧TsA H as ts∧H q=some (.lst (s.map V.int))∧Spt m s∧m≤50∧ts.length≤100∧(∀t∈ts,t.length=m+1∧∀n∈t,intBits n≤20000)∧(∀n∈s,intBits n≤13000)∧
 ∀(x:V) (H':Hp),Same H H'→FaceAt H' (z2i m ts s) x→Q x H'
theorem z9Q (T:Txt mg) (F:Fun K "face_at" "face_at" z4g f fd) (c_sign_at:Cal P w K mg base 3 "sign_at" ["numbers","spot"] (z8x K)) (c_point_of:Cal P w K mg base 3 "point_of" ["spot"] (y0y K)):FnOk P w K mg base CX0 4 f fd ["walls","spot"] (z8B K):=by
 refine F.ok z9D (fun vs H Q E h=>?_) (fun cdv A outer s H vs Q E hr h=>?_)
 ·obtain⟨_,_,_,_,_,_,rfl,_⟩:=h;rfl
 obtain⟨lw,q',as,ts,sp,m,rfl,hlw,hts,hq,hs,m50,t100,zt,sb,q⟩:=h
 refine⟨_,(z0h (z0t (z2e (z0a (z0J (z0W (K:=K) rfl) rfl T.tuple boot_tuple (z0a (z0G (Nc:=["numbers","spot"]) (fr:=[none,some 1]) rfl (z0E (K:=K) rfl (pv 0)) rfl (by decide) rfl (by decide) rfl ⟨rfl,trivial⟩ ⟨⟨rfl,rfl,rfl,rfl⟩,trivial⟩ (fun _ _ _ _=>(z0k (i:=0) (show List.Nodup (["numbers","spot"]:List Str) from by decide) rfl (Or.inl rfl))) (fun _ _ _ _=>z0H) (fun _ _ _ _=>(z0q c_sign_at hr rfl (z0a (pv 0) (z0a (pv 1) z0d))))) z0d)) (z0a (z0q c_point_of hr rfl (z0a (pv 1) z0d)) z0d))))),?_⟩
 have al:as.length=ts.length:=hts.1
 refine⟨_,rfl,lw,rfl,⟨_,SqL.of hlw⟩,fun D hD=>?_⟩
 refine z0X (as.zip ts) (by rw[q0a,q0I];lia) (z0B K lw (as.map V.ref)) hD (fun d σ=>σ.set 0 (some (.ref d.1))) (fun d e σ=>q1Q ..) (fun _=>true) (fun _ d u=>u=V.int (sgZ (hg m (v d.2) (v sp)))) (fun _ _ _ _ _ _ h=>h) (fun H' g'=>SqL.of (g' _ _ hlw)) (z0l (by rw[q0a];lia)) ?_ ?_ ?_ ?_
 ·intro i x d hx hd σ H1 g1 S h
  rw[q0g] at hx
  obtain⟨a,ha,rfl⟩:=q0r.mp hx
  obtain⟨h1,h2⟩:=q0G.mp hd
  rw[ha] at h1
  cases h1
  exact h
 ·intro d hd Hc gc S h
  exact h _ (Same.refl _)
 ·intro d hd _ Hc gc _ S h
  obtain⟨i,hi,rfl⟩:=q0C.mp hd
  rw[q0I] at hi
  have ia:i<as.length:=by lia
  have iu:i<ts.length:=by lia
  rw[q2g] at h ⊢
  have ht:=zt ts[i] (q0w _)
  exact⟨_,rfl,_,rfl,as[i],q',ts[i],sp,m,rfl,.inr (SqT.of (gc _ _ (hts.2 i _ _ (q0c ia) (q0c iu)))),gc _ _ hq,ht.1,hs.1,m50,ht.2,fun n hn=>q0m (sb n hn) (by decide),fun H' g'=>h _ _ g' rfl⟩
 intro xs H1 g1 hD1 he
 rw[z0z] at he
 have exs:xs=(z2i m ts sp).map V.int:=by
  have h1:∀{ds:List (Addr×List Int)}{xs:List V},Each (fun d u=>u=V.int (sgZ (hg m (v d.2) (v sp)))) ds xs→xs=ds.map fun d=>V.int (sgZ (hg m (v d.2) (v sp))):=fun h=>by
   induction h with
   |nil=>rfl
   |cons a _ ih=>rw[a,ih];rfl
  rw[h1 he]
  have h2:(as.zip ts).map (fun d=>V.int (sgZ (hg m (v d.2) (v sp))))=((as.zip ts).map Prod.snd).map fun t=>V.int (sgZ (hg m (v t) (v sp))):=by rw[q0x];rfl
  rw[h2,List.map_snd_zip (by lia)]
  unfold z2i
  rw[q0x];rfl
 subst exs
 refine⟨D,_,rfl,.inl ⟨SqL.of hD1,fun t1 ht1=>?_⟩⟩
 have g2:=z0e ht1 (.tup ((z2i m ts sp).map V.int))
 have e2:upd H1 t1 (.tup ((z2i m ts sp).map V.int)) t1=some (.tup ((z2i m ts sp).map V.int)):=z0b
 generalize upd H1 t1 (.tup ((z2i m ts sp).map V.int))=H2 at*
 refine⟨_,rfl,q',sp,m,rfl,(g1.trans g2) _ _ hq,hs,m50,sb,fun t2 bs H3 ht2 g3 e3 _=>?_⟩
 refine⟨by show 2≤sizeLine;decide,fun t3 ht3=>?_⟩
 have g4:=z0e ht3 (.tup [V.ref t1,V.ref t2])
 exact q _ _ (g1.trans (g2.trans (g3.trans g4))) ⟨t3,t1,t2,rfl,z0b,(g3.trans g4) _ _ e2⟩
def bR:Nat→Nat
 |0=>32
 |r+1=>64+(r+1)*(bnJ 64 (r+1)+1)
def cR:Nat→Nat
 |0=>64
 |r+1=>64+(r+1)*(bnJ 64 (r+1)+1)
theorem limR {m r:Nat} (hm:m≤4) (hr:r≤m):z7q (m - r) (bR r) (cR r)=true∧Sb (m - r) (bR r) (cR r)+r*(bnJ 64 r+m+3)≤12900∧bnJ 64 r≤9000∧(r<m→64+r*(bnJ 64 r+1)≤9000)∧∀i,i<r→64+i*(bnJ 64 r+1)≤20000:=by
 have key:∀m,m<5→∀r,r<m+1→(z7q (m - r) (bR r) (cR r)&&decide (Sb (m - r) (bR r) (cR r)+r*(bnJ 64 r+m+3)≤12900)&&decide (bnJ 64 r≤9000)&&(decide (¬r<m) || decide (64+r*(bnJ 64 r+1)≤9000))&&decide (64+r*(bnJ 64 r+1)≤20000))=true:=by decide
 have h:=key m (by lia) r (by lia)
 simp only[q1g,Bool.or_eq_true,decide_eq_true_eq] at h
 obtain⟨⟨⟨⟨h1,h2⟩,h3⟩,h4⟩,h5⟩:=h
 refine⟨h1,h2,h3,fun hlt=>h4.resolve_left (fun z=>z hlt),fun i hi=>?_⟩
 have:=Nat.mul_le_mul_right (bnJ 64 r+1) (Nat.le_of_lt hi)
 lia
structure Ws64 (m:Nat) (ts:List (List Int)):Prop where
 m4:m≤4
 n4:ts.length≤4
 wl:∀t∈ts,WL m t
 bd:∀t∈ts,Bd m 32 64 t
 nd:ts.Nodup
theorem Ws64.b64 {m:Nat}{ts:List (List Int)} (h:Ws64 m ts):∀t∈ts,t.length=m+1∧∀n∈t,intBits n≤64:=fun t ht=>⟨(h.wl t ht).len,fun n hn=>q0m ((h.bd t ht).all n hn) (by decide)⟩
theorem y2q {m:Nat}{us:List (List Int)} (h:Rws m us) {br bx:Nat} (hb:∀t∈us,∀n∈t,intBits n≤br) {u:List Int} (hu:u.length=m+1) (zu:∀n∈u,intBits n≤bx):∀n∈drL m us u,intBits n≤bx+us.length*(br+1):=by
 have key:∀(ts:List (List Int)) (u:List Int) (bx:Nat),(∀t∈ts,t∈us)→u.length=m+1→(∀n∈u,intBits n≤bx)→∀n∈ts.foldl z0o u,intBits n≤bx+ts.length*(br+1):=by
  intro ts
  induction ts with
  |nil=>intro u bx _ _ h n hn;exact Nat.le_trans (h n hn) (by lia)
  |cons t ts ih=>
   intro u bx hs hu hz n hn
   have htu:=hs t q0j
   have tl:=(h.row t htu).1
   have:=ih (z0o u t) (bx+br+1) (fun x hx=>hs x (q0h _ hx)) (by rw[z1b (by lia)];exact hu) (fun n hn=>z5n (by lia) (h.nz htu) hz (hb t htu) n hn) n hn
   rw[q0u,Nat.succ_mul];lia
 intro n hn
 unfold drL z3n at hn
 obtain⟨j,_,rfl⟩:=q0f.mp hn
 exact z0N (key us u bx (fun _ h=>h) hu zu) j
theorem in_Bd {m:Nat}{us ts:List (List Int)} (hW:Ws64 m ts) (h:Rws m us) (hb:∀t∈us,∀n∈t,intBits n≤bnJ 64 us.length):∀d∈inW m us ts,Bd (m - us.length) (bR us.length) (cR us.length) d:=fun d hd=>by
 obtain⟨t,ht,e⟩:=mem_in.mp hd
 obtain⟨hw,rfl,hnz⟩:=z4y h e
 have hz:=y2q h hb (hW.wl t ht).len (hW.b64 t ht).2
 have hp:=y0h hnz hz
 cases us with
 |nil=>
  have e1:drL m [] t=t:=by
   unfold drL z3n z0P
   rw[q1x.mpr (fun _ _=>by simp)]
   refine List.ext_getElem (by simp[(hW.wl t ht).len]) fun i a b=>?_
   rw[q1C,List.getElem_range]
   show t.getD i 0=_
   rw[q0b,q0c b];rfl
  rw[e1,(hW.wl t ht).pl]
  exact hW.bd t ht
 |cons u us=>exact⟨hw.len,fun j _=>z0N hp j,z0N hp _⟩
theorem y5m {m:Nat}{ts:List (List Int)}{s:List Int} (h:Spt m s):z2i m ts (z3E s)=z2i m ts s:=by
 unfold z2i
 refine q1d fun t _=>?_
 have g:=z2v h.2
 rw[←z7Z (s:=s),z1C g]
theorem y5l {m:Nat}{s:List Int} (h:Spt m s):Spt m (z3E s):=⟨by rw[z8T];exact h.1,z1M (z2v h.2) (y1A m) h.2⟩
abbrev z3l:Stmt:=top 40
theorem sc_faces_in:z0r ["ways","walls","rows","inner"] ["ways","walls","rows"] (z0j z3l):=⟨rfl,rfl,rfl,by decide+kernel,rfl,by decide+kernel,by decide+kernel⟩
def z6z (K:PySem.W.Frag):Sp:=fun vs H Q _=>∃(lw l:Addr) (as cs:List Addr) (ts us:List (List Int)) (m:Nat),vs=[.int (m:Nat),.ref lw,.ref l]∧H lw=some (.lst (as.map V.ref))∧TsA H as ts∧H l=some (.lst (cs.map V.ref))∧TsA H cs us∧Ws64 m ts∧Rws m us∧(∀t∈us,∀n∈t,intBits n≤bnJ 64 us.length)∧
 ∀(r:Addr) (xs:List V) (ds:List (List Int×List Int)) (H':Hp),H r=none→Same H H'→H' r=some (.lst xs)→Each (FaceAt H') (ds.map fun p=>z2i m ts (z1h m us p.2)) xs→ds.map Prod.fst=sgN (m - us.length) (inW m us ts) (inW m us ts).length →(∀p∈ds,Win (m - us.length) (bdL (inW m us ts) p.1) p.2)→Q (.ref r) H'
theorem z7S (T:Txt mg) (F:Fun K "faces_in" "faces_in" z3l f fd) (c_land_spots:Cal P w K mg base 17 "land_spots" ["ways","walls"] (y0w K)) (c_walls_within:Cal P w K mg base 17 "walls_within" ["rows","walls"] (z8w K)) (c_face_at:Cal P w K mg base 17 "face_at" ["walls","spot"] (z8B K)) (c_lifted:Cal P w K mg base 17 "lifted" ["rows","spot"] (z7w K)):FnOk P w K mg base CX0 18 f fd ["ways","walls","rows"] (z6z K):=by
 refine F.ok sc_faces_in (fun vs H Q E h=>?_) (fun cdv A outer s H vs Q E hr h=>?_)
 ·obtain⟨_,_,_,_,_,_,_,rfl,_⟩:=h;rfl
 obtain⟨lw,l,as,cs,ts,us,m,rfl,hlw,hts,hl,hcs,hW,hR,hb,q⟩:=h
 refine⟨_,(z0c (z0n (i:=3) sc_faces_in.nd rfl (Or.inl rfl) (z0q c_land_spots hr rfl (z0a (z0s z1P (pv 0) (z0A (z1g (K:=K) rfl) rfl T.len PySem.boot_len (z0a (pv 2) z0d))) (z0a (z0q c_walls_within hr rfl (z0a (pv 2) (z0a (pv 1) z0d))) z0d))))
  (z0h (z0t (z0G (Nc:=["signs","spot","walls","rows"]) (fr:=[none,none,some 1,some 2]) rfl (z0E (K:=K) rfl (pv 3)) rfl (by decide) rfl (by decide) rfl ⟨rfl,⟨rfl,trivial⟩⟩ ⟨⟨rfl,rfl,rfl,rfl⟩,⟨⟨rfl,rfl,rfl,rfl⟩,trivial⟩⟩ (fun _ _ _ _=>(z1c (K:=K) rfl 2 rfl (z0u (z0k (i:=0) (show List.Nodup (["signs","spot","walls","rows"]:List Str) from by decide) rfl (Or.inl rfl)) (z0u (z0k (i:=1) (show List.Nodup (["signs","spot","walls","rows"]:List Str) from by decide) rfl (Or.inl rfl)) z0Y)))) (fun _ _ _ _=>z0H) (fun _ _ _ _=>(z0q c_face_at hr rfl (z0a (pv 2) (z0a (z0q c_lifted hr rfl (z0a (pv 3) (z0a (pv 1) z0d))) z0d)))))))),?_⟩
 have cl:cs.length=us.length:=hcs.1
 have m4:=hW.m4
 have n4:=hW.n4
 have hle:us.length≤m:=y0O hR
 obtain⟨k1,k2,k3,k4,k5⟩:=limR m4 hle
 refine z0p (fun σ H'=>∃r xs ds,σ=[some (.int (m:Nat)),some (.ref lw),some (.ref l),some (.ref r)]∧Same H H'∧H' r=some (.lst xs)∧Each (LandAt H') ds xs∧(∀d∈ds,z4O (m - us.length) (bR us.length) (cR us.length) (inW m us ts) d)∧ds.map LandD.sg=sgN (m - us.length) (inW m us ts) (inW m us ts).length) (fun N hN=>?_) ?_
 ·refine⟨_,rfl,_,rfl,l,_,rfl,.inl (SqL.of hl),_,_,rfl,rfl,_,rfl,_,rfl,l,lw,cs,as,us,ts,m,64,bnJ 64 us.length,rfl,hl,hcs,hlw,hts,by lia,by lia,by lia,hR,hb,hW.b64,k3,k5,k4,fun b bs H1 hb1 g1 eb hbs=>?_⟩
  have e:(m:Int) - (((cs.map V.ref).length :Nat):Int)=((m - us.length:Nat):Int):=by rw[q0a,cl];lia
  dsimp only
  rw[e]
  have il:(inW m us ts).length ≤8:=q0m (z8p _ _) (by lia)
  exact⟨m - us.length,b,bs,inW m us ts,bR us.length,cR us.length,rfl,eb,hbs,in_Bd hW hR hb,k1,by lia,il,fun r xs ds H2 hr2 g2 er hE hG hsg=>hN _ _ ⟨r,xs,ds,rfl,g1.trans g2,er,hE,hG,hsg⟩⟩
 rintro σ H1 ⟨r,xs,ds,rfl,g1,er,hE,hG,hsg⟩
 have dl:xs.length≤256:=by
  rw[←hE.length,←q0a (f:=LandD.sg),hsg]
  exact q0m (z7B _ _ _) (q0m (q1Y (by decide) (q0m (z8p _ _) (show ts.length≤8 by lia))) (by decide))
 refine⟨_,rfl,r,rfl,⟨_,SqL.of er⟩,fun D hD=>?_⟩
 refine z0X ds hE.length.symm (z0B K r xs) hD (fun d σ=>(σ.set 0 (some (.ref d.a))).set 1 (some (.ref d.q))) (fun d e σ=>z3Z _ _ _ _ _) (fun _=>true) (fun H' d u=>FaceAt H' (z2i m ts (z1h m us d.sp)) u) ?_ (fun H' g'=>SqL.of (g' _ _ er)) (z0l (by lia)) ?_ ?_ ?_ ?_
 ·rintro H2 H3 d u k ⟨acc,hd⟩ h
  exact h.keep hd k
 ·intro i y d hy hd σ H2 g2 S h
  obtain⟨p,rfl,h1,_⟩:=hE.get hd hy
  exact⟨p,_,rfl,SqT.of (g2 _ _ h1),rfl,_,_,rfl,_,_,rfl,rfl,h⟩
 ·intro d hd Hc gc S h
  exact h _ (Same.refl _)
 ·intro d hd _ Hc gc _ S h
  have hGd:=hG d hd
  obtain⟨i,hi,rfl⟩:=q0C.mp hd
  obtain⟨p,_,_,_,hq⟩:=hE.get (q0c hi) (q0c (show i<xs.length by rw[←hE.length];exact hi))
  generalize ds[i]=d at*
  have gg:=g1.trans gc
  have hw:=hGd.win
  have hsp:=z5X hR hw.1
  refine⟨_,rfl,_,rfl,_,rfl,l,d.q,cs,us,d.sp,m,bnJ 64 us.length,Sb (m - us.length) (bR us.length) (cR us.length),rfl,gg _ _ hl,⟨hcs.1,fun i a t e1 e2=> .inr (SqT.of (gg _ _ (hcs.2 i a t e1 e2)))⟩,gc _ _ hq,by rw[hw.1.1];lia,fun t ht=>⟨(hR.row t ht).1,(hR.row t ht).2.1,hb t ht⟩,by rw[q0Y];exact hR.up,hGd.bits,by lia,by lia,k3,k2,z1Y (j:=m) (by have:=hsp.2;lia),fun r2 H2 hr2 g2 zb e2=>?_⟩
  have g12:=gg.trans g2
  refine⟨lw,r2,as,ts,z3E (z1h m us d.sp),m,rfl,g12 _ _ hlw,hts.same g12,e2,y5l hsp,by lia,by lia,fun t ht=>⟨(hW.b64 t ht).1,fun n hn=>q0m ((hW.b64 t ht).2 n hn) (by decide)⟩,fun n hn=>q0m (z5W (z1Y (j:=m) (by have:=hsp.2;lia)) zb n hn) (by lia),fun x H3 g3 hx=>?_⟩
  rw[y5m hsp] at hx
  exact h _ _ (g2.trans g3) hx
 ·intro us' H2 g2 hD2 he
  rw[z0z] at he
  have e1:(ds.map fun d=>(d.sg,d.sp)).map Prod.fst=ds.map LandD.sg:=by rw[q0x];rfl
  refine q D us' (ds.map fun d=>(d.sg,d.sp)) H2 (g1.free hD) (g1.trans g2) hD2 ?_ (by rw[e1,hsg]) fun p hp=>?_
  ·rw[q0x]
   exact y5u (g:=fun d:LandD=>z2i m ts (z1h m us d.sp)) (R:=FaceAt H2) he
  ·obtain⟨d,hd,rfl⟩:=q0f.mp hp
   exact (hG d hd).win
end
end L2
namespace L2
open PySem PySem.Spec PyProof.Rows
section
open Fr Wl Rk
open Builtin.Int (intBits)
variable {P:Program}{w:World}{K:PySem.W.Frag}{mg:Str→Option Value}{base:Heap}{f:Addr}{fd:FuncData}
abbrev z5F:Stmt:=top 21
theorem sc_common:z0r ["ways","walls","lot","rows","place"] ["ways","walls","lot"] (z0j z5F):=⟨rfl,rfl,rfl,by decide+kernel,rfl,by decide+kernel,by decide+kernel⟩
abbrev CEnds (m B:Nat) (L:List (List Int)) (H:Hp) (Q:VK):Prop:=
 (∀(r:Addr) (bs':List Addr) (us':List (List Int)) (H':Hp),H r=none→Same H H'→H' r=some (.lst (bs'.map V.ref))→TsA H' bs' us'→Rws m us'→(∀t∈us',∀n∈t,intBits n≤bnJ B us'.length)→In (us'.map v)=In (L.map v)→Q (.ref r) H')∧
 (∀H',Same H H'→(∃z,In (L.map v) z∧(∀j,j<m→z j=0)∧z m≠0)→Q .non H')
def z8C (K:PySem.W.Frag):Sp:=fun vs H Q _=>∃(lw lt:Addr) (as:List Addr) (ts:List (List Int)) (ks:List Nat) (m B:Nat),vs=[.int (m:Nat),.ref lw,.ref lt]∧H lw=some (.lst (as.map V.ref))∧TsA H as ts∧H lt=some (.lst ((ks.map fun k=>((k:Nat):Int)).map V.int))∧(∀k∈ks,k<ts.length)∧m≤4∧B≤130∧(∀t∈ts,t.length=m+1∧∀n∈t,intBits n≤B)∧
 CEnds m B (ks.map fun k=>ts.getD k []) H Q
theorem y1R {A B:List (Nat→Int)}{x:Nat→Int} (e:In A=In B):In (x::A)=In (B++[x]):=by
 have h1:∀r∈A,In B r:=fun r hr=>by rw[←e];exact In.one hr
 have h2:∀r∈B,In A r:=fun r hr=>by rw[e];exact In.one hr
 refine In.same (fun r hr=>?_) (fun r hr=>?_)
 ·rcases q0t.mp hr with rfl|hr
  ·exact In.one (by simp)
  ·exact In.mono (fun s hs=>q0J _ hs) (h1 r hr)
 ·rcases q0D.mp hr with hr|hr
  ·exact In.mono (fun s hs=>q0h _ hs) (h2 r hr)
  ·rw[q0i.mp hr];exact In.one q0j
theorem y1q (T:Txt mg) (F:Fun K "common" "common" z5F f fd) (c_joined:Cal P w K mg base 5 "joined" ["rows","numbers"] (z5s K)):FnOk P w K mg base CX0 6 f fd ["ways","walls","lot"] (z8C K):=by
 refine F.ok sc_common (fun vs H Q E h=>?_) (fun cdv A outer s H vs Q E hr h=>?_)
 ·obtain⟨_,_,_,_,_,_,_,rfl,_⟩:=h;rfl
 obtain⟨lw,lt,as,ts,ks,m,B,rfl,hw,hts,hlt,hk,m4,hB,zt,q1,q2⟩:=h
 refine⟨_,(z0c (z0n (i:=3) sc_common.nd rfl (Or.inl rfl) (z0U z0d))
  (z0c (z1f PassesOwn.never rfl (z0E (K:=K) rfl (pv 2)) (z0k (i:=4) sc_common.nd rfl (Or.inl rfl)) (z0c (z0n (i:=3) sc_common.nd rfl (Or.inl rfl) (z0q c_joined hr rfl (z0a (pv 3) (z0a (z0T (z0x (K:=K) rfl) (pv 1) (pv 4) (fun _ _=>rfl)) z0d))))
  (z0h (z0S (z5a (z8K (pv 3))) (z0h (z0t z5d)) z0y))))
  (z0h (z0t (pv 3))))),?_⟩
 refine⟨q0K _,fun r0 hr0=>?_⟩
 have g0:=z0e hr0 (.lst [])
 refine⟨_,rfl,lt,rfl,⟨_,SqL.of (g0 _ _ hlt)⟩,?_⟩
 refine z0I (z0B K lt ((ks.map fun k=>((k:Nat):Int)).map V.int)) (fun i σ H'=>∃(r:Addr) (bs:List Addr) (us:List (List Int)) (s4:Option V),σ=[some (.int (m:Nat)),some (.ref lw),some (.ref lt),some (.ref r),s4]∧H r=none∧H' r=some (.lst (bs.map V.ref))∧TsA H' bs us∧Rws m us∧(∀t∈us,∀n∈t,intBits n≤bnJ B us.length)∧In (us.map v)=In (((ks.take i).map fun k=>ts.getD k []).map v)∧Same H H')
  ⟨r0,[],[],_,rfl,hr0,z0b,TsA.nil,Rws.nil,fun t h=>by simp at h,rfl,g0⟩ (fun i σ H' _ h=>by obtain⟨_,_,_,_,_,_,_,_,_,_,_,g⟩:=h;exact SqL.of (g _ _ hlt)) ?_ ?_
 ·rintro i x σ H1 H2 hi ⟨r,bs,us,s4,rfl,hr1,er,htu,hR,zb,hI,g⟩ ⟨rfl,hx⟩
  rw[q0a,q0a] at hi
  rw[q0g,q0g,q0c hi] at hx
  have hk1:=hk _ (q0w hi)
  have tk:ks.take (i+1)=ks.take i++[ks[i]]:=by rw[q0E,q0c hi];rfl
  have sub:∀y∈ks.take (i+1),y∈ks:=fun y hy=>q1D hy
  have ex:x= .int ((ks[i]:Nat):Int):=(Option.some.inj hx).symm
  generalize ks[i]=k at hk1 tk ex
  subst ex
  have ea:as[k]? =some (as[k]'(by have:=hts.1;lia)):=q0c (by have:=hts.1;lia)
  generalize as[k]'(by have:=hts.1;lia)=a at ea
  have et:ts[k]? =some ts[k]:=q0c hk1
  have eg:ts.getD k []=ts[k]:=by rw[q0b,et];rfl
  have htm:ts[k]∈ts:=q0w hk1
  generalize ts[k]=t at et eg htm
  obtain⟨t1,t2⟩:=zt t htm
  have ev:atI (as.map V.ref) (k:Int)=some (.ref a):=z3y (by rw[q0g,ea];rfl)
  have eA:((ks.take (i+1)).map fun k=>ts.getD k []).map v=((ks.take i).map fun k=>ts.getD k []).map v++[v t]:=by
   rw[tk,q0p,q0p,List.map_singleton,eg];rfl
  refine⟨_,rfl,_,rfl,_,rfl,lw,_,_,_,rfl,rfl,SqL.of (g _ _ hw),ev,r,a,true,bs,us,t,m,B,rfl,SqL.of er,htu,g _ _ (hts.2 k a t ea et),t1,m4,hB,t2,hR,zb,fun r' bs' us' H3 hn g3 er3 htu3 hR3 zb3 hI3=>?_,fun H3 g3 hz=>?_⟩
  ·refine⟨_,rfl,_,rfl,?_⟩
   refine z3t ?_
   refine⟨r',bs',us',_,rfl,g.free hn,er3,htu3,hR3,zb3,?_,g.trans g3⟩
   rw[hI3,eA]
   exact y1R hI
  ·refine⟨_,rfl,_,rfl,?_⟩
   refine z5h ?_
   obtain⟨z,hz1,hz2,hz3⟩:=hz
   refine q2 _ (g.trans g3) ⟨z,?_,hz2,hz3⟩
   rw[y1R hI,←eA] at hz1
   refine In.mono (fun y hy=>?_) hz1
   obtain⟨u,hu,rfl⟩:=q0f.mp hy
   obtain⟨k2,hk2,rfl⟩:=q0f.mp hu
   exact q0A (q0A (f:=fun k=>ts.getD k []) (sub k2 hk2))
 ·rintro σ H1 ⟨r,bs,us,s4,rfl,hr1,er,htu,hR,zb,hI,g⟩
  rw[q0a,q0a,q0P] at hI
  exact⟨_,rfl,q1 r bs us _ hr1 g er htu hR zb hI⟩
end
end L2
namespace L2
open PySem PySem.Spec PyProof.Rows
section
open Fr Wl Rk Pt Ld Fc Pa
open Builtin.Int (intBits)
variable {P:Program}{w:World}{K:PySem.W.Frag}{mg:Str→Option Value}{base:Heap}{f:Addr}{fd:FuncData}
def zeV (c:V×V):Bool:=match c.2 with| .int n=>decide (n=0)|_=>false
theorem z7c:∀(sg:List Int) (k:Nat),((((sg.map V.int).mapIdx fun i x=>(V.int ((i+k:Nat):Int),x)).filter zeV).map Prod.fst)=((List.range sg.length).filter fun i=>decide (v sg i=0)).map fun j=>V.int ((j+k:Nat):Int)
 |[],k=>rfl
 |y::ys,k=>by
  have e:((y::ys).map V.int).mapIdx (fun i x=>(V.int ((i+k:Nat):Int),x))=(V.int ((k:Nat):Int),V.int y)::(ys.map V.int).mapIdx fun i x=>(V.int ((i+(k+1):Nat):Int),x):=by
   rw[q0L,List.mapIdx_cons]
   congr 1
   ·rw[Nat.zero_add]
   ·congr 1
    funext i y
    rw[show i+1+k=i+(k+1) by lia]
  have ih:=z7c ys (k+1)
  have e2:((List.range (y::ys).length).filter fun i=>decide (v (y::ys) i=0))=(if y=0 then [0] else [])++((List.range ys.length).filter fun i=>decide (v ys i=0)).map (· +1):=by
   rw[q0u,List.range_succ_eq_map,q1N,List.filter_map]
   have e3:(List.range ys.length).filter ((fun i=>decide (v (y::ys) i=0))∘Nat.succ)=(List.range ys.length).filter fun i=>decide (v ys i=0):=rfl
   rw[e3]
   by_cases h:y=0
   ·rw[if_pos h,if_pos (show decide (v (y::ys) 0=0)=true from decide_eq_true h)];rfl
   ·rw[if_neg h,if_neg (show ¬decide (v (y::ys) 0=0)=true from fun z=>h (of_decide_eq_true z))];rfl
  rw[e,q1N,e2,q0p,q0x]
  have e4:((List.range ys.length).filter fun i=>decide (v ys i=0)).map ((fun j=>V.int ((j+k:Nat):Int))∘(· +1))=((List.range ys.length).filter fun i=>decide (v ys i=0)).map fun j=>V.int ((j+(k+1):Nat):Int):=q1d fun j _=>by
   show V.int ((j+1+k:Nat):Int)=_
   rw[show j+1+k=j+(k+1) by lia]
  rw[e4,←ih]
  by_cases h:y=0
  ·rw[if_pos h,if_pos (show zeV (V.int ((k:Nat):Int),V.int y)=true from decide_eq_true h)]
   show V.int ((k:Nat):Int)::_=[V.int ((0+k:Nat):Int)]++_
   rw[Nat.zero_add];rfl
  ·rw[if_neg h,if_neg (show ¬zeV (V.int ((k:Nat):Int),V.int y)=true from fun z=>h (of_decide_eq_true z))];rfl
theorem z4P {α β:Type} (p:β→Bool):∀(as:List α) (bs:List β),as.length=bs.length→((as.zip bs).filter fun d=>p d.2).map Prod.snd=bs.filter p
 |[],[],_=>rfl
 |[],_::_,h=>by simp at h
 |_::_,[],h=>by simp at h
 |a::as,b::bs,h=>by
  have ih:=z4P p as bs (by simpa using h)
  rw[List.zip_cons_cons,q1N,q1N]
  cases p b
  ·simpa using ih
  ·simpa using ih
theorem LsA.of {H:Hp}{rows:List (List Int)}{us:List V}{D:Addr}{δ:Type}{gf:δ→List Int}{ds:List δ} (h:Each (fun d u=>∃p,u= .ref p∧p≠D∧H p=some (.lst ((gf d).map V.int))) ds us):∃bs,us=bs.map V.ref∧LsA H bs (ds.map gf):=by
 induction h with
 |nil=>exact⟨[],rfl,rfl,fun i a t e=>by simp at e⟩
 |cons h1 _ ih=>
  obtain⟨p,rfl,_,hp⟩:=h1
  obtain⟨bs,rfl,hl,hb⟩:=ih
  refine⟨p::bs,rfl,by rw[q0u,q0L,q0u,hl],fun i a t e1 e2=>?_⟩
  cases i with
  |zero=>cases e1;cases e2;exact hp
  |succ i=>exact hb i a t e1 e2
def y0t (K:PySem.W.Frag):Sp:=fun vs H Q E=>∃m,m≤4∧z9y K (m+1) vs H Q E
theorem y6N {CX:CXT}{k:Nat}{ps:List Str} (h:∀m,m≤4→FnOk P w K mg base CX k f fd ps (z9y K (m+1))):FnOk P w K mg base CX k f fd ps (y0t K):=
 ⟨fun vs H Q E h'=>let ⟨m,hm,h'⟩:=h';(h m hm).len vs H Q E h',fun A st s H a us vs Q E hr e0 hb r h'=>let ⟨m,hm,h'⟩:=h';(h m hm).run A st s H a us vs Q E hr e0 hb r h'⟩
abbrev z2F:Stmt:=top 42
theorem sc_has_point:z0r ["ways","walls","signs","rows","bounds"] ["ways","walls","signs"] (z0j z2F):=⟨rfl,rfl,rfl,by decide+kernel,rfl,by decide+kernel,by decide+kernel⟩
open Classical in
noncomputable def y0B (K:PySem.W.Frag):Sp:=fun vs H Q _=>∃(m:Nat) (lw q:Addr) (as:List Addr) (ts:List (List Int)) (sg:List Int),vs=[.int (m:Nat),.ref lw,.ref q]∧H lw=some (.lst (as.map V.ref))∧TsA H as ts∧Ws64 m ts∧H q=some (.tup (sg.map V.int))∧sg.length=ts.length∧Sg3 sg∧∀H',Same H H'→Q (.bl (decide (Fce m ts sg))) H'
open Classical in
theorem z6R (T:Txt mg) (F:Fun K "has_point" "has_point" z2F f fd) (c_common:Cal P w K mg base 16 "common" ["ways","walls","lot"] (z8C K)) (c_turned:Cal P w K mg base 16 "turned" ["numbers","sign"] (z2q K)) (c_drawn:Cal P w K mg base 16 "drawn" ["rows","numbers"] (z3G K)) (c_spot_within:Cal P w K mg base 16 "spot_within" ["ways","bounds"] (y0t K)):FnOk P w K mg base CX0 17 f fd ["ways","walls","signs"] (y0B K):=by
 refine F.ok sc_has_point (fun vs H Q E h=>?_) (fun cdv A outer s H vs Q E hr h=>?_)
 ·obtain⟨_,_,_,_,_,_,rfl,_⟩:=h;rfl
 obtain⟨m,lw,q',as,ts,sg,rfl,hlw,hts,hW,hq,hl,h3,q⟩:=h
 have m4:=hW.m4
 have n4:=hW.n4
 have al:as.length=ts.length:=hts.1
 have no:¬Fce m ts sg→∀H',Same H H'→Q (.bl false) H':=fun h H' g=>by
  have:=q H' g
  rw[decide_eq_false h] at this
  exact this
 refine⟨_,(z0c (z0n (i:=3) sc_has_point.nd rfl (Or.inr rfl) (z0q c_common hr rfl (z0a (pv 0) (z0a (pv 1) (z0a (z0G (Nc:=["place","sign"]) (fr:=[none,none]) rfl (z5J (K:=K) rfl rfl T.enumerate (z0a (pv 2) z0d)) rfl (by decide) rfl (by decide) rfl trivial trivial (fun _ _ _ _=>(z1c (K:=K) rfl 2 rfl (z0u (z0k (i:=0) (show List.Nodup (["place","sign"]:List Str) from by decide) rfl (Or.inl rfl)) (z0u (z0k (i:=1) (show List.Nodup (["place","sign"]:List Str) from by decide) rfl (Or.inl rfl)) z0Y)))) (fun _ _ _ _=>(z2J (z0v z3q (pv 1) z0f (z0D _)))) (fun _ _ _ _=>(pv 0))) z0d)))))
  (z0c (z0S (z5a (z8K (pv 3))) (z0h (z0t z4I)) z0y)
  (z0c (z3o (jj:=4) rfl sc_has_point.nd rfl (Or.inl rfl) (Or.inl rfl) (Nc:=["numbers","sign"]) (fr:=[none,none]) rfl (z3p (K:=K) rfl rfl T.zip (z0a (pv 1) (z0a (pv 2) z0d))) rfl (by decide) rfl (by decide) rfl trivial trivial (fun _ _ _ _=>(z1c (K:=K) rfl 2 rfl (z0u (z0k (i:=0) (show List.Nodup (["numbers","sign"]:List Str) from by decide) rfl (Or.inl rfl)) (z0u (z0k (i:=1) (show List.Nodup (["numbers","sign"]:List Str) from by decide) rfl (Or.inl rfl)) z0Y)))) (fun _ _ _ _=>(z2J (z0v z6N (pv 1) z0f (z0D _)))) (fun _ _ _ _=>(z0q c_turned hr rfl (z0a (pv 0) (z0a (pv 1) z0d)))))
  (z0h (z0t (y6n (z7L (z0q c_spot_within hr rfl (z0a (z0s z1P (pv 0) (z0A (z1g (K:=K) rfl) rfl T.len PySem.boot_len (z0a (pv 3) z0d))) (z0a (z0G (Nc:=["bound","rows"]) (fr:=[none,some 3]) rfl (z0E (K:=K) rfl (pv 4)) rfl (by decide) rfl (by decide) rfl ⟨rfl,trivial⟩ ⟨⟨rfl,rfl,rfl,rfl⟩,trivial⟩ (fun _ _ _ _=>(z0k (i:=0) (show List.Nodup (["bound","rows"]:List Str) from by decide) rfl (Or.inl rfl))) (fun _ _ _ _=>z0H) (fun _ _ _ _=>(z0q c_drawn hr rfl (z0a (pv 1) (z0a (pv 0) z0d))))) z0d)))))))))),?_⟩
 refine z0p (fun σ H'=>Same H H'∧((∃r cs us,σ=[some (.int (m:Nat)),some (.ref lw),some (.ref q'),some (.ref r),none]∧H' r=some (.lst (cs.map V.ref))∧TsA H' cs us∧Rws m us∧(∀t∈us,∀n∈t,intBits n≤bnJ 64 us.length)∧In (us.map v)=In (((y0k sg).map fun i=>ts.getD i []).map v))∨(σ=[some (.int (m:Nat)),some (.ref lw),some (.ref q'),some .non,none]∧y2I m ((y0k sg).map fun i=>ts.getD i [])))) (fun N hN=>?_) ?_
 ·refine⟨_,rfl,_,rfl,_,rfl,q',false,_,rfl,SqT.of hq,fun D hD=>?_⟩
  refine z1R rfl (z3m K false q' (sg.map V.int)) hD zeV Prod.fst ?_ (fun H' g'=>SqT.of (g' _ _ hq)) (z0l (by unfold z3v;rw[List.length_mapIdx,List.length_map];lia)) ?_ ?_ ?_
  ·intro p u v σ H hp S h
   exact⟨p,_,rfl,SqT.of hp,rfl,_,_,rfl,_,_,rfl,rfl,h⟩
  ·intro c hc Hc gc S h
   unfold z3v at hc
   obtain⟨i,hi,rfl⟩:=List.mem_mapIdx.mp hc
   rw[q1C] at h ⊢
   have e:decide (V.int (sg[i]'(by simpa using hi))=V.int 0)=decide ((sg[i]'(by simpa using hi))=0):=decide_eq_decide.mpr ⟨fun z=>by injection z,fun z=>by rw[z]⟩
   refine⟨_,rfl,rfl,_,rfl,?_⟩
   rw[e]
   exact h
  ·intro c hc _ Hc gc S h
   exact⟨_,rfl,h⟩
  ·intro H1 g1 hD1
   have em:((z3v (sg.map V.int)).filter zeV).map Prod.fst=((y0k sg).map fun k=>((k:Nat):Int)).map V.int:=by
        have:=z7c sg 0
        unfold z3v y0k
        rw[q0x]
        exact this
   rw[em] at hD1
   refine⟨lw,D,as,ts,y0k sg,m,64,rfl,g1 _ _ hlw,hts.same g1,hD1,fun k hk=>?_,m4,by decide,hW.b64,fun r cs us H2 hr2 g2 er hcs hR hb hI=>hN _ _ ⟨g1.trans g2,.inl ⟨r,cs,us,rfl,er,hcs,hR,hb,hI⟩⟩,fun H2 g2 ho=>hN _ _ ⟨g1.trans g2,.inr ⟨rfl,ho⟩⟩⟩
   unfold y0k at hk
   rw[q1a,q1c] at hk
   lia
 rintro σ H1 ⟨g1,⟨r,cs,us,rfl,er,hcs,hR,hb,hI⟩|⟨rfl,ho⟩⟩
 rotate_left
 ·refine⟨_,rfl,_,rfl,?_⟩
  exact z5h (no (y3w hl ho) _ g1)
 have hle:us.length≤m:=y0O hR
 have cl:cs.length=us.length:=hcs.1
 obtain⟨k1,k2,k3,k4,k5⟩:=limR m4 hle
 refine z0p (fun σ H'=>σ=[some (.int (m:Nat)),some (.ref lw),some (.ref q'),some (.ref r),none]∧H1=H') (fun N hN=>?_) ?_
 ·refine⟨_,rfl,_,rfl,?_⟩
  exact z3t (hN _ _ ⟨rfl,rfl⟩)
 rintro σ H1' ⟨rfl,rfl⟩
 refine z0p (fun σ H'=>∃rb bs,σ=[some (.int (m:Nat)),some (.ref lw),some (.ref q'),some (.ref r),some (.ref rb)]∧Same H1 H'∧H' rb=some (.lst (bs.map V.ref))∧LsA H' bs (z7j ts sg)) (fun N hN=>?_) ?_
 ·refine⟨_,rfl,_,rfl,lw,q',true,false,_,_,rfl,SqL.of (g1 _ _ hlw),SqT.of (g1 _ _ hq),fun D hD=>?_⟩
  have dl:(as.zip (ts.zip sg)).length =ts.length:=by rw[q0I,q0I];lia
  refine z5l (as.zip (ts.zip sg)) (by rw[q0I,q0a,q0a,dl];lia) (z1L K true false lw q' (as.map V.ref) (sg.map V.int)) hD (fun d=>(V.ref d.1,V.int d.2.2)) ?_ (fun d=>decide (d.2.2≠0)) (fun H' d u=>∃p,u= .ref p∧p≠D∧H' p=some (.lst ((z0F d.2.2 d.2.1).map V.int))) ?_ ?_ (fun H' g'=>⟨SqL.of (g' _ _ (g1 _ _ hlw)),SqT.of (g' _ _ (g1 _ _ hq))⟩) (z0l (by rw[q0I,q0a];lia)) ?_ ?_ ?_
  ·intro i c d hc hd
   rw[q0G] at hc hd
   obtain⟨c1,c2⟩:=hc
   obtain⟨d1,d2⟩:=hd
   rw[q0G] at d2
   rw[q0g] at c1 c2
   rw[d1] at c1
   rw[d2.2] at c2
   obtain⟨u,v⟩:=c
   have h1:V.ref d.1=u:=Option.some.inj c1
   have h2:V.int d.2.2=v:=Option.some.inj c2
   rw[h1,h2]
  ·rintro H2 H3 d u k _ ⟨p,e1,e2,e3⟩
   exact⟨p,e1,e2,k _ _ e2 e3⟩
  ·intro p u v σ H hp S h
   exact⟨p,_,rfl,SqT.of hp,rfl,_,_,rfl,_,_,rfl,rfl,h⟩
  ·intro d hd Hc gc S h
   have e:(!decide (V.int d.2.2=V.int 0))=decide (d.2.2≠0):=by
        rw[q1v,Bool.not_eq_true',decide_eq_false_iff_not,decide_eq_true_iff]
        exact⟨fun z y=>z (by rw[y]),fun z y=>z (by injection y)⟩
   refine⟨_,rfl,rfl,_,rfl,?_⟩
   rw[e]
   exact h _ (Same.refl _)
  ·rintro d hd htst Hc gc ⟨acc,hacc⟩ S h
   obtain⟨i,hi⟩:=q1R.mp hd
   rw[q0G] at hi
   obtain⟨d1,d2⟩:=hi
   rw[q0G] at d2
   have ha:=hts.2 i d.1 d.2.1 d1 d2.1
   have hm:=hW.b64 _ (q0B d2.1)
   have hx:=h3 _ (q0B d2.2)
   have h0:d.2.2≠0:=of_decide_eq_true htst
   refine⟨_,rfl,_,rfl,d.1,d.2.1,d.2.2,rfl,.inr (SqT.of (gc _ _ (g1 _ _ ha))),by rw[hm.1];lia,by lia,fun n hn=>q0m (hm.2 n hn) (by decide),fun r H' hr g' e'=>?_⟩
   exact h _ _ g' ⟨r,rfl,fun z=>(by rw[z,hacc] at hr;cases hr),e'⟩
  ·intro vs H2 g2 hD2 he
   obtain⟨bs,rfl,hbs⟩:=LsA.of (gf:=fun d:Addr×List Int×Int=>z0F d.2.2 d.2.1) (rows:=[]) he
   have e:((as.zip (ts.zip sg)).filter fun d=>decide (d.2.2≠0)).map (fun d=>z0F d.2.2 d.2.1)=z7j ts sg:=by
        unfold z7j
        rw[←z4P (fun p:List Int×Int=>decide (p.2≠0)) as (ts.zip sg) (by rw[q0I];lia),q0x];rfl
   rw[e] at hbs
   exact hN _ _ ⟨D,bs,rfl,g2,hD2,hbs⟩
 rintro σ H2 ⟨rb,bs,rfl,g2,erb,hbs⟩
 have nl:(z7j ts sg).length ≤4:=by
  unfold z7j
  rw[q0a]
  refine q0m (q1q _ _) ?_
  rw[q0I];lia
 have bnd:∀b∈z7j ts sg,Bd m 32 64 b:=fun b hb=>by
  obtain⟨i,hi,h0,rfl⟩:=(z5V hl).mp hb
  have hm:v sg i∈sg:=by
   show sg.getD i 0∈sg
   rw[q0b,q0c (by lia)]
   exact q0w _
  refine (hW.bd _ (q0w hi)).turn ?_
  have:=h3 _ hm
  lia
 have bl:bs.length=(z7j ts sg).length :=hbs.1
 have er2:=g2 _ _ er
 have hcs2:=hcs.same g2
 refine⟨_,rfl,_,rfl,r,_,rfl,.inl (SqL.of er2),_,_,rfl,rfl,_,rfl,rb,rfl,⟨_,SqL.of erb⟩,fun D hD=>?_⟩
 refine z0X (bs.zip (z7j ts sg)) (by rw[q0a,q0I];lia) (z0B K rb (bs.map V.ref)) hD (fun d σ=>σ.set 0 (some (.ref d.1))) (fun d e σ=>q1Q ..) (fun _=>true) (fun H' d u=>∃p,u= .ref p∧p≠D∧H' p=some (.lst ((drL m us d.2).map V.int))) ?_ (fun H' g'=>SqL.of (g' _ _ erb)) (z0l (by rw[q0a];lia)) ?_ ?_ ?_ ?_
 ·rintro H3 H4 d u k _ ⟨p,e1,e2,e3⟩
  exact⟨p,e1,e2,k _ _ e2 e3⟩
 ·intro i x d hx hd σ H3 g3 S h
  rw[q0g] at hx
  obtain⟨a,ha,rfl⟩:=q0r.mp hx
  obtain⟨h1,h2⟩:=q0G.mp hd
  rw[ha] at h1
  cases h1
  exact h
 ·intro d hd Hc gc S h
  exact h _ (Same.refl _)
 ·rintro d hd _ Hc gc ⟨acc,hacc⟩ S h
  obtain⟨i,hi⟩:=q1R.mp hd
  obtain⟨d1,d2⟩:=q0G.mp hi
  have hbd:=bnd _ (q0B d2)
  refine⟨_,rfl,_,rfl,r,d.1,cs,us,d.2,m,64,bnJ 64 us.length,rfl,gc _ _ er2,⟨hcs2.1,fun i a t a1 a2=> .inr (SqT.of (gc _ _ (hcs2.2 i a t a1 a2)))⟩,.inl (SqL.of (gc _ _ (hbs.2 i _ _ d1 d2))),hbd.len,by lia,by lia,fun t ht=>⟨(hR.row t ht).1,hR.nz ht,hb t ht⟩,fun n hn=>q0m (hbd.all n hn) (by decide),k3,k5,fun r2 H' hr2 _ g' e'=>?_⟩
  exact h _ _ g' ⟨r2,rfl,fun z=>(by rw[z,hacc] at hr2;cases hr2),e'⟩
 ·intro vs H3 g3 hD3 he
  rw[z0z] at he
  obtain⟨ds,rfl,hds⟩:=LsA.of (gf:=fun d:Addr×List Int=>drL m us d.2) (rows:=[]) he
  have e:(bs.zip (z7j ts sg)).map (fun d=>drL m us d.2)=(z7j ts sg).map (drL m us):=by
   have:(bs.zip (z7j ts sg)).map (fun d=>drL m us d.2)=((bs.zip (z7j ts sg)).map Prod.snd).map (drL m us):=by rw[q0x];rfl
   rw[this,List.map_snd_zip (by lia)]
  rw[e] at hds
  have em:(m:Int) - (((cs.map V.ref).length :Nat):Int)=((m - us.length:Nat):Int):=by rw[q0a,cl];lia
  dsimp only
  rw[em]
  have gg:=g1.trans (g2.trans g3)
  have hfi:=y3x hl h3 (fun t ht=>(hW.wl t ht).len) hR hI
  refine⟨m - us.length,by lia,m - us.length,D,ds,(z7j ts sg).map (drL m us),bR us.length,cR us.length,rfl,rfl,hD3,hds,fun d hd=>?_,k1,by lia,by rw[q0a];lia,fun r4 sp H4 hr4 g4 er4 hw4 _=>?_,fun H4 g4 hno=>?_⟩
  ·obtain⟨b,hbm,rfl⟩:=q0f.mp hd
   have hbd:=bnd b hbm
   have hz:=y2q hR hb hbd.len (bx:=64) (fun n hn=>q0m (hbd.all n hn) (by decide))
   cases us with
   |nil=>
    have e1:drL m [] b=b:=by
        unfold drL z3n z0P
        rw[q1x.mpr (fun _ _=>by simp)]
        refine List.ext_getElem (by simp[hbd.len]) fun i a b'=>?_
        rw[q1C,List.getElem_range]
        show b.getD i 0=_
        rw[q0b,q0c b'];rfl
    rw[e1]
    exact hbd
   |cons u us=>exact⟨z4z hR b,fun j _=>z0N hz j,z0N hz _⟩
  ·have:=q H4 (gg.trans g4)
   rw[decide_eq_true (hfi.mp ⟨sp,hw4⟩)] at this
   exact this
  ·exact no (fun h=>hno (hfi.mpr h)) _ (gg.trans g4)
end
end L2
namespace L2
open PySem PySem.Spec PyProof.Rows
section
open Fr Wl Rk Pt Ld Fc Pa
open Builtin.Int (intBits)
variable {P:Program}{w:World}{K:PySem.W.Frag}{mg:Str→Option Value}{base:Heap}{f:Addr}{fd:FuncData}
def y0u:Sp:=fun vs H Q _=>∃i:Int,vs=[.int i]∧Q (.bl true) H
abbrev z3k:Stmt:=top 13
theorem z7E:z0r ["number"] ["number"] (z0j z3k):=⟨rfl,rfl,rfl,by decide+kernel,rfl,by decide+kernel,by decide+kernel⟩
theorem z7R (T:Txt mg) (F:Fun K "is_whole" "is_whole" z3k f fd):FnOk P w K mg base CX0 1 f fd ["number"] y0u:=by
 refine F.ok z7E (fun vs H Q E h=>?_) (fun cdv A outer s H vs Q E hr h=>?_)
 ·obtain⟨_,rfl,_⟩:=h;rfl
 obtain⟨i,rfl,q⟩:=h
 refine⟨_,(z0h (z0t (y1g (z0A z2N rfl T.isinstance boot_isinstance (z0a (pv 0) (z0a (z5K (v:= .ty "int") rfl T.int boot_int rfl) z0d))) (y1d (y6m (z0A z2N rfl T.isinstance boot_isinstance (z0a (pv 0) (z0a (z5K (v:= .ty "bool") rfl T.bool boot_bool rfl) z0d)))))))),?_⟩
 exact⟨_,rfl,_,_,_,_,rfl,.int i,rfl,_,rfl,z5h ⟨_,rfl,_,_,_,_,rfl,.int i,rfl,_,rfl,q⟩⟩
def z1i (m:Nat) (ts:List (List Int)) (sg:List Int):Prop:=sg.length=ts.length∧Fce m ts sg
def inS (n:Int):Bool:=inV (V.int n) [V.int (-1),V.int 0,V.int 1]
theorem y1T (n:Int):inS n=true↔n= -1∨n=0∨n=1:=by
 unfold inS inV
 show ((((-1:Int)==n) || (((0:Int)==n) || (((1:Int)==n) || false)))=true)↔_
 rw[Bool.or_false,Bool.or_eq_true,Bool.or_eq_true,beq_iff_eq,beq_iff_eq,beq_iff_eq]
 lia
theorem y2D (sg:List Int):((sg.map fun n=>V.bl (inS n)).all trV=true)↔Sg3 sg:=by
 rw[List.all_map,List.all_eq_true]
 constructor
 ·exact fun h x hx=>(y1T x).mp (h x hx)
 ·exact fun h x hx=>(y1T x).mpr (h x hx)
structure WsB (H:Hp) (m:Nat) (lw:Addr) (as:List Addr) (ts:List (List Int)):Prop where
 lst:H lw=some (.lst (as.map V.ref))
 rows:TsA H as ts
 ws:Ws64 m ts
theorem WsB.same {H H':Hp}{m:Nat}{lw:Addr}{as:List Addr}{ts:List (List Int)} (h:WsB H m lw as ts) (g:Same H H'):WsB H' m lw as ts:=⟨g _ _ h.lst,h.rows.same g,h.ws⟩
abbrev z4f:Stmt:=top 43
theorem z9C:z0r ["ways","walls","signs"] ["ways","walls","signs"] (z0j z4f):=⟨rfl,rfl,rfl,by decide+kernel,rfl,by decide+kernel,by decide+kernel⟩
open Classical in
noncomputable def z8z (K:PySem.W.Frag):Sp:=fun vs H Q _=>∃(m:Nat) (lw q:Addr) (as:List Addr) (ts:List (List Int)) (sg:List Int),vs=[.int (m:Nat),.ref lw,.ref q]∧WsB H m lw as ts∧H q=some (.tup (sg.map V.int))∧sg.length≤30∧∀H',Same H H'→Q (.bl (decide (z1i m ts sg))) H'
open Classical in
theorem z9P (T:Txt mg) (F:Fun K "is_face" "is_face" z4f f fd) (c_is_whole:Cal P w K mg base 17 "is_whole" ["number"] y0u) (c_has_point:Cal P w K mg base 17 "has_point" ["ways","walls","signs"] (y0B K)):FnOk P w K mg base CX0 18 f fd ["ways","walls","signs"] (z8z K):=by
 refine F.ok z9C (fun vs H Q E h=>?_) (fun cdv A outer s H vs Q E hr h=>?_)
 ·obtain⟨_,_,_,_,_,_,rfl,_⟩:=h;rfl
 obtain⟨m,lw,q',as,ts,sg,rfl,hW,hq,s30,q⟩:=h
 refine⟨_,(z0c (z0S (z0v z6N (z0A (z1g (K:=K) rfl) rfl T.len PySem.boot_len (z0a (pv 2) z0d)) (z0A (z1g (K:=K) rfl) rfl T.len PySem.boot_len (z0a (pv 1) z0d)) (z0D _)) (z0h (z0t z4I)) z0y)
  (z0c (z0S (z4Z (z2V (z0A (y2B (K:=K) rfl rfl) rfl T.all boot_all (z0a (z0G (Nc:=["sign"]) (fr:=[none]) rfl (y1b (K:=K) rfl (pv 2)) rfl (by decide) rfl (by decide) rfl trivial trivial (fun _ _ _ _=>(z0k (i:=0) (show List.Nodup (["sign"]:List Str) from by decide) rfl (Or.inl rfl))) (fun _ _ _ _=>z0H) (fun _ _ _ _=>(y1g (z0q c_is_whole hr rfl (z0a (pv 0) z0d)) (y1d (y5a (y6s (K:=K) rfl) (pv 0) (z2e (z0a (z1O z1d z0f) (z0a z0f (z0a z0f z0d)))) (by with_unfolding_all rfl)))))) z0d)))) (z0h (z0t z4I)) z0y)
  (z0h (z0t (z0q c_has_point hr rfl (z0a (pv 0) (z0a (pv 1) (z0a (pv 2) z0d)))))))),?_⟩
 have no:¬z1i m ts sg→∀H',Same H H'→Q (.bl false) H':=fun h H' g=>by
  have:=q H' g
  rw[decide_eq_false h] at this
  exact this
 refine z0p (fun σ H'=>σ=[some (.int (m:Nat)),some (.ref lw),some (.ref q')]∧H=H'∧sg.length=ts.length) (fun N hN=>?_) ?_
 ·refine⟨_,rfl,q',_,rfl,.inr (SqT.of hq),_,rfl,lw,_,rfl,.inl (SqL.of hW.lst),rfl,_,rfl,?_⟩
  rw[q0a,q0a,hW.rows.1]
  refine z3f (fun cc=>?_) (fun cc=>?_)
  ·refine no (fun h=>?_) _ (Same.refl _)
   rw[h.1] at cc
   simp at cc
  ·have:(((sg.length:Nat):Int))=((ts.length:Nat):Int):=by
        have h2:V.int ((sg.length:Nat):Int)=V.int ((ts.length:Nat):Int):=q0H fun z=>cc (by rw[decide_eq_false z];rfl)
        injection h2
   exact hN _ _ ⟨rfl,rfl,by lia⟩
 rintro σ H0 ⟨rfl,rfl,hl⟩
 refine z0p (fun σ H'=>σ=[some (.int (m:Nat)),some (.ref lw),some (.ref q')]∧Same H H'∧Sg3 sg) (fun N hN=>?_) ?_
 ·refine⟨_,rfl,q',rfl,⟨_,SqT.of hq⟩,fun D hD=>?_⟩
  refine z0X sg (by rw[q0a]) (z5G K q' (sg.map V.int)) hD (fun n σ=>σ.set 0 (some (.int n))) (fun d e σ=>q1Q ..) (fun _=>true) (fun H' n u=>u= .bl (inS n)) (fun _ _ _ _ _ _ h=>h) (fun H' g'=>SqT.of (g' _ _ hq)) (z0l (by rw[q0a];lia)) ?_ ?_ ?_ ?_
  ·intro i x d hx hd σ H2 g2 S h
   rw[q0g,hd] at hx
   cases hx
   exact h
  ·intro d hd Hc gc S h
   exact h _ (Same.refl _)
  ·intro d hd _ Hc gc _ S h
   refine⟨_,rfl,d,rfl,_,rfl,?_⟩
   refine z5h ?_
   refine⟨_,rfl,_,rfl,z0l (by show 3≤_;decide),fun z hz=>?_⟩
   exact⟨z,_,rfl,.inr (SqT.of z0b),rfl,rfl,h _ _ (z0e hz _) rfl⟩
  ·intro us H1 g1 hD1 he
   rw[z0z] at he
   have eu:us=sg.map fun n=>V.bl (inS n):=by
        clear hD1 hq hl s30 q no hN
        induction he with
        |nil=>rfl
        |cons h1 _ ih=>rw[h1,ih];rfl
   subst eu
   refine⟨D,_,rfl,.inl (SqL.of hD1),fun y hy=>(by obtain⟨n,_,rfl⟩:=q0f.mp hy;trivial),_,rfl,?_⟩
   by_cases hs:Sg3 sg
   ·rw[(y2D sg).mpr hs]
    refine z3t ?_
    exact hN _ _ ⟨rfl,g1,hs⟩
   ·have h0:(sg.map fun n=>V.bl (inS n)).all trV=false:=by
     cases z:(sg.map fun n=>V.bl (inS n)).all trV with
     |false=>rfl
     |true=>exact absurd ((y2D sg).mp z) hs
    rw[h0]
    refine z5h ?_
    refine no (fun h=>hs ?_) _ g1
    obtain⟨s,_,e⟩:=h.2
    rw[e];exact y5W
 rintro σ H1 ⟨rfl,g1,hs⟩
 have hW1:=hW.same g1
 refine⟨_,rfl,_,rfl,_,rfl,m,lw,q',as,ts,sg,rfl,hW1.lst,hW1.rows,hW.ws,g1 _ _ hq,hl,hs,fun H2 g2=>?_⟩
 have:=q H2 (g1.trans g2)
 rw[show decide (z1i m ts sg)=decide (Fce m ts sg) from decide_eq_decide.mpr ⟨fun h=>h.2,fun h=>⟨hl,h⟩⟩] at this
 exact this
abbrev z1T:Stmt:=top 44
theorem z4G:z0r ["ways","walls","signs"] ["ways","walls","signs"] (z0j z1T):=⟨rfl,rfl,rfl,by decide+kernel,rfl,by decide+kernel,by decide+kernel⟩
def z6y (K:PySem.W.Frag) (C:Addr):Sp:=fun vs H Q E=>∃(m:Nat) (lw q:Addr) (as:List Addr) (ts:List (List Int)) (sg:List Int),vs=[.int (m:Nat),.ref lw,.ref q]∧WsB H m lw as ts∧H q=some (.tup (sg.map V.int))∧sg.length≤30∧((z1i m ts sg∧∀H',Same H H'→Q .non H')∨(¬z1i m ts sg∧∀H',Same H H'→E (.ref C) none H'))
open Classical in
theorem z4n {C:Addr} (T:Txt mg) (F:Fun K "looked_face" "looked_face" z1T f fd) (c_is_face:Cal P w K mg base 18 "is_face" ["ways","walls","signs"] (z8z K)) (mk:y5D K C) (mC:mg "NoFace"=some (.ref C)):FnOk P w K mg base (CX1 P w base) 19 f fd ["ways","walls","signs"] (z6y K C):=by
 refine F.ok1 z4G (fun vs H Q E h=>?_) (fun cdv A outer s H vs Q E hr B h=>?_)
 ·obtain⟨_,_,_,_,_,_,rfl,_⟩:=h;rfl
 obtain⟨m,lw,q',as,ts,sg,rfl,hW,hq,s30,h⟩:=h
 refine⟨_,(z0h (z0S (z4Z (z2V (z0q c_is_face hr rfl (z0a (pv 0) (z0a (pv 1) (z0a (pv 2) z0d)))))) (z0h (y3b B rfl mk mC rfl (z0a y6l z0d))) z0y)),?_⟩
 refine⟨_,rfl,_,rfl,_,rfl,m,lw,q',as,ts,sg,rfl,hW,hq,s30,fun H1 g1=>?_⟩
 refine⟨_,rfl,?_⟩
 rcases h with⟨hg,q⟩|⟨hb,q⟩
 ·rw[decide_eq_true hg]
  refine z3t ?_
  exact q _ g1
 ·rw[decide_eq_false hb]
  refine z5h ?_
  exact⟨by show 1≤sizeLine;decide,q _ g1⟩
abbrev z2C:Stmt:=top 45
theorem z6E:z0r ["ways","walls","one","other"] ["ways","walls","one","other"] (z0j z2C):=⟨rfl,rfl,rfl,by decide+kernel,rfl,by decide+kernel,by decide+kernel⟩
def z7y (K:PySem.W.Frag) (C:Addr):Sp:=fun vs H Q E=>∃(m:Nat) (lw q1 q2:Addr) (as:List Addr) (ts:List (List Int)) (s1 s2:List Int),vs=[.int (m:Nat),.ref lw,.ref q1,.ref q2]∧WsB H m lw as ts∧H q1=some (.tup (s1.map V.int))∧H q2=some (.tup (s2.map V.int))∧s1.length≤30∧s2.length≤30∧
 ((z1i m ts s1∧z1i m ts s2∧∀(r:Addr) (H':Hp),Same H H'→H' r=some (.tup ((ahL s1 s2).map V.int))→Q (.ref r) H')∨(¬(z1i m ts s1∧z1i m ts s2)∧∀H',Same H H'→E (.ref C) none H'))
theorem z5O {C:Addr} (T:Txt mg) (F:Fun K "put_ahead" "put_ahead" z2C f fd) (c_looked_face:Cal1 P w K mg base 19 "looked_face" ["ways","walls","signs"] (z6y K C)):FnOk P w K mg base (CX1 P w base) 20 f fd ["ways","walls","one","other"] (z7y K C):=by
 refine F.ok1 z6E (fun vs H Q E h=>?_) (fun cdv A outer s H vs Q E hr B h=>?_)
 ·obtain⟨_,_,_,_,_,_,_,_,rfl,_⟩:=h;rfl
 obtain⟨m,lw,q1,q2,as,ts,s1,s2,rfl,hW,h1,h2,l1,l2,h⟩:=h
 refine⟨_,(z0c (z1E (y1f c_looked_face hr (y6o B fun _ _ _ h=>h) rfl (z0a (pv 0) (z0a (pv 1) (z0a (pv 2) z0d)))))
  (z0c (z1E (y1f c_looked_face hr (y6o B fun _ _ _ h=>h) rfl (z0a (pv 0) (z0a (pv 1) (z0a (pv 3) z0d)))))
  (z0h (z0t (z0J (z0W (K:=K) rfl) rfl T.tuple boot_tuple (z0a (z0G (Nc:=["first","second"]) (fr:=[none,none]) rfl (z3p (K:=K) rfl rfl T.zip (z0a (pv 2) (z0a (pv 3) z0d))) rfl (by decide) rfl (by decide) rfl trivial trivial (fun _ _ _ _=>(z1c (K:=K) rfl 2 rfl (z0u (z0k (i:=0) (show List.Nodup (["first","second"]:List Str) from by decide) rfl (Or.inl rfl)) (z0u (z0k (i:=1) (show List.Nodup (["first","second"]:List Str) from by decide) rfl (Or.inl rfl)) z0Y)))) (fun _ _ _ _=>z0H) (fun _ _ _ _=>(z3I (z0v z6N (pv 0) z0f (z0D _)) (pv 0) (pv 1)))) z0d)))))),?_⟩
 have bad:¬(z1i m ts s1∧z1i m ts s2)→∀H',Same H H'→E (.ref C) none H':=fun hn=>by
  rcases h with⟨a,b,_⟩|⟨_,q⟩
  ·exact absurd ⟨a,b⟩ hn
  ·exact q
 refine z0p (fun σ H'=>σ=[some (.int (m:Nat)),some (.ref lw),some (.ref q1),some (.ref q2)]∧Same H H'∧z1i m ts s1) (fun N hN=>?_) ?_
 ·refine⟨_,rfl,_,rfl,_,rfl,m,lw,q1,as,ts,s1,rfl,hW,h1,l1,?_⟩
  by_cases hf:z1i m ts s1
  ·exact .inl ⟨hf,fun H1 g1=>hN _ _ ⟨rfl,g1,hf⟩⟩
  ·exact .inr ⟨hf,bad fun z=>hf z.1⟩
 rintro σ H1 ⟨rfl,g1,f1⟩
 refine z0p (fun σ H'=>σ=[some (.int (m:Nat)),some (.ref lw),some (.ref q1),some (.ref q2)]∧Same H H'∧z1i m ts s2) (fun N hN=>?_) ?_
 ·refine⟨_,rfl,_,rfl,_,rfl,m,lw,q2,as,ts,s2,rfl,hW.same g1,g1 _ _ h2,l2,?_⟩
  by_cases hf:z1i m ts s2
  ·exact .inl ⟨hf,fun H2 g2=>hN _ _ ⟨rfl,g1.trans g2,hf⟩⟩
  ·exact .inr ⟨hf,fun H2 g2=>bad (fun z=>hf z.2) _ (g1.trans g2)⟩
 clear g1
 rintro σ H1 ⟨rfl,g1,f2⟩
 have q:∀(r:Addr) (H':Hp),Same H H'→H' r=some (.tup ((ahL s1 s2).map V.int))→Q (.ref r) H':=by
  rcases h with⟨_,_,q⟩|⟨hn,_⟩
  ·exact q
  ·exact absurd ⟨f1,f2⟩ hn
 clear h bad
 have h11:=g1 _ _ h1
 have h21:=g1 _ _ h2
 refine⟨_,rfl,_,rfl,q1,q2,false,false,_,_,rfl,SqT.of h11,SqT.of h21,fun D hD=>?_⟩
 refine z1R rfl (z1L K false false q1 q2 (s1.map V.int) (s2.map V.int)) hD (fun _=>true) (fun c=>match c with|(.int m,.int n)=> .int (if m≠0 then m else n)|_=> .non) ?_ (fun H' g'=>⟨SqT.of (g' _ _ h11),SqT.of (g' _ _ h21)⟩) (z0l (by rw[q0I,q0a,q0a];lia)) ?_ ?_ ?_
 ·intro p u v σ H hp S h
  exact⟨p,_,rfl,SqT.of hp,rfl,_,_,rfl,_,_,rfl,rfl,h⟩
 ·intro c hc Hc gc S h
  exact h
 ·intro c hc _ Hc gc S h
  obtain⟨c1,c2⟩:=c
  obtain⟨a1,a2⟩:=q1J hc
  obtain⟨m',hm,rfl⟩:=q0f.mp a1
  obtain⟨n',hn,rfl⟩:=q0f.mp a2
  refine⟨_,rfl,rfl,_,rfl,?_⟩
  refine z3f (fun cc=>?_) (fun cc=>?_)
  ·have z:m'≠0:=fun e=>by rw[e] at cc;simp at cc
   have h':S (.int (if m'≠0 then m' else n')) Hc:=h
   rw[if_pos z] at h'
   exact⟨_,rfl,h'⟩
  ·have z:¬m'≠0:=fun e=>cc (by rw[decide_eq_false (fun y=>e (by injection y))];rfl)
   have h':S (.int (if m'≠0 then m' else n')) Hc:=h
   rw[if_neg z] at h'
   exact⟨_,rfl,h'⟩
 ·intro H2 g2 hD2
  rw[z0z] at hD2
  have em:((s1.map V.int).zip (s2.map V.int)).map (fun c=>match c with|(.int m,.int n)=>V.int (if m≠0 then m else n)|_=> .non)=(ahL s1 s2).map V.int:=by
   unfold ahL
   rw[z2p,q0x,List.zip_map,q0x]
   rfl
  rw[em] at hD2
  exact⟨D,_,rfl,.inl ⟨SqL.of hD2,fun t1 ht1=>q t1 _ (g1.trans (g2.trans (z0e ht1 _))) z0b⟩⟩
end
end L2
namespace L2
open PySem PySem.Spec PyProof.Rows
section
open Fr Wl Rk Pt Ld Fc Pa
open Builtin.Int (intBits)
variable {P:Program}{w:World}{K:PySem.W.Frag}{mg:Str→Option Value}{base:Heap}{f:Addr}{fd:FuncData}
theorem y2g {H:Hp}{FS:List (List Int)}{xs:List V} (h:Each (FaceAt H) FS xs):∃zs,TsA H zs FS∧∀(i:Nat) (x:V) (z:Addr),xs[i]? =some x→zs[i]? =some z→∃p b,x= .ref p∧H p=some (.tup [.ref z,.ref b]):=by
 induction h with
 |nil=>exact⟨[],TsA.nil,fun i x z e=>by simp at e⟩
 | @cons s x FS xs h1 _ ih=>
   obtain⟨zs,h2,h3⟩:=ih
   obtain⟨p,a,b,e,e1,e2⟩:=h1
   refine⟨a::zs,⟨by rw[q0u,q0u,h2.1],fun i z t a1 a2=>?_⟩,fun i y z a1 a2=>?_⟩
   ·cases i with
    |zero=>cases a1;cases a2;exact e2
    |succ i=>exact h2.2 i z t a1 a2
   ·cases i with
    |zero=>cases a1;cases a2;exact⟨p,b,e,e1⟩
    |succ i=>exact h3 i y z a1 a2
theorem y2l {α:Type}{R:α→V→Prop}{ys xs:List V} (h:ys.Perm xs):∀{as:List α},Each R as xs→∃bs,bs.Perm as∧Each R bs ys:=by
 induction h with
 |nil=>intro as p;cases p;exact⟨[],.nil,.nil⟩
 |cons x _ ih=>
  intro as p
  cases p with
  |cons r t=>
   obtain⟨l,h1,h2⟩:=ih t
   exact⟨_::l,h1.cons _,.cons r h2⟩
 |swap x y l=>
  intro as p
  cases p with
  |cons r t=>
   cases t with
   |cons r2 t=>exact⟨_::_::_,.swap _ _ _,.cons r2 (.cons r t)⟩
 |trans _ _ ih1 ih2=>
  intro as p
  obtain⟨l2,p2,e2⟩:=ih2 p
  obtain⟨l1,p1,e1⟩:=ih1 e2
  exact⟨l1,p1.trans p2,e1⟩
theorem Each.app {α:Type}{R:α→V→Prop}{as bs:List α}{xs ys:List V} (h:Each R as xs) (g:Each R bs ys):Each R (as++bs) (xs++ys):=by
 induction h with
 |nil=>exact g
 |cons a _ ih=>exact .cons a ih
abbrev z7I:Stmt:=top 41
theorem sc_faces:z0r ["ways","walls","found","rows"] ["ways","walls"] (z0j z7I):=⟨rfl,rfl,rfl,by decide+kernel,rfl,by decide+kernel,by decide+kernel⟩
def y0C (K:PySem.W.Frag):Sp:=fun vs H Q _=>∃(lw:Addr) (as:List Addr) (ts:List (List Int)) (m:Nat),vs=[.int (m:Nat),.ref lw]∧H lw=some (.lst (as.map V.ref))∧TsA H as ts∧Ws64 m ts∧
 ∀(r:Addr) (xs:List V) (FS:List (List Int)) (H':Hp),H r=none→Same H H'→H' r=some (.lst xs)→Each (FaceAt H') FS xs→(∀s,s∈FS↔Fce m ts s)→FS.length≤81→Q (.ref r) H'
theorem y3m (T:Txt mg) (F:Fun K "faces" "faces" z7I f fd) (c_all_parts:Cal P w K mg base 18 "all_parts" ["walls"] (z4W K)) (c_faces_in:Cal P w K mg base 18 "faces_in" ["ways","walls","rows"] (z6z K)) (c_signs_of:Cal P w K mg base 16 "signs_of" ["face"] (z6w K)):FnOk P w K mg base CX0 19 f fd ["ways","walls"] (y0C K):=by
 refine F.ok sc_faces (fun vs H Q E h=>?_) (fun cdv A outer s H vs Q E hr h=>?_)
 ·obtain⟨_,_,_,_,rfl,_⟩:=h;rfl
 obtain⟨lw,as,ts,m,rfl,hlw,hts,hW,q⟩:=h
 refine⟨_,(z0c (z0n (i:=2) sc_faces.nd rfl (Or.inl rfl) (z0U z0d))
  (z0c (z1f PassesOwn.never rfl (z0E (K:=K) rfl (z0q c_all_parts hr rfl (z0a (pv 1) z0d))) (z0k (i:=3) sc_faces.nd rfl (Or.inl rfl)) (z0h (z1E (z6K PySem.F.plainAttrs_list PySem.F.slot_list_extend PySem.F.type_list_extend y1v (pv 2) (z0a (z0q c_faces_in hr rfl (z0a (pv 0) (z0a (pv 1) (z0a (pv 3) z0d)))) z0d)))))
  (z0h (z0t (Pm.pe_sortP hr.units c_signs_of hr rfl T.sorted rfl (pv 2)))))),?_⟩
 have m4:=hW.m4
 have n4:=hW.n4
 have hlen:∀t∈ts,t.length=m+1:=fun t ht=>(hW.wl t ht).len
 refine z0p (fun σ H'=>∃r,H r=none∧σ=[some (.int (m:Nat)),some (.ref lw),some (.ref r),none]∧Same H H'∧H' r=some (.lst [])) (fun N hN=>?_) ?_
 ·exact⟨q0K _,fun r hr=>hN _ _ ⟨r,hr,rfl,z0e hr _,z0b⟩⟩
 rintro σ H0 ⟨r,hr0,rfl,g0,e0⟩
 refine z0p (fun σ H'=>∃s3 xs FS,σ=[some (.int (m:Nat)),some (.ref lw),some (.ref r),s3]∧Same H H'∧H' r=some (.lst xs)∧Each (FaceAt H') FS xs∧(∀s,s∈FS↔Fce m ts s)∧FS.length≤81∧FS.Nodup∧∀s∈FS,s.length=ts.length) (fun N hN=>?_) ?_
 ·refine⟨_,rfl,lw,as,ts,m,64,rfl,g0 _ _ hlw,hts.same g0,by lia,m4,by decide,hW.b64,fun pr ps H1 hpr g1 epr hps _ hP=>?_⟩
  have e1:=g1 _ _ e0
  have npr:pr≠r:=(z0g e0 hpr).symm
  refine⟨pr,rfl,⟨_,SqL.of epr⟩,?_⟩
  refine z0I (z0B K pr (ps.map fun p=>V.ref p.a)) (fun i σ H'=>∃s3 xs FS,σ=[some (.int (m:Nat)),some (.ref lw),some (.ref r),s3]∧(∀b o,b≠r→H1 b=some o→H' b=some o)∧H' r=some (.lst xs)∧Each (FaceAt H') FS xs∧FI m ts ((ps.take i).map PtD.us) FS) ⟨_,[],[],rfl,fun _ _ _ e=>e,e1,.nil,FI.nil⟩ (fun i σ H' _ h=>by obtain⟨_,_,_,_,k,_⟩:=h;exact SqL.of (k _ _ npr epr)) ?_ ?_
  ·rintro i x σ HA HB hi ⟨s3,xs,FS,rfl,k,er,hE,hF⟩ ⟨rfl,hx⟩
   rw[q0a] at hi
   rw[q0g] at hx
   obtain⟨p,hp,rfl⟩:=q0r.mp hx
   have hpm:p∈ps:=q0B hp
   obtain⟨pn,pl1,pl2⟩:=hps p hpm
   have pne:p.a≠r:=(z0g e0 pn).symm
   have tk:(ps.take (i+1)).map PtD.us=(ps.take i).map PtD.us++[p.us]:=by rw[q0E,hp,q0p];rfl
   have gH:∀b o,H b=some o→HB b=some o:=fun b o e=>k _ _ (z0g e hr0) (g1 _ _ (g0 _ _ e))
   have kt:∀(b:Addr) (t:List Int),H1 b=some (.tup (t.map V.int))→HB b=some (.tup (t.map V.int)):=fun b t e=>k _ _ (fun z=>by rw[z,e1] at e;cases e) e
   obtain⟨hR,hb⟩:=hP.good p.us (q0A hpm)
   have hF9:=hF.few
   have p81:3^ts.length≤81:=q0m (q1Y (by decide) n4) (by decide)
   refine⟨_,rfl,.inl ⟨rfl,_,SqL.of er⟩,_,rfl,_,rfl,_,rfl,lw,p.a,as,p.bs,ts,p.us,m,rfl,gH _ _ hlw,⟨hts.1,fun i a t a1 a2=>gH _ _ (hts.2 i a t a1 a2)⟩,k _ _ pne pl1,⟨pl2.1,fun i a t a1 a2=>kt _ _ (pl2.2 i a t a1 a2)⟩,hW,hR,hb,fun r1 ys ds H2 hr1 g2 er1 hE1 hd1 hw1=>?_⟩
   have nin:p.us∉(ps.take i).map PtD.us:=by
        have nd:=hP.nd
        rw[←q1P (i+1) ps,q0p,tk] at nd
        have:=(q1w.mp (q1w.mp nd).1).2.2
        exact fun z=>this _ z _ (by simp) rfl
   have hF2:=hF.more hP hlen (fun u hu=>by
        obtain⟨p',hp',rfl⟩:=q0f.mp hu
        exact q0A (q1D hp')) (q0A hpm) nin hd1 (by rw[hd1];exact z6C _ _ _) hw1
   have hf2:=hF2.few
   have nl:xs.length+ys.length≤81:=by
        have:=hE.length
        have h2:=hE1.length
        rw[q0l,] at hf2
        lia
   refine⟨r,r1,xs,ys,rfl,rfl,g2 _ _ er,er1,z0l (by lia),?_⟩
   have er2:=g2 _ _ er
   have kk:∀b o,b≠r→H2 b=some o→upd H2 r (.lst (xs++ys)) b=some o:=fun b o hb e=>by rw[z0i hb];exact e
   refine⟨_,xs++ys,_,rfl,fun b o hb e=>kk _ _ hb (g2 _ _ (k _ _ hb e)),z0b,?_,by rw[tk];exact hF2⟩
   exact (hE.imp fun _ _ h=>(FaceAt.same h g2).keep er2 kk).app (hE1.imp fun _ _ h=>FaceAt.keep h er2 kk)
  ·rintro σ HA ⟨s3,xs,FS,rfl,k,er,hE,hF⟩
   rw[q0a,q0P] at hF
   have p81:3^ts.length≤81:=q0m (q1Y (by decide) n4) (by decide)
   refine hN _ _ ⟨_,xs,FS,rfl,fun b o e=>k _ _ (z0g e hr0) (g1 _ _ (g0 _ _ e)),er,hE,fun s=>hF.iff hP hlen,q0m hF.few p81,hF.nd,fun s hs=>?_⟩
   obtain⟨_,_,_,_,_,_,rfl⟩:=hF.src s hs
   unfold z2i
   rw[q0a]
 clear g0 e0
 rintro σ H1 ⟨s3,xs,FS,rfl,g1,er,hE,hiff,h81,nd,hl⟩
 obtain⟨zs,hT,hk⟩:=y2g hE
 have el:=hE.length
 refine⟨_,rfl,r,xs,zs,FS,rfl,er,hT,by rw[hT.1,el],fun h2 t ht z=>?_,by lia,fun i x z hx hz H2 g2=>?_,fun D ys H' hD g hp e=>?_⟩
 ·have t0:ts.length=0:=by rw[←hl t ht,z];rfl
  have e1:∀s∈FS,s=[]:=fun s hs=>q1b.mp (by rw[hl s hs,t0])
  match FS,nd,el,e1 with
  |[],_,el,_=>rw[←el] at h2;simp at h2
  |[_],_,el,_=>rw[←el] at h2;simp at h2
  |a::b::_,nd,_,e1=>exact (List.nodup_cons.mp nd).1 (by rw[e1 a (by simp),←e1 b (by simp)];simp)
 ·obtain⟨p,b,rfl,hp⟩:=hk i x z hx hz
  exact⟨p,z,b,rfl,g2 _ _ hp,rfl,Same.refl _⟩
 ·obtain⟨FS',hp',hE'⟩:=y2l hp hE
  exact q D ys FS' H' (g1.free hD) (g1.trans g) e (hE'.imp fun _ _ h=>FaceAt.same h g) (fun s=>by rw[hp'.mem_iff];exact hiff s) (by rw[hp'.length_eq];exact h81)
end
end L2
namespace L2
open PySem PySem.Spec PyProof.Rows
section
open Fr Wl Rk Pt Ld Fc Pa
open Builtin.Int (intBits)
variable {P:Program}{w:World}{K:PySem.W.Frag}{mg:Str→Option Value}{base:Heap}{f:Addr}{fd:FuncData}{W NN F0 L P0 NW:Addr}
theorem z8I {rs:List Int}{j k:Nat} (hn:∃n∈rs,n≠0) (h:intBits (v rs j)≤k):intBits (v (z0m rs) j)≤k:=by
 refine intBits_le_of_natAbs (y:=v rs j) ?_ h
 rw[←z1W (r:=rs) j,Int.natAbs_mul]
 have:=z2g hn
 exact Nat.le_mul_of_pos_right _ (by lia)
theorem y5F {m:Nat}{t:List Int} (h:wlD m t):WL m t∧Bd m 32 64 t:=by
 obtain⟨rs,rfl,hl,⟨j,hj,hn⟩,hb,hw⟩:=h
 have hnz:∃n∈rs,n≠0:=z1Y hn
 have pl:(z0m rs).length =m+1:=by rw[Rk.plain_len,hl]
 exact⟨⟨pl,z1X hnz,j,hj,fun z=>hn ((z1j hnz j).mp z)⟩,pl,fun j hj=>z8I hnz (hw j hj),z8I hnz (z0N hb m)⟩
theorem z9s:∀(a b c:List Int),ahL (ahL a b) c=ahL a (ahL b c)
 |[],_,_=>by unfold ahL;simp
 |_::_,[],_=>by unfold ahL;simp
 |_::_,_::_,[]=>by unfold ahL;simp
 |x::a,y::b,z::c=>by
  have ih:=z9s a b c
  unfold ahL at*
  rw[List.zipWith_cons_cons,List.zipWith_cons_cons,List.zipWith_cons_cons,List.zipWith_cons_cons,ih]
  congr 1
  by_cases hx:x=0
  ·simp[hx]
  ·simp[hx]
theorem y5A (a:List Int):ahL a a=a:=by
 unfold ahL
 rw[List.zipWith_self]
 refine (q1d fun x _=>?_).trans (List.map_id _)
 by_cases h:x=0<;>simp[h]
theorem z2L {m:Nat}{ts:List (List Int)}{s:List Int} (h:Fce m ts s):s.length=ts.length:=by
 obtain⟨p,_,rfl⟩:=h
 unfold z2i
 rw[q0a]
def z8E (K:PySem.W.Frag):Sp:=fun vs H Q _=>∃(m:Nat) (lw q1 q2:Addr) (as:List Addr) (ts:List (List Int)) (s1 s2:List Int),vs=[.int (m:Nat),.ref lw,.ref q1,.ref q2]∧WsB H m lw as ts∧H q1=some (.tup (s1.map V.int))∧H q2=some (.tup (s2.map V.int))∧Fce m ts s1∧Fce m ts s2∧∀(r:Addr) (H':Hp),Same H H'→H' r=some (.tup ((ahL s1 s2).map V.int))→Q (.ref r) H'
theorem y6Z {C:Addr}{vs:List V}{H:Hp}{Q:VK}{E:XK} (h:z8E K vs H Q E):z7y K C vs H Q E:=by
 obtain⟨m,lw,q1,q2,as,ts,s1,s2,e,hW,h1,h2,f1,f2,q⟩:=h
 have n4:=hW.ws.n4
 exact⟨m,lw,q1,q2,as,ts,s1,s2,e,hW,h1,h2,by rw[z2L f1];lia,by rw[z2L f2];lia,.inl ⟨⟨z2L f1,f1⟩,⟨z2L f2,f2⟩,q⟩⟩
abbrev z2D:Stmt:=top 53
theorem sc_l_refused:z0r ["_law_ways","_law_fences_here","_law_one","_law_other","_law_caught","e"] ["_law_ways","_law_fences_here","_law_one","_law_other"] (z0j z2D):=⟨rfl,rfl,rfl,by decide+kernel,rfl,by decide+kernel,by decide+kernel⟩
def z6x (K:PySem.W.Frag):Sp:=fun vs H Q _=>∃(m:Nat) (lw q1 q2:Addr) (as:List Addr) (ts:List (List Int)) (s1 s2:List Int),vs=[.int (m:Nat),.ref lw,.ref q1,.ref q2]∧WsB H m lw as ts∧H q1=some (.tup (s1.map V.int))∧H q2=some (.tup (s2.map V.int))∧s1.length≤30∧s2.length≤30∧¬(z1i m ts s1∧z1i m ts s2)∧∀H',Same H H'→Q (.bl true) H'
theorem z6P (T:Txt mg) (xc:Xc K mg W NN F0 L P0 NW) (F:Fun K "_law_refused" "_law_refused" z2D f fd) (c_put_ahead:Cal1 P w K mg base 21 "put_ahead" ["ways","walls","one","other"] (z7y K F0)):FnOk P w K mg base CX0 22 f fd ["_law_ways","_law_fences_here","_law_one","_law_other"] (z6x K):=by
 refine F.ok sc_l_refused (fun vs H Q E h=>?_) (fun cdv A outer s H vs Q E hr h=>?_)
 ·obtain⟨_,_,_,_,_,_,_,_,rfl,_⟩:=h;rfl
 obtain⟨m,lw,q1,q2,as,ts,s1,s2,rfl,hW,h1,h2,l1,l2,hb,q⟩:=h
 refine⟨_,(z0c (z0n (i:=4) sc_l_refused.nd rfl (Or.inl rfl) z5d)
  (z0c (y6e (j:=5) c_put_ahead hr rfl rfl rfl rfl rfl (z0a (pv 0) (z0a (pv 1) (z0a (pv 2) (z0a (pv 3) z0d)))) rfl xc.mWallError sc_l_refused.nd rfl rfl (fun a=>(z0h (z0n (i:=4) sc_l_refused.nd rfl (Or.inl rfl) (pv 5)))) rfl)
  (z0c (z0S (PW.pt (y2X (z2V (z0A z6j rfl T.isinstance boot_isinstance (z0a (pv 4) (z0a (z2e (z0a (z2K (v:= .ref _) rfl xc.mNoLand rfl) (z0a (z2K (v:= .ref _) rfl xc.mNoNumber rfl) (z0a (z2K (v:= .ref _) rfl xc.mNoPlace rfl) (z0a (z2K (v:= .ref _) rfl xc.mNoWall rfl) z0d))))) z0d)))) (y3R (z4Z (z2V (z0A z6k rfl T.isinstance boot_isinstance (z0a (pv 4) (z0a (z5K (v:= .ty "ValueError") rfl T.ValueError z4D rfl) z0d)))))))) (z0h (z0t z4I)) z0y)
  (z0h (z0t (z0A z7h rfl T.isinstance boot_isinstance (z0a (pv 4) (z0a (z2K (v:= .ref _) rfl xc.mNoFace rfl) z0d)))))))),?_⟩
 refine z0p (fun σ H'=>σ=[some (.int (m:Nat)),some (.ref lw),some (.ref q1),some (.ref q2),some .non,none]∧H=H') (fun N hN=>?_) ?_
 ·exact hN _ _ ⟨rfl,rfl⟩
 rintro σ H0 ⟨rfl,rfl⟩
 refine z0p (fun σ H'=>∃p,Same H H'∧H' p=some (IsX p F0)∧σ=[some (.int (m:Nat)),some (.ref lw),some (.ref q1),some (.ref q2),some (.ref p),none]) (fun N hN=>?_) ?_
 ·refine⟨_,rfl,_,rfl,_,rfl,_,rfl,m,lw,q1,q2,as,ts,s1,s2,rfl,hW,h1,h2,l1,l2,.inr ⟨hb,fun H1 g1=>⟨F0,rfl,rfl,xc.ex,fun p hp=>?_⟩⟩⟩
  refine⟨_,rfl,?_⟩
  exact hN _ _ ⟨p,g1.trans (z0e hp _),z0b,rfl⟩
 rintro σ H1 ⟨p,g1,ep,rfl⟩
 refine⟨_,rfl,z0l (by show 4≤_;decide),fun t ht=>?_⟩
 have g2:=z0e ht (.tup [.ref L,.ref NN,.ref P0,.ref NW])
 have ex:=g2 _ _ ep
 refine⟨p,F0,t,[L,NN,P0,NW],false,rfl,ex,xc.xk,z0b,xc.no,_,rfl,?_⟩
 refine z3t ?_
 refine⟨_,rfl,p,F0,"ValueError",true,rfl,ex,xc.xk,xc.ve,_,rfl,?_⟩
 refine z3t ?_
 exact⟨_,rfl,p,F0,F0,true,rfl,ex,xc.xk,xc.se,q _ (g1.trans g2)⟩
end
end L2
namespace L2
open PySem PySem.Spec PyProof.Rows
section
open Fr Wl Rk Pt Ld Fc Pa
open Builtin.Int (intBits)
variable {P:Program}{w:World}{K:PySem.W.Frag}{mg:Str→Option Value}{base:Heap}{f:Addr}{fd:FuncData}
abbrev z5C:Stmt:=top 54
theorem sc_law:z0r ["_law_script","_law_draws_here","_law_ways","_law_fences_here","_law_every","_law_some","_law_one","_law_other","_law_third","_law_handed","_law_found","_law_due","_law_first","_law_second","_law_later","_law_strange"] ["_law_script"] (z0j z5C):=⟨rfl,rfl,rfl,by decide+kernel,rfl,by decide+kernel,by decide+kernel⟩
def y2S (K:PySem.W.Frag):Sp:=fun vs H Q _=>∃(a:Addr) (ns:List Int),vs=[.ref a]∧SqL K H a (ns.map V.int)∧ns.length≤63∧∀H',Q (.bl true) H'
structure LwF (H:Hp) (l lf lev:Addr) (ds:List Int) (m:Nat) (as es:List Addr) (ts FS:List (List Int)):Prop where
 dr:H l=some (.lst (ds.map V.int))
 wf:WsB H m lf as ts
 ev:H lev=some (.lst (es.map V.ref))
 evs:TsA H es FS
theorem LwF.same {H H':Hp}{l lf lev:Addr}{ds:List Int}{m:Nat}{as es:List Addr}{ts FS:List (List Int)} (h:LwF H l lf lev ds m as es ts FS) (g:Same H H'):LwF H' l lf lev ds m as es ts FS:=
 ⟨g _ _ h.dr,h.wf.same g,g _ _ h.ev,h.evs.same g⟩
theorem y0a {H:Hp}{FS:List (List Int)}{xs:List V} (h:Each (FaceAt H) FS xs):∃cs:List (Addr×Addr),TsA H (cs.map Prod.fst) FS∧Each (fun (c:Addr×Addr) x=>∃p,x= .ref p∧H p=some (.tup [.ref c.1,.ref c.2])) cs xs:=by
 induction h with
 |nil=>exact⟨[],TsA.nil,.nil⟩
 | @cons s x FS xs h1 _ ih=>
   obtain⟨cs,h2,h3⟩:=ih
   obtain⟨p,a,b,e,e1,e2⟩:=h1
   refine⟨(a,b)::cs,⟨by have:=h2.1;simpa using this,fun i z t a1 a2=>?_⟩,.cons ⟨p,e,e1⟩ h3⟩
   cases i with
   |zero=>cases a1;cases a2;exact e2
   |succ i=>exact h2.2 i z t a1 a2
theorem y6v (T:Txt mg) (F:Fun K "law" "law" z5C f fd) (c_l_draws:Cal P w K mg base 22 "_law_draws" ["_law_script"] (y0D K)) (c_l_fences:Cal P w K mg base 22 "_law_fences" ["_law_draws_here","_law_most"] (z8A K)) (c_faces:Cal P w K mg base 22 "faces" ["ways","walls"] (y0C K)) (c_put_ahead:Cal P w K mg base 22 "put_ahead" ["ways","walls","one","other"] (z8E K)) (c_l_refused:Cal P w K mg base 22 "_law_refused" ["_law_ways","_law_fences_here","_law_one","_law_other"] (z6x K)):FnOk P w K mg base CX0 23 f fd ["_law_script"] (y2S K):=by
 refine F.ok sc_law (fun vs H Q E h=>?_) (fun cdv A outer s H vs Q E hr h=>?_)
 ·obtain⟨_,_,rfl,_⟩:=h;rfl
 obtain⟨a,ss,rfl,hS,h63,q⟩:=h
 refine⟨_,(z0c (z0n (i:=1) sc_law.nd rfl (Or.inr rfl) (z0q c_l_draws hr rfl (z0a (pv 0) z0d)))
  (z0c (z2B (z0q c_l_fences hr rfl (z0a (pv 1) (z0a z0f z0d))) (z1c (K:=K) rfl 2 rfl (z0u (z0k (i:=2) sc_law.nd rfl (Or.inl rfl)) (z0u (z0k (i:=3) sc_law.nd rfl (Or.inl rfl)) z0Y))))
  (z0c (z0n (i:=4) sc_law.nd rfl (Or.inr rfl) (z0G (Nc:=["_law_signs","_law_point"]) (fr:=[none,none]) rfl (z0E (K:=K) rfl (z0q c_faces hr rfl (z0a (pv 2) (z0a (pv 3) z0d)))) rfl (by decide) rfl (by decide) rfl trivial trivial (fun _ _ _ _=>(z1c (K:=K) rfl 2 rfl (z0u (z0k (i:=0) (show List.Nodup (["_law_signs","_law_point"]:List Str) from by decide) rfl (Or.inl rfl)) (z0u (z0k (i:=1) (show List.Nodup (["_law_signs","_law_point"]:List Str) from by decide) rfl (Or.inl rfl)) z0Y)))) (fun _ _ _ _=>z0H) (fun _ _ _ _=>(pv 0))))
  (z0c (z3o (jj:=5) rfl sc_law.nd rfl (Or.inl rfl) (Or.inl rfl) (Nc:=["_law_k","_law_every","_law_draws_here"]) (fr:=[none,some 4,some 1]) rfl (z1N rfl T.range (z0a z0f z0d)) rfl (by decide) rfl (by decide) rfl ⟨rfl,⟨rfl,trivial⟩⟩ ⟨⟨rfl,rfl,rfl,rfl⟩,⟨⟨rfl,rfl,rfl,rfl⟩,trivial⟩⟩ (fun _ _ _ _=>(z0k (i:=0) (show List.Nodup (["_law_k","_law_every","_law_draws_here"]:List Str) from by decide) rfl (Or.inl rfl))) (fun _ _ _ _=>z0H) (fun _ _ _ _=>(z0T (z0x (K:=K) rfl) (pv 1) (z0s z0O (z0T (z0x (K:=K) rfl) (pv 2) (z0s z1r z0f (pv 0)) (fun _ _=>rfl)) (z0A (z1g (K:=K) rfl) rfl T.len PySem.boot_len (z0a (pv 1) z0d))) (fun _ _=>rfl))))
  (z0c (z2B (pv 5) (y6j (K:=K) rfl 3 rfl (z0u (z0k (i:=6) sc_law.nd rfl (Or.inl rfl)) (z0u (z0k (i:=7) sc_law.nd rfl (Or.inl rfl)) (z0u (z0k (i:=8) sc_law.nd rfl (Or.inl rfl)) z0Y)))))
  (z0c (z0n (i:=9) sc_law.nd rfl (Or.inl rfl) (z0J (z1S (K:=K) rfl) rfl T.list boot_list (z0a (pv 3) z0d)))
  (z0c (z0n (i:=10) sc_law.nd rfl (Or.inl rfl) (z0q c_put_ahead hr rfl (z0a (pv 2) (z0a (pv 9) (z0a (pv 6) (z0a (pv 7) z0d))))))
  (z0c (z0n (i:=11) sc_law.nd rfl (Or.inl rfl) (z0U z0d))
  (z0c (z1f PassesOwn.never rfl (z3p (K:=K) rfl rfl T.zip (z0a (pv 6) (z0a (pv 7) z0d))) (z1c (K:=K) rfl 2 rfl (z0u (z0k (i:=12) sc_law.nd rfl (Or.inl rfl)) (z0u (z0k (i:=13) sc_law.nd rfl (Or.inl rfl)) z0Y))) (z0h (z0S (z0v z3q (pv 12) z0f (z0D _)) (z0h (z1E (z6K PySem.F.plainAttrs_list PySem.F.slot_list_append PySem.F.type_list_append z1n (pv 11) (z0a (pv 13) z0d)))) (z0h (z1E (z6K PySem.F.plainAttrs_list PySem.F.slot_list_append PySem.F.type_list_append z1n (pv 11) (z0a (pv 12) z0d)))))))
  (z0c (z0S (PW.pt (y2X (z4Z (z2V (z0A z2N rfl T.isinstance boot_isinstance (z0a (pv 10) (z0a (z5K (v:= .ty "tuple") rfl T.tuple boot_tuple rfl) z0d))))) (y2X (z0v (z5L (K:=K) rfl hr.units) (pv 10) (z0J (z0W (K:=K) rfl) rfl T.tuple boot_tuple (z0a (pv 11) z0d)) (z0D _)) (y2X (z0v (z5e (K:=K) rfl hr.units) (pv 10) (pv 4) (by with_unfolding_all rfl)) (y3R (z0v (z5L (K:=K) rfl hr.units) (pv 9) (pv 3) (z0D _))))))) (z0h (z0t z4I)) z0y)
  (z0c (z0n (i:=14) sc_law.nd rfl (Or.inl rfl) (z0q c_put_ahead hr rfl (z0a (pv 2) (z0a (pv 9) (z0a (pv 7) (z0a (pv 8) z0d))))))
  (z0c (z0S (z0v (z5L (K:=K) rfl hr.units) (z0q c_put_ahead hr rfl (z0a (pv 2) (z0a (pv 9) (z0a (pv 10) (z0a (pv 8) z0d))))) (z0q c_put_ahead hr rfl (z0a (pv 2) (z0a (pv 9) (z0a (pv 6) (z0a (pv 14) z0d))))) (z0D _)) (z0h (z0t z4I)) z0y)
  (z0c (z0S (z0v (z5L (K:=K) rfl hr.units) (z0q c_put_ahead hr rfl (z0a (pv 2) (z0a (pv 9) (z0a (pv 6) (z0a (pv 6) z0d))))) (pv 6) (z0D _)) (z0h (z0t z4I)) z0y)
  (z0c (z0n (i:=15) sc_law.nd rfl (Or.inl rfl) (z0J (z0W (K:=K) rfl) rfl T.tuple boot_tuple (z0a (z0G (Nc:=["_law_k","_law_draws_here"]) (fr:=[none,some 1]) rfl (z1N rfl T.range (z0a (z0A (z1g (K:=K) rfl) rfl T.len PySem.boot_len (z0a (pv 3) z0d)) z0d)) rfl (by decide) rfl (by decide) rfl ⟨rfl,trivial⟩ ⟨⟨rfl,rfl,rfl,rfl⟩,trivial⟩ (fun _ _ _ _=>(z0k (i:=0) (show List.Nodup (["_law_k","_law_draws_here"]:List Str) from by decide) rfl (Or.inl rfl))) (fun _ _ _ _=>z0H) (fun _ _ _ _=>(z0s z1P (z0s z0O (z0T (z0x (K:=K) rfl) (pv 1) (z0s z1r z0f (pv 0)) (fun _ _=>rfl)) z0f) z0f))) z0d)))
  (z0c (z0S (z0v (y5d (K:=K) rfl hr.units) (pv 15) (pv 4) (by with_unfolding_all rfl)) (z0h (z0n (i:=15) sc_law.nd rfl (Or.inl rfl) (z0s (z8L (K:=K) rfl) (pv 15) (z2e (z0a z0f z0d))))) z0y)
  (z0h (z0t (y1g (z0q c_l_refused hr rfl (z0a (pv 2) (z0a (pv 3) (z0a (pv 15) (z0a (pv 6) z0d))))) (y1d (z0q c_l_refused hr rfl (z0a (pv 2) (z0a (pv 3) (z0a (pv 6) (z0a (pv 15) z0d)))))))))))))))))))))))),?_⟩
 refine z0p (fun σ H'=>∃(l:Addr) (ds:List Int),σ=[some (.ref a),some (.ref l),none,none,none,none,none,none,none,none,none,none,none,none,none,none]∧ds.length=60∧(∀d∈ds,0≤d∧d<2147483587)∧H' l=some (.lst (ds.map V.int))) (fun N hN=>?_) ?_
 ·exact⟨_,rfl,a,ss,rfl,hS,h63,fun ds l H' _ dl db g e=>hN _ _ ⟨l,ds,rfl,dl,db,e⟩⟩
 rintro σ H1 ⟨l,ds,rfl,dl,db,el⟩
 refine z0p (fun σ H'=>∃(m:Nat) (lf:Addr) (as:List Addr) (ts:List (List Int)),σ=[some (.ref a),some (.ref l),some (.int (m:Nat)),some (.ref lf),none,none,none,none,none,none,none,none,none,none,none,none]∧H' l=some (.lst (ds.map V.int))∧WsB H' m lf as ts) (fun N hN=>?_) ?_
 ·refine⟨_,rfl,l,ds,4,rfl,el,dl,db,by decide,fun tp lf as ts m H2 hlf g2 etp elf hts m4 t4 _ m0 hnd hw=>?_⟩
  exact⟨tp,_,rfl,SqT.of etp,rfl,_,_,rfl,_,_,rfl,rfl,hN _ _ ⟨m,lf,as,ts,rfl,g2 _ _ el,elf,hts,m4,t4,fun t ht=>(y5F (hw t ht)).1,fun t ht=>(y5F (hw t ht)).2,hnd⟩⟩
 clear el
 rintro σ H2 ⟨m,lf,as,ts,rfl,el,hW⟩
 have m4:=hW.ws.m4
 have n4:=hW.ws.n4
 refine z0p (fun σ H'=>∃(lev:Addr) (es:List Addr) (FS:List (List Int)),σ=[some (.ref a),some (.ref l),some (.int (m:Nat)),some (.ref lf),some (.ref lev),none,none,none,none,none,none,none,none,none,none,none]∧LwF H' l lf lev ds m as es ts FS∧(∀s,s∈FS↔Fce m ts s)∧FS.length≤81) (fun N hN=>?_) ?_
 ·refine⟨_,rfl,_,rfl,lf,as,ts,m,rfl,hW.lst,hW.rows,hW.ws,fun r xs FS H3 hr3 g3 er hE hiff h81=>?_⟩
  refine⟨r,rfl,⟨_,SqL.of er⟩,fun D hD=>?_⟩
  obtain⟨cs,hT,hcs⟩:=y0a hE
  have el':=hE.length
  refine z0X cs hcs.length.symm (z0B K r xs) hD (fun c σ=>(σ.set 0 (some (.ref c.1))).set 1 (some (.ref c.2))) (fun d e σ=>z3Z _ _ _ _ _) (fun _=>true) (fun H' c u=>u= .ref c.1) (fun _ _ _ _ _ _ h=>h) (fun H' g'=>SqL.of (g' _ _ er)) (z0l (by lia)) ?_ ?_ ?_ ?_
  ·intro i x d hx hd σ H5 g5 S h
   obtain⟨p,rfl,h1⟩:=hcs.get hd hx
   exact⟨p,_,rfl,SqT.of (g5 _ _ h1),rfl,_,_,rfl,_,_,rfl,rfl,h⟩
  ·intro d hd Hc gc S h
   exact h _ (Same.refl _)
  ·intro d hd _ Hc gc _ S h
   exact⟨_,rfl,h _ _ (Same.refl _) rfl⟩
  ·intro us H5 g5 hD5 he
   rw[z0z] at he
   have eu:us=(cs.map Prod.fst).map V.ref:=by
        clear hD5 hcs hT
        induction he with
        |nil=>rfl
        |cons h1 _ ih=>rw[h1,ih];rfl
   subst eu
   have g35:=g3.trans g5
   exact hN _ _ ⟨D,cs.map Prod.fst,FS,rfl,⟨g35 _ _ el,hW.same g35,hD5,hT.same g5⟩,hiff,h81⟩
 clear el hW
 rintro σ H3 ⟨lev,es,FS,rfl,hL,hiff,h81⟩
 have esl:es.length=FS.length:=hL.evs.1
 have hpos:0<FS.length:=by
  have:Fce m ts (z2i m ts (mkL m fun _=>1)):=⟨_,⟨z5S _ _,by rw[y1w (q0k _)];decide⟩,rfl⟩
  exact List.length_pos_of_mem ((hiff _).mpr this)
 refine z0p (fun σ H'=>∃so b1 b2 b3 s1 s2 s3,σ=[some (.ref a),some (.ref l),some (.int (m:Nat)),some (.ref lf),some (.ref lev),some (.ref so),none,none,none,none,none,none,none,none,none,none]∧Same H3 H'∧H' so=some (.lst [V.ref b1,V.ref b2,V.ref b3])∧H3 b1=some (.tup (s1.map V.int))∧H3 b2=some (.tup (s2.map V.int))∧H3 b3=some (.tup (s3.map V.int))∧Fce m ts s1∧Fce m ts s2∧Fce m ts s3) (fun N hN=>?_) ?_
 ·refine⟨_,rfl,by decide,by decide,fun D hD=>?_⟩
  refine z0X (List.range 3) (by rw[z1B,q1H]) (z2I 3) hD (fun i σ=>σ.set 0 (some (.int (0+(i:Nat))))) (fun d e σ=>q1Q ..) (fun _=>true) (fun _ _ u=>∃(b:Addr) (s:List Int),u=V.ref b∧H3 b=some (.tup (s.map V.int))∧Fce m ts s) (fun _ _ _ _ _ _ h=>h) (fun _ _=>trivial) (z0l (by rw[z1B];decide)) ?_ ?_ ?_ ?_
  ·intro i y d hy hd σ H4 g4 S h
   have hi:i<3:=by have:=(q0y.mp hy).1;rw[z1B] at this;exact this
   rw[y0P hi] at hy
   rw[List.getElem?_range hi] at hd
   cases hy
   cases hd
   exact h
  ·intro d hd Hc gc S h
   exact h _ (Same.refl _)
  ·intro d hd _ Hc gc _ S h
   have hd':=q1c.mp hd
   have hlen:(es.map V.ref).length =FS.length:=by rw[q0a,esl]
   have c':(0:Int)<(((es.map V.ref).length :Nat):Int):=by rw[hlen];lia
   obtain⟨j,hjr,hj⟩:∃j:Nat,ds.getD (3+(0+(d:Int))).toNat 0%(((es.map V.ref).length :Nat):Int)=(j:Nat)∧j<FS.length:=by
        have h1:=Int.emod_nonneg (ds.getD (3+(0+(d:Int))).toNat 0) (by lia:(((es.map V.ref).length :Nat):Int)≠0)
        have h2:=Int.emod_lt_of_pos (ds.getD (3+(0+(d:Int))).toNat 0) c'
        exact⟨(ds.getD (3+(0+(d:Int))).toNat 0%(((es.map V.ref).length :Nat):Int)).toNat,by lia,by lia⟩
   refine⟨_,rfl,_,rfl,_,rfl,_,_,rfl,rfl,l,_,_,_,rfl,rfl,SqL.of (gc _ _ hL.dr),z1s (by lia) (by lia),_,rfl,lev,_,rfl,.inl (SqL.of (gc _ _ hL.ev)),_,_,rfl,rfl,c',?_⟩
   dsimp only
   rw[hjr]
   have hje:j<es.length:=by lia
   exact⟨lev,_,_,_,rfl,rfl,SqL.of (gc _ _ hL.ev),(show atI (es.map V.ref) (j:Int)=some (.ref es[j]) from z3y (by rw[q0g,q0c hje];rfl)),h _ _ (Same.refl _) ⟨es[j],FS[j],rfl,hL.evs.2 j _ _ (q0c hje) (q0c hj),(hiff _).mp (q0w hj)⟩⟩
  ·intro us H4 g4 hD4 he
   rw[z0z] at he
   match us,he with
   |_,.cons ⟨b1,s1,e1,h1,f1⟩ (.cons ⟨b2,s2,e2,h2,f2⟩ (.cons ⟨b3,s3,e3,h3,f3⟩ .nil))=>
    subst e1 e2 e3
    exact hN _ _ ⟨D,b1,b2,b3,s1,s2,s3,rfl,g4,hD4,h1,h2,h3,f1,f2,f3⟩
 rintro σ H4 ⟨so,b1,b2,b3,s1,s2,s3,rfl,g4,eso,h1,h2,h3,f1,f2,f3⟩
 replace hL:=hL.same g4
 replace h1:=g4 _ _ h1
 replace h2:=g4 _ _ h2
 replace h3:=g4 _ _ h3
 clear g4
 refine z0p (fun σ H'=>σ=[some (.ref a),some (.ref l),some (.int (m:Nat)),some (.ref lf),some (.ref lev),some (.ref so),some (.ref b1),some (.ref b2),some (.ref b3),none,none,none,none,none,none,none]∧H4=H') (fun N hN=>?_) ?_
 ·exact⟨_,rfl,so,_,rfl,SqL.of eso,rfl,_,_,rfl,_,_,rfl,_,_,rfl,rfl,hN _ _ ⟨rfl,rfl⟩⟩
 rintro σ H4' ⟨rfl,rfl⟩
 refine z0p (fun σ H'=>∃lh,σ=[some (.ref a),some (.ref l),some (.int (m:Nat)),some (.ref lf),some (.ref lev),some (.ref so),some (.ref b1),some (.ref b2),some (.ref b3),some (.ref lh),none,none,none,none,none,none]∧Same H4 H'∧WsB H' m lh as ts) (fun N hN=>?_) ?_
 ·refine⟨_,rfl,lf,_,rfl,.inl (SqL.of hL.wf.lst),fun lh hlh=>hN _ _ ⟨lh,rfl,?_⟩⟩
  have g5:=z0e hlh (.lst (as.map V.ref))
  exact⟨g5,z0b,hL.wf.rows.same g5,hL.wf.ws⟩
 rintro σ H5 ⟨lh,rfl,g5,hWh⟩
 replace hL:=hL.same g5
 replace h1:=g5 _ _ h1
 replace h2:=g5 _ _ h2
 replace h3:=g5 _ _ h3
 clear g5 eso
 have f12:=y2E f1 f2
 refine z0p (fun σ H'=>∃fo,σ=[some (.ref a),some (.ref l),some (.int (m:Nat)),some (.ref lf),some (.ref lev),some (.ref so),some (.ref b1),some (.ref b2),some (.ref b3),some (.ref lh),some (.ref fo),none,none,none,none,none]∧Same H5 H'∧H' fo=some (.tup ((ahL s1 s2).map V.int))) (fun N hN=>?_) ?_
 ·exact⟨_,rfl,_,rfl,_,rfl,_,rfl,m,lh,b1,b2,as,ts,s1,s2,rfl,hWh,h1,h2,f1,f2,fun r H' g e=>hN _ _ ⟨r,rfl,g,e⟩⟩
 rintro σ H6 ⟨fo,rfl,g6,efo⟩
 replace hL:=hL.same g6
 replace hWh:=hWh.same g6
 replace h1:=g6 _ _ h1
 replace h2:=g6 _ _ h2
 replace h3:=g6 _ _ h3
 clear g6
 have l12:s1.length=s2.length:=by rw[z2L f1,z2L f2]
 have l1:s1.length≤4:=by rw[z2L f1];lia
 refine z0p (fun σ H'=>∃du,σ=[some (.ref a),some (.ref l),some (.int (m:Nat)),some (.ref lf),some (.ref lev),some (.ref so),some (.ref b1),some (.ref b2),some (.ref b3),some (.ref lh),some (.ref fo),some (.ref du),none,none,none,none]∧Same H6 H'∧H6 du=none∧H' du=some (.lst [])) (fun N hN=>?_) ?_
 ·exact⟨q0K _,fun du hdu=>hN _ _ ⟨du,rfl,z0e hdu _,hdu,z0b⟩⟩
 rintro σ H7 ⟨du,rfl,g7,ndu,edu⟩
 refine z0p (fun σ H'=>∃x12 x13,σ=[some (.ref a),some (.ref l),some (.int (m:Nat)),some (.ref lf),some (.ref lev),some (.ref so),some (.ref b1),some (.ref b2),some (.ref b3),some (.ref lh),some (.ref fo),some (.ref du),x12,x13,none,none]∧Same H6 H'∧H' du=some (.lst ((ahL s1 s2).map V.int))) (fun N hN=>?_) ?_
 ·refine⟨_,rfl,_,rfl,b1,b2,false,false,_,_,rfl,SqT.of (g7 _ _ h1),SqT.of (g7 _ _ h2),?_⟩
  refine z0I (z1L K false false b1 b2 (s1.map V.int) (s2.map V.int)) (fun i σ H'=>∃x12 x13,σ=[some (.ref a),some (.ref l),some (.int (m:Nat)),some (.ref lf),some (.ref lev),some (.ref so),some (.ref b1),some (.ref b2),some (.ref b3),some (.ref lh),some (.ref fo),some (.ref du),x12,x13,none,none]∧Same H6 H'∧H' du=some (.lst ((ahL (s1.take i) (s2.take i)).map V.int))) ⟨_,_,rfl,g7,edu⟩ (fun i σ H' _ h=>by obtain⟨_,_,_,g,_⟩:=h;exact⟨SqT.of (g _ _ h1),SqT.of (g _ _ h2)⟩) ?_ ?_
  ·rintro i x σ HA HB hi ⟨x12,x13,rfl,g,ed⟩ ⟨p,u,u2,rfl,hp,huv,rfl⟩
   rw[q0I,q0a,q0a] at hi
   rw[q0G,q0g,q0g] at huv
   obtain⟨y1,hy1,rfl⟩:=q0r.mp huv.1
   obtain⟨y2,hy2,rfl⟩:=q0r.mp huv.2
   have k1:=z0e hp (.tup [V.int y1,V.int y2])
   have w1:upd HA p (.tup [V.int y1,V.int y2]) p=some (.tup [V.int y1,V.int y2]):=z0b
   generalize upd HA p (.tup [V.int y1,V.int y2])=HC at*
   have ed2:=k1 _ _ ed
   have tk:ahL (s1.take (i+1)) (s2.take (i+1))=ahL (s1.take i) (s2.take i)++[if y1≠0 then y1 else y2]:=by
        rw[q0E,q0E,hy1,hy2]
        unfold ahL
        rw[List.zipWith_append (by rw[q0q,q0q];lia)];rfl
   have ll:((ahL (s1.take i) (s2.take i)).map V.int).length ≤4:=by
        unfold ahL
        rw[q0a,q2e,q0q];lia
   refine⟨p,_,rfl,SqT.of w1,rfl,_,_,rfl,_,_,rfl,rfl,?_⟩
   have fin:∀z:Int,z=(if y1≠0 then y1 else y2)→Same H6 (upd HC du (.lst ((ahL (s1.take i) (s2.take i)).map V.int++[V.int z])))∧upd HC du (.lst ((ahL (s1.take i) (s2.take i)).map V.int++[V.int z])) du=some (.lst ((ahL (s1.take (i+1)) (s2.take (i+1))).map V.int)):=fun z hz=>by
        refine⟨fun b o e=>by rw[z0i (z0g e ndu)];exact (g.trans k1) _ _ e,?_⟩
        rw[z0b,tk,q0p,hz];rfl
   refine⟨_,rfl,rfl,_,rfl,?_⟩
   refine z3f (fun cc=>?_) (fun cc=>?_)
   ·have z:y1=0:=by have:=of_decide_eq_true cc;injection this
    obtain⟨q1,q2⟩:=fin y2 (by rw[if_neg (fun h=>h z)])
    exact⟨_,rfl,.inl ⟨rfl,_,SqL.of ed2⟩,_,rfl,du,_,_,rfl,rfl,ed2,z1Z (by lia),_,_,rfl,q1,q2⟩
   ·have z:y1≠0:=fun e=>cc (by rw[e];exact decide_eq_true rfl)
    obtain⟨q1,q2⟩:=fin y1 (by rw[if_pos z])
    exact⟨_,rfl,.inl ⟨rfl,_,SqL.of ed2⟩,_,rfl,du,_,_,rfl,rfl,ed2,z1Z (by lia),_,_,rfl,q1,q2⟩
  ·rintro σ HA ⟨x12,x13,rfl,g,ed⟩
   rw[q0I,q0a,q0a,q1f (by lia),q1f (by lia)] at ed
   exact hN _ _ ⟨_,_,rfl,g,ed⟩
 clear g7 edu
 rintro σ H8 ⟨x12,x13,rfl,g8,edu⟩
 replace hL:=hL.same g8
 replace hWh:=hWh.same g8
 replace h1:=g8 _ _ h1
 replace h2:=g8 _ _ h2
 replace h3:=g8 _ _ h3
 replace efo:=g8 _ _ efo
 clear g8 ndu
 refine z0p (fun σ H'=>σ=[some (.ref a),some (.ref l),some (.int (m:Nat)),some (.ref lf),some (.ref lev),some (.ref so),some (.ref b1),some (.ref b2),some (.ref b3),some (.ref lh),some (.ref fo),some (.ref du),x12,x13,none,none]∧Same H8 H') (fun N hN=>?_) ?_
 ·refine⟨_,rfl,_,_,_,_,rfl,.tup efo,rfl,_,rfl,?_⟩
  refine z3t ?_
  refine⟨_,rfl,_,rfl,du,_,rfl,.inl ⟨SqL.of edu,fun t1 ht1=>?_⟩⟩
  have g9:=z0e ht1 (.tup ((ahL s1 s2).map V.int))
  have e9:upd H8 t1 (.tup ((ahL s1 s2).map V.int)) t1=some (.tup ((ahL s1 s2).map V.int)):=z0b
  generalize upd H8 t1 (.tup ((ahL s1 s2).map V.int))=H9 at*
  refine⟨fo,t1,_,_,rfl,rfl,z4K (g9 _ _ efo),z4K e9,z9J (ts:=[ahL s1 s2]) _ (by simp),_,rfl,?_⟩
  rw[(Dt.eqb_iff _ _).mpr rfl]
  refine z3t ?_
  have hL9:=hL.same g9
  refine⟨_,rfl,_,rfl,lev,_,_,_,rfl,.inl (SqL.of hL9.ev),hL9.evs.isDs,z4K (g9 _ _ efo),z9J,_,rfl,?_⟩
  rw[y5y,decide_eq_true ((hiff _).mpr f12)]
  refine z3t ?_
  have hWh9:=hWh.same g9
  refine⟨_,rfl,_,rfl,lh,lf,_,_,rfl,rfl,y4e hWh9.lst hWh9.rows,y4e hL9.wf.lst hL9.wf.rows,y3T _ _,_,rfl,?_⟩
  rw[(Dt.eqb_iff _ _).mpr rfl]
  exact z3t (hN _ _ ⟨rfl,g9⟩)
 rintro σ H9 ⟨rfl,g9⟩
 replace hL:=hL.same g9
 replace hWh:=hWh.same g9
 replace h1:=g9 _ _ h1
 replace h2:=g9 _ _ h2
 replace h3:=g9 _ _ h3
 replace efo:=g9 _ _ efo
 clear g9 edu
 have f23:=y2E f2 f3
 refine z0p (fun σ H'=>∃la,σ=[some (.ref a),some (.ref l),some (.int (m:Nat)),some (.ref lf),some (.ref lev),some (.ref so),some (.ref b1),some (.ref b2),some (.ref b3),some (.ref lh),some (.ref fo),some (.ref du),x12,x13,some (.ref la),none]∧Same H9 H'∧H' la=some (.tup ((ahL s2 s3).map V.int))) (fun N hN=>?_) ?_
 ·exact⟨_,rfl,_,rfl,_,rfl,_,rfl,m,lh,b2,b3,as,ts,s2,s3,rfl,hWh,h2,h3,f2,f3,fun r H' g e=>hN _ _ ⟨r,rfl,g,e⟩⟩
 rintro σ H10 ⟨la,rfl,g10,ela⟩
 replace hL:=hL.same g10
 replace hWh:=hWh.same g10
 replace h1:=g10 _ _ h1
 replace h3:=g10 _ _ h3
 replace efo:=g10 _ _ efo
 clear g10 h2
 refine z0p (fun σ H'=>σ=[some (.ref a),some (.ref l),some (.int (m:Nat)),some (.ref lf),some (.ref lev),some (.ref so),some (.ref b1),some (.ref b2),some (.ref b3),some (.ref lh),some (.ref fo),some (.ref du),x12,x13,some (.ref la),none]∧Same H10 H') (fun N hN=>?_) ?_
 ·refine⟨_,rfl,_,rfl,_,rfl,_,rfl,m,lh,fo,b3,as,ts,ahL s1 s2,s3,rfl,hWh,efo,h3,f12,f3,fun r1 H11 g11 e11=>?_⟩
  refine⟨_,rfl,_,rfl,_,rfl,_,rfl,m,lh,b1,la,as,ts,s1,ahL s2 s3,rfl,hWh.same g11,g11 _ _ h1,g11 _ _ ela,f1,f23,fun r2 H12 g12 e12=>?_⟩
  refine⟨r1,r2,_,_,rfl,rfl,z4K (g12 _ _ e11),z4K e12,z9J (ts:=[ahL (ahL s1 s2) s3]) _ (by simp),_,rfl,?_⟩
  rw[z9s,(Dt.eqb_iff _ _).mpr rfl]
  exact z3t (hN _ _ ⟨rfl,g11.trans g12⟩)
 rintro σ H11 ⟨rfl,g11⟩
 replace hL:=hL.same g11
 replace hWh:=hWh.same g11
 replace h1:=g11 _ _ h1
 clear g11 ela efo h3
 refine z0p (fun σ H'=>σ=[some (.ref a),some (.ref l),some (.int (m:Nat)),some (.ref lf),some (.ref lev),some (.ref so),some (.ref b1),some (.ref b2),some (.ref b3),some (.ref lh),some (.ref fo),some (.ref du),x12,x13,some (.ref la),none]∧Same H11 H') (fun N hN=>?_) ?_
 ·refine⟨_,rfl,_,rfl,_,rfl,_,rfl,m,lh,b1,b1,as,ts,s1,s1,rfl,hWh,h1,h1,f1,f1,fun r1 H12 g12 e12=>?_⟩
  refine⟨_,rfl,r1,b1,_,_,rfl,rfl,z4K e12,z4K (g12 _ _ h1),z9J (ts:=[ahL s1 s1]) _ (by simp),_,rfl,?_⟩
  rw[y5A,(Dt.eqb_iff _ _).mpr rfl]
  exact z3t (hN _ _ ⟨rfl,g12⟩)
 rintro σ H12 ⟨rfl,g12⟩
 replace hL:=hL.same g12
 replace h1:=g12 _ _ h1
 clear g12 hWh
 refine z0p (fun σ H'=>∃(qs:Addr) (zs:List Int),σ=[some (.ref a),some (.ref l),some (.int (m:Nat)),some (.ref lf),some (.ref lev),some (.ref so),some (.ref b1),some (.ref b2),some (.ref b3),some (.ref lh),some (.ref fo),some (.ref du),x12,x13,some (.ref la),some (.ref qs)]∧Same H12 H'∧H' qs=some (.tup (zs.map V.int))∧zs.length=ts.length) (fun N hN=>?_) ?_
 ·refine⟨_,rfl,lf,_,rfl,.inl (SqL.of hL.wf.lst),_,rfl,by lia,by rw[q0a,hL.wf.rows.1];lia,fun D hD=>?_⟩
  rw[q0S,q0a,hL.wf.rows.1]
  refine z0V (z1B ts.length).symm (by have:=z2I ts.length;rw[z1B] at this;exact this) hD (fun _=>true) (fun x=>match x with| .int k=> .int (ds.getD (6+k).toNat 0%3 - 1)|u=>u) (fun _ _=>trivial) (z0l (by lia)) ?_ ?_ ?_
  ·intro x hx Hc gc S h
   exact h
  ·intro x hx _ Hc gc S h
   unfold y2H at hx
   obtain⟨i,hi,rfl⟩:=q0f.mp hx
   have hi':=q1c.mp hi
   exact⟨_,rfl,_,rfl,_,_,rfl,rfl,l,_,_,_,rfl,rfl,SqL.of (gc _ _ hL.dr),z1s (by lia) (by lia),_,_,rfl,rfl,cm,_,_,rfl,rfl,h⟩
  rw[z0z]
  have ez:(y2H ts.length).map (fun x=>match x with| .int k=>V.int (ds.getD (6+k).toNat 0%3 - 1)|u=>u)=((List.range ts.length).map fun (i:Nat)=>ds.getD (6+((0:Int)+(i:Nat))).toNat 0%3 - 1).map V.int:=by
   unfold y2H
   rw[q0x,q0x];rfl
  rw[ez]
  have g6:=z0e hD (.lst (((List.range ts.length).map fun (i:Nat)=>ds.getD (6+((0:Int)+(i:Nat))).toNat 0%3 - 1).map V.int))
  refine⟨D,_,rfl,.inl ⟨SqL.of z0b,fun r hr=>?_⟩⟩
  exact hN _ _ ⟨r,_,rfl,g6.trans (z0e hr _),z0b,by rw[q0a,q1H]⟩
 rintro σ H13 ⟨qs,zs,rfl,g13,eqs,zl⟩
 replace hL:=hL.same g13
 replace h1:=g13 _ _ h1
 clear g13
 refine z0p (fun σ H'=>∃(qs:Addr) (zs:List Int),σ=[some (.ref a),some (.ref l),some (.int (m:Nat)),some (.ref lf),some (.ref lev),some (.ref so),some (.ref b1),some (.ref b2),some (.ref b3),some (.ref lh),some (.ref fo),some (.ref du),x12,x13,some (.ref la),some (.ref qs)]∧Same H13 H'∧H' qs=some (.tup (zs.map V.int))∧zs.length≤30∧¬z1i m ts zs) (fun N hN=>?_) ?_
 ·refine⟨_,rfl,_,rfl,lev,_,_,_,rfl,.inl (SqL.of hL.ev),hL.evs.isDs,z4K eqs,z9J,_,rfl,?_⟩
  rw[y5y]
  refine z3f (fun cc=>?_) (fun cc=>?_)
  ·refine⟨_,rfl,z0l (by show 1≤_;decide),fun z hz=>?_⟩
   have g7:=z0e hz (.tup [V.int 0])
   have e7:upd H13 z (.tup [V.int 0]) z=some (.tup [V.int 0]):=z0b
   generalize upd H13 z (.tup [V.int 0])=H9 at*
   refine⟨qs,z,_,_,rfl,rfl,SqT.of (g7 _ _ eqs),e7,by simp,z0l (by rw[q0a];show _+1≤_;lia),fun p8 H10 g8 e8=>?_⟩
   refine hN _ _ ⟨p8,zs++[0],rfl,g7.trans g8,by rw[e8,q0p];rfl,by rw[q0l,q0T];lia,fun h=>?_⟩
   have:=h.1
   rw[q0l,q0T] at this
   lia
  ·have hn:zs∉FS:=by simpa using cc
   exact hN _ _ ⟨qs,zs,rfl,Same.refl _,eqs,by lia,fun h=>hn ((hiff zs).mpr h.2)⟩
 clear eqs zl zs qs
 rintro σ H14 ⟨qs,zs,rfl,g14,eqs,zl,hno⟩
 replace hL:=hL.same g14
 replace h1:=g14 _ _ h1
 refine⟨_,rfl,_,rfl,_,rfl,_,rfl,m,lf,qs,b1,as,ts,zs,s1,rfl,hL.wf,eqs,h1,zl,by lia,fun h=>hno h.1,fun H15 g15=>?_⟩
 refine⟨_,rfl,?_⟩
 refine z5h ?_
 exact⟨_,rfl,_,rfl,_,rfl,_,rfl,m,lf,b1,qs,as,ts,s1,zs,rfl,hL.wf.same g15,g15 _ _ h1,g15 _ _ eqs,by lia,zl,fun h=>hno h.2,fun H16 _=>q _⟩
end
end L2
namespace L2
open PySem PySem.Spec PyProof.Rows
theorem ln1 {α:Type}{C:List α→Prop} (h:∀x0,C [x0]) (us:List α) (hl:us.length=1):C us:=by
 rcases us with _|⟨x0,_|⟨y,us⟩⟩<;>first|exact h _|simp at hl
theorem ln2 {α:Type}{C:List α→Prop} (h:∀x0 x1,C [x0,x1]) (us:List α) (hl:us.length=2):C us:=by
 rcases us with _|⟨x0,_|⟨x1,_|⟨y,us⟩⟩⟩<;>first|exact h _ _|simp at hl
theorem ln3 {α:Type}{C:List α→Prop} (h:∀x0 x1 x2,C [x0,x1,x2]) (us:List α) (hl:us.length=3):C us:=by
 rcases us with _|⟨x0,_|⟨x1,_|⟨x2,_|⟨y,us⟩⟩⟩⟩<;>first|exact h _ _ _|simp at hl
theorem ln4 {α:Type}{C:List α→Prop} (h:∀x0 x1 x2 x3,C [x0,x1,x2,x3]) (us:List α) (hl:us.length=4):C us:=by
 rcases us with _|⟨x0,_|⟨x1,_|⟨x2,_|⟨x3,_|⟨y,us⟩⟩⟩⟩⟩<;>first|exact h _ _ _ _|simp at hl
def Lk (K:PySem.W.Frag) (x:Str) (st:Stmt):Prop:=∃(f:Addr) (fd:FuncData),Fun K x x st f fd∧PySem.W.keepIn K (.ref f)=true∧PySem.W.nsIn K mainGlobals x=some (some (.ref f))
theorem lk {K:PySem.W.Frag}{x:Str}{st:Stmt}{f:Addr}{oc:Value}{od an:Option Addr}{osl:Array (Option Value)}{kV doc pm cdv ct:Value} (a:PySem.W.nsIn K mainGlobals x=some (some (.ref f))) (l:K.lookup f=some ⟨oc,od,.func (PySem.W.fnOf x x (z2M st) (z2c st) (z0j st) .none kV doc pm an cdv ct),osl⟩) (c:PySem.W.codeIn K cdv x=true) (k:PySem.W.keepIn K (.ref f)=true):Lk K x st:=⟨f,_,y4j l c k,k,a⟩
theorem all_mk {l:PySem.W.OpenLaw}{w:World}{K:PySem.W.Frag}{h:Heap}{mg:Str→Option Value}{fa:Addr} (X:K.In h) (G:h.Ns mainGlobals mg) (hfa:mg "law"=some (.ref fa))
 (h1:Lk K "divisor" z4h)
 (h2:Lk K "divisor_of_all" z1o)
 (h3:Lk K "ratio" z7F)
 (h4:Lk K "wall" y0K)
 (h5:Lk K "is_whole" z3k)
 (h6:Lk K "first_place" z1U)
 (h7:Lk K "cleared" z4i)
 (h8:Lk K "rest_by" z4c)
 (h9:Lk K "drawn" z7J)
 (h10:Lk K "walls_within" z1D)
 (h11:Lk K "joined" z5D)
 (h12:Lk K "common" z5F)
 (h13:Lk K "all_parts" z2H)
 (h14:Lk K "lowest" z5A)
 (h15:Lk K "turned" z5y)
 (h16:Lk K "height" z5E)
 (h17:Lk K "lead" y0L)
 (h18:Lk K "lifted" z5B)
 (h19:Lk K "stepped" z4a)
 (h20:Lk K "spot_across" z1u)
 (h21:Lk K "spot_within" z1t)
 (h22:Lk K "bounds_at" z2G)
 (h23:Lk K "parted" z5z)
 (h24:Lk K "land_spots" z2k)
 (h25:Lk K "point_of" z3i)
 (h26:Lk K "sign_at" z4b)
 (h27:Lk K "signs_of" z3h)
 (h28:Lk K "face_at" z4g)
 (h29:Lk K "faces_in" z3l)
 (h30:Lk K "faces" z7I)
 (h31:Lk K "has_point" z2F)
 (h32:Lk K "is_face" z4f)
 (h33:Lk K "looked_face" z1T)
 (h34:Lk K "put_ahead" z2C)
 (h35:Lk K "_law_divisor" z2E)
 (h36:Lk K "_law_mix" z7H)
 (h37:Lk K "_law_draws" z4e)
 (h38:Lk K "_law_plain" z4d)
 (h39:Lk K "_law_row" z7G)
 (h40:Lk K "_law_fences" z3j)
 (h41:Lk K "_law_refused" z2D)
 {od42 an42:Option Addr}{sl42:Array (Option Value)}{oc42 kV42 dc42 pm42 cd42 ct42:Value}{f42:Addr}
 (a42:PySem.W.nsIn K mainGlobals "law"=some (some (.ref f42))) (l42:K.lookup f42=some ⟨oc42,od42,.func (PySem.W.fnOf "law" "law" (z2M z5C) (z2c z5C) (z0j z5C) .none kV42 dc42 pm42 an42 cd42 ct42),sl42⟩) (c42:PySem.W.codeIn K cd42 "law"=true) (k42:PySem.W.keepIn K (.ref f42)=true)
 (z1:PySem.W.nsIn K mainGlobals "abs"=some none)
 (z2:PySem.W.nsIn K mainGlobals "len"=some none)
 (z3:PySem.W.nsIn K mainGlobals "isinstance"=some none)
 (z4:PySem.W.nsIn K mainGlobals "int"=some none)
 (z5:PySem.W.nsIn K mainGlobals "bool"=some none)
 (z6:PySem.W.nsIn K mainGlobals "tuple"=some none)
 (z7:PySem.W.nsIn K mainGlobals "list"=some none)
 (z8:PySem.W.nsIn K mainGlobals "any"=some none)
 (z9:PySem.W.nsIn K mainGlobals "min"=some none)
 (z10:PySem.W.nsIn K mainGlobals "max"=some none)
 (z11:PySem.W.nsIn K mainGlobals "range"=some none)
 (z12:PySem.W.nsIn K mainGlobals "enumerate"=some none)
 (z13:PySem.W.nsIn K mainGlobals "zip"=some none)
 (z14:PySem.W.nsIn K mainGlobals "sorted"=some none)
 (z15:PySem.W.nsIn K mainGlobals "sum"=some none)
 (z16:PySem.W.nsIn K mainGlobals "all"=some none)
 (z17:PySem.W.nsIn K mainGlobals "ValueError"=some none)
 (z18:PySem.W.nsIn K mainGlobals "reversed"=some none)
 {AWallError:Addr} (nWallError:PySem.W.nsIn K mainGlobals "WallError"=some (some (.ref AWallError)))
 {ANoNumber:Addr} (nNoNumber:PySem.W.nsIn K mainGlobals "NoNumber"=some (some (.ref ANoNumber)))
 {ANoLand:Addr} (nNoLand:PySem.W.nsIn K mainGlobals "NoLand"=some (some (.ref ANoLand)))
 {ANoFace:Addr} (nNoFace:PySem.W.nsIn K mainGlobals "NoFace"=some (some (.ref ANoFace)))
 {ANoPlace:Addr} (nNoPlace:PySem.W.nsIn K mainGlobals "NoPlace"=some (some (.ref ANoPlace)))
 {ANoWall:Addr} (nNoWall:PySem.W.nsIn K mainGlobals "NoWall"=some (some (.ref ANoWall)))
 {nm q:Str}{N:Addr}{bs bm:List Value}{hdct:Bool}{sn:List Str}{sub:List Value}{ab:Bool}{col:Option Bool}{dd:Option Addr}{q0 q1 q2 q3 q5:Option Value}{cdx:ClassData}
 (x1:K.lookup ANoFace=some (excClassObj nm q ANoFace N bs bm hdct sn sub ab col dd q0 q1 q2 q3 q5 "ValueError.__new__"))
 (x2:PySem.W.nsOkIn K N=true)
 (x3:PySem.W.nsIn K N "__init__"=some none)
 (x4:PySem.W.tailIn K vErr bm=true)
 (x5:PySem.W.clsIn K ANoFace=some cdx)
 (x6:PySem.W.findIn K (.ref ANoFace) "__getattribute__"=some (some (.builtin "BaseException.__getattribute__")))
 (x7:PySem.W.findIn K (.ref ANoFace) "__getattr__"=some none)
 (x8:PySem.W.findIn K (.ref ANoFace) "__class__"=some (some (.builtin "object.__class__")))
 (x9:PySem.W.specialIn K (.builtin "object.__class__") "__get__"=some (some (.builtin "getset_descriptor.__get__")))
 (x10:PySem.W.takesIn K (.builtin "object.__class__")=some true)
 (x11:PySem.W.mroIn K ANoFace (.type "object")=some true)
 (x12:PySem.W.subIn K (.ref ANoFace) (.type "BaseException")=some true)
 (x13:PySem.W.exmOne K (.ref ANoFace) (.ref AWallError)=some true)
 (x14:PySem.W.kitAny K (.ref ANoFace) [.ref ANoLand,.ref ANoNumber,.ref ANoPlace,.ref ANoWall]=some false)
 (x15:PySem.W.kitOne K (.ref ANoFace) (.ref ANoFace)=some true)
 (x16:PySem.W.kitOne K (.ref ANoFace) (.type "ValueError")=some true)
 :∃fd:FuncData,(∀(s:Shared) (v:Value),BindsTo s fd ⟨[v],[]⟩ [("_law_script",v)])∧∀base:Heap,K.In base→base.Ns mainGlobals mg→FnOk l.prog w K mg base CX0 23 fa fd ["_law_script"] (y2S K):=by
 have e:=hfa.symm.trans (q0s X G a42)
 cases e
 have T:Txt mg:=⟨q0Q X G z1,q0Q X G z2,q0Q X G z3,q0Q X G z4,q0Q X G z5,q0Q X G z6,q0Q X G z7,q0Q X G z8,q0Q X G z9,q0Q X G z10,q0Q X G z11,q0Q X G z12,q0Q X G z13,q0Q X G z14,q0Q X G z15,q0Q X G z16,q0Q X G z17,q0Q X G z18⟩
 have xc:Xc K mg AWallError ANoNumber ANoFace ANoLand ANoPlace ANoWall:=⟨q0s X G nWallError,q0s X G nNoNumber,q0s X G nNoFace,q0s X G nNoLand,q0s X G nNoPlace,q0s X G nNoWall,⟨_,_,_,_,_,_,_,_,_,_,_,_,_,_,_,_,x1,x2,x3,x4⟩,⟨by rw[x5];rfl,x6,x7,x8,x9,x10,x11,x12⟩,x13,x14,x15,x16⟩
 obtain⟨_,_,F1,k1,a1⟩:=h1
 have b1:=F1.binds (ps:=["one","other"]) fun _ _ _ _ _ _=>ln2 fun _ _=>rfl
 obtain⟨_,_,F2,k2,a2⟩:=h2
 have b2:=F2.binds (ps:=["numbers"]) fun _ _ _ _ _ _=>ln1 fun _=>rfl
 obtain⟨_,_,F3,k3,a3⟩:=h3
 have b3:=F3.binds (ps:=["top","bottom"]) fun _ _ _ _ _ _=>ln2 fun _ _=>rfl
 obtain⟨_,_,F4,k4,a4⟩:=h4
 have b4:=F4.binds (ps:=["numbers"]) fun _ _ _ _ _ _=>ln1 fun _=>rfl
 obtain⟨_,_,F5,k5,a5⟩:=h5
 have b5:=F5.binds (ps:=["number"]) fun _ _ _ _ _ _=>ln1 fun _=>rfl
 obtain⟨_,_,F6,k6,a6⟩:=h6
 have b6:=F6.binds (ps:=["row"]) fun _ _ _ _ _ _=>ln1 fun _=>rfl
 obtain⟨_,_,F7,k7,a7⟩:=h7
 have b7:=F7.binds (ps:=["numbers","row"]) fun _ _ _ _ _ _=>ln2 fun _ _=>rfl
 obtain⟨_,_,F8,k8,a8⟩:=h8
 have b8:=F8.binds (ps:=["rows","numbers"]) fun _ _ _ _ _ _=>ln2 fun _ _=>rfl
 obtain⟨_,_,F9,k9,a9⟩:=h9
 have b9:=F9.binds (ps:=["rows","numbers"]) fun _ _ _ _ _ _=>ln2 fun _ _=>rfl
 obtain⟨_,_,F10,k10,a10⟩:=h10
 have b10:=F10.binds (ps:=["rows","walls"]) fun _ _ _ _ _ _=>ln2 fun _ _=>rfl
 obtain⟨_,_,F11,k11,a11⟩:=h11
 have b11:=F11.binds (ps:=["rows","numbers"]) fun _ _ _ _ _ _=>ln2 fun _ _=>rfl
 obtain⟨_,_,F12,k12,a12⟩:=h12
 have b12:=F12.binds (ps:=["ways","walls","lot"]) fun _ _ _ _ _ _=>ln3 fun _ _ _=>rfl
 obtain⟨_,_,F13,k13,a13⟩:=h13
 have b13:=F13.binds (ps:=["walls"]) fun _ _ _ _ _ _=>ln1 fun _=>rfl
 obtain⟨_,_,F14,k14,a14⟩:=h14
 have b14:=F14.binds (ps:=["numbers"]) fun _ _ _ _ _ _=>ln1 fun _=>rfl
 obtain⟨_,_,F15,k15,a15⟩:=h15
 have b15:=F15.binds (ps:=["numbers","sign"]) fun _ _ _ _ _ _=>ln2 fun _ _=>rfl
 obtain⟨_,_,F16,k16,a16⟩:=h16
 have b16:=F16.binds (ps:=["bound","spot"]) fun _ _ _ _ _ _=>ln2 fun _ _=>rfl
 obtain⟨_,_,F17,k17,a17⟩:=h17
 have b17:=F17.binds (ps:=["bound"]) fun _ _ _ _ _ _=>ln1 fun _=>rfl
 obtain⟨_,_,F18,k18,a18⟩:=h18
 have b18:=F18.binds (ps:=["rows","spot"]) fun _ _ _ _ _ _=>ln2 fun _ _=>rfl
 obtain⟨_,_,F19,k19,a19⟩:=h19
 have b19:=F19.binds (ps:=["bounds","spot","place","sign"]) fun _ _ _ _ _ _=>ln4 fun _ _ _ _=>rfl
 obtain⟨_,_,F20,k20,a20⟩:=h20
 have b20:=F20.binds (ps:=["ways","bounds","bound"]) fun _ _ _ _ _ _=>ln3 fun _ _ _=>rfl
 obtain⟨_,_,F21,k21,a21⟩:=h21
 have b21:=F21.binds (ps:=["ways","bounds"]) fun _ _ _ _ _ _=>ln2 fun _ _=>rfl
 obtain⟨_,_,F22,k22,a22⟩:=h22
 have b22:=F22.binds (ps:=["walls","signs"]) fun _ _ _ _ _ _=>ln2 fun _ _=>rfl
 obtain⟨_,_,F23,k23,a23⟩:=h23
 have b23:=F23.binds (ps:=["ways","walls","found","numbers"]) fun _ _ _ _ _ _=>ln4 fun _ _ _ _=>rfl
 obtain⟨_,_,F24,k24,a24⟩:=h24
 have b24:=F24.binds (ps:=["ways","walls"]) fun _ _ _ _ _ _=>ln2 fun _ _=>rfl
 obtain⟨_,_,F25,k25,a25⟩:=h25
 have b25:=F25.binds (ps:=["spot"]) fun _ _ _ _ _ _=>ln1 fun _=>rfl
 obtain⟨_,_,F26,k26,a26⟩:=h26
 have b26:=F26.binds (ps:=["numbers","spot"]) fun _ _ _ _ _ _=>ln2 fun _ _=>rfl
 obtain⟨_,_,F27,k27,a27⟩:=h27
 have b27:=F27.binds (ps:=["face"]) fun _ _ _ _ _ _=>ln1 fun _=>rfl
 obtain⟨_,_,F28,k28,a28⟩:=h28
 have b28:=F28.binds (ps:=["walls","spot"]) fun _ _ _ _ _ _=>ln2 fun _ _=>rfl
 obtain⟨_,_,F29,k29,a29⟩:=h29
 have b29:=F29.binds (ps:=["ways","walls","rows"]) fun _ _ _ _ _ _=>ln3 fun _ _ _=>rfl
 obtain⟨_,_,F30,k30,a30⟩:=h30
 have b30:=F30.binds (ps:=["ways","walls"]) fun _ _ _ _ _ _=>ln2 fun _ _=>rfl
 obtain⟨_,_,F31,k31,a31⟩:=h31
 have b31:=F31.binds (ps:=["ways","walls","signs"]) fun _ _ _ _ _ _=>ln3 fun _ _ _=>rfl
 obtain⟨_,_,F32,k32,a32⟩:=h32
 have b32:=F32.binds (ps:=["ways","walls","signs"]) fun _ _ _ _ _ _=>ln3 fun _ _ _=>rfl
 obtain⟨_,_,F33,k33,a33⟩:=h33
 have b33:=F33.binds (ps:=["ways","walls","signs"]) fun _ _ _ _ _ _=>ln3 fun _ _ _=>rfl
 obtain⟨_,_,F34,k34,a34⟩:=h34
 have b34:=F34.binds (ps:=["ways","walls","one","other"]) fun _ _ _ _ _ _=>ln4 fun _ _ _ _=>rfl
 obtain⟨_,_,F35,k35,a35⟩:=h35
 have b35:=F35.binds (ps:=["_law_one","_law_other"]) fun _ _ _ _ _ _=>ln2 fun _ _=>rfl
 obtain⟨_,_,F36,k36,a36⟩:=h36
 have b36:=F36.binds (ps:=["_law_script","_law_k"]) fun _ _ _ _ _ _=>ln2 fun _ _=>rfl
 obtain⟨_,_,F37,k37,a37⟩:=h37
 have b37:=F37.binds (ps:=["_law_script"]) fun _ _ _ _ _ _=>ln1 fun _=>rfl
 obtain⟨_,_,F38,k38,a38⟩:=h38
 have b38:=F38.binds (ps:=["_law_row_here"]) fun _ _ _ _ _ _=>ln1 fun _=>rfl
 obtain⟨_,_,F39,k39,a39⟩:=h39
 have b39:=F39.binds (ps:=["_law_draws_here","_law_ways","_law_k","_law_way"]) fun _ _ _ _ _ _=>ln4 fun _ _ _ _=>rfl
 obtain⟨_,_,F40,k40,a40⟩:=h40
 have b40:=F40.binds (ps:=["_law_draws_here","_law_most"]) fun _ _ _ _ _ _=>ln2 fun _ _=>rfl
 obtain⟨_,_,F41,k41,a41⟩:=h41
 have b41:=F41.binds (ps:=["_law_ways","_law_fences_here","_law_one","_law_other"]) fun _ _ _ _ _ _=>ln4 fun _ _ _ _=>rfl
 have F42:=y4j (st:=z5C) l42 c42 k42
 refine⟨PySem.W.fnOf "law" "law" (z2M z5C) (z2c z5C) (z0j z5C) .none kV42 dc42 pm42 an42 cd42 ct42,fun s v=> .of_eq rfl,fun base _ _=>?_⟩
 have C1:Cal l.prog w K mg base 1 "divisor" _ _:=⟨_,_,z9R T F1,b1,k1,q0s X G a1⟩
 have C2:Cal l.prog w K mg base 2 "divisor_of_all" _ _:=⟨_,_,z3r T F2 (C1.mono (by decide)),b2,k2,q0s X G a2⟩
 have C3:Cal l.prog w K mg base 2 "ratio" _ _:=⟨_,_,y3j T F3 (C1.mono (by decide)),b3,k3,q0s X G a3⟩
 have C4:Cal l.prog w K mg base 3 "wall" _ _:=⟨_,_,y5g T F4 (C2.mono (by decide)),b4,k4,q0s X G a4⟩
 have C5:Cal l.prog w K mg base 1 "is_whole" _ _:=⟨_,_,z7R T F5,b5,k5,q0s X G a5⟩
 have C6:Cal l.prog w K mg base 1 "first_place" _ _:=⟨_,_,z4J T F6,b6,k6,q0s X G a6⟩
 have C7:Cal l.prog w K mg base 2 "cleared" _ _:=⟨_,_,z9S T F7 (C6.mono (by decide)) (C1.mono (by decide)),b7,k7,q0s X G a7⟩
 have C8:Cal l.prog w K mg base 3 "rest_by" _ _:=⟨_,_,z9M T F8 (C7.mono (by decide)),b8,k8,q0s X G a8⟩
 have C9:Cal l.prog w K mg base 4 "drawn" _ _:=⟨_,_,y3n T F9 (C6.mono (by decide)) (C8.mono (by decide)),b9,k9,q0s X G a9⟩
 have C10:Cal l.prog w K mg base 5 "walls_within" _ _:=⟨_,_,z4m T F10 (C9.mono (by decide)) (C4.mono (by decide)),b10,k10,q0s X G a10⟩
 have C11:Cal l.prog w K mg base 5 "joined" _ _:=⟨_,_,y1o T F11 ((C8.imp fun _ _ _ _ h=>y6a h).mono (by decide)) (C4.mono (by decide)) (C7.mono (by decide)) (C6.mono (by decide)),b11,k11,q0s X G a11⟩
 have C12:Cal l.prog w K mg base 6 "common" _ _:=⟨_,_,y1q T F12 (C11.mono (by decide)),b12,k12,q0s X G a12⟩
 have C13:Cal l.prog w K mg base 6 "all_parts" _ _:=⟨_,_,z6T T F13 (C11.mono (by decide)),b13,k13,q0s X G a13⟩
 have C14:Cal l.prog w K mg base 3 "lowest" _ _:=⟨_,_,y1m T F14 (C2.mono (by decide)),b14,k14,q0s X G a14⟩
 have C15:Cal l.prog w K mg base 1 "turned" _ _:=⟨_,_,y1k T F15,b15,k15,q0s X G a15⟩
 have C16:Cal l.prog w K mg base 1 "height" _ _:=⟨_,_,y1p T F16,b16,k16,q0s X G a16⟩
 have C17:Cal l.prog w K mg base 2 "lead" _ _:=⟨_,_,y5h T F17 (C6.mono (by decide)),b17,k17,q0s X G a17⟩
 have C18:Cal l.prog w K mg base 4 "lifted" _ _:=⟨_,_,y1n T F18 (C6.mono (by decide)) (C16.mono (by decide)) (C14.mono (by decide)),b18,k18,q0s X G a18⟩
 have C19:Cal l.prog w K mg base 4 "stepped" _ _:=⟨_,_,z9K T F19 ((C16.imp fun _ _ _ _ h=>z3M h).mono (by decide)) (C14.mono (by decide)),b19,k19,q0s X G a19⟩
 have C20:∀m,m≤4→Cal l.prog w K mg base 15 "spot_across" _ (z7z K (m+1)):=fun m hm=>(show Cal l.prog w K mg base (6+2*m+1) "spot_across" _ (z7z K (m+1)) from⟨_,_,(z5N T F20 b20 k20 (q0s X G a20) F21 b21 k21 (q0s X G a21) (C15.mono (by decide)) (C17.mono (by decide)) ((C9.imp fun _ _ _ _ h=>y2n h).mono (by decide)) (C19.mono (by decide)) ((C18.imp fun _ _ _ _ h=>z8W h).mono (by decide)) (C6.mono (by decide)) ((C16.imp fun _ _ _ _ h=>z3M h).mono (by decide)) m).2,b20,k20,q0s X G a20⟩).mono (by lia)
 have C21:Cal l.prog w K mg base 16 "spot_within" _ (y0t K):=⟨_,_,y6N fun m hm=>((z5N T F20 b20 k20 (q0s X G a20) F21 b21 k21 (q0s X G a21) (C15.mono (by decide)) (C17.mono (by decide)) ((C9.imp fun _ _ _ _ h=>y2n h).mono (by decide)) (C19.mono (by decide)) ((C18.imp fun _ _ _ _ h=>z8W h).mono (by decide)) (C6.mono (by decide)) ((C16.imp fun _ _ _ _ h=>z3M h).mono (by decide)) (m+1)).1).mono (by lia),b21,k21,q0s X G a21⟩
 have C22:Cal l.prog w K mg base 2 "bounds_at" _ _:=⟨_,_,z6S T F22 (C15.mono (by decide)),b22,k22,q0s X G a22⟩
 have C23:Cal l.prog w K mg base 16 "parted" _ _:=⟨_,_,y1l T F23 (C22.mono (by decide)) (C15.mono (by decide)) ((C16.imp fun _ _ _ _ h=>z3M h).mono (by decide)) C20,b23,k23,q0s X G a23⟩
 have C24:Cal l.prog w K mg base 17 "land_spots" _ _:=⟨_,_,z5P T F24 (C23.mono (by decide)),b24,k24,q0s X G a24⟩
 have C25:Cal l.prog w K mg base 3 "point_of" _ _:=⟨_,_,z7P T F25 (C3.mono (by decide)),b25,k25,q0s X G a25⟩
 have C26:Cal l.prog w K mg base 2 "sign_at" _ _:=⟨_,_,z9L T F26 (C16.mono (by decide)),b26,k26,q0s X G a26⟩
 have C27:Cal l.prog w K mg base 1 "signs_of" _ _:=⟨_,_,z7O T F27,b27,k27,q0s X G a27⟩
 have C28:Cal l.prog w K mg base 4 "face_at" _ _:=⟨_,_,z9Q T F28 (C26.mono (by decide)) (C25.mono (by decide)),b28,k28,q0s X G a28⟩
 have C29:Cal l.prog w K mg base 18 "faces_in" _ _:=⟨_,_,z7S T F29 (C24.mono (by decide)) (C10.mono (by decide)) (C28.mono (by decide)) (C18.mono (by decide)),b29,k29,q0s X G a29⟩
 have C30:Cal l.prog w K mg base 19 "faces" _ _:=⟨_,_,y3m T F30 (C13.mono (by decide)) (C29.mono (by decide)) (C27.mono (by decide)),b30,k30,q0s X G a30⟩
 have C31:Cal l.prog w K mg base 17 "has_point" _ _:=⟨_,_,z6R T F31 (C12.mono (by decide)) (C15.mono (by decide)) (C9.mono (by decide)) (C21.mono (by decide)),b31,k31,q0s X G a31⟩
 have C32:Cal l.prog w K mg base 18 "is_face" _ _:=⟨_,_,z9P T F32 (C5.mono (by decide)) (C31.mono (by decide)),b32,k32,q0s X G a32⟩
 have C33:Cal1 l.prog w K mg base 19 "looked_face" _ _:=⟨_,_,z4n T F33 (C32.mono (by decide)) xc.made xc.mNoFace,b33,k33,q0s X G a33⟩
 have C34:Cal1 l.prog w K mg base 20 "put_ahead" _ _:=⟨_,_,z5O T F34 (C33.mono (by decide)),b34,k34,q0s X G a34⟩
 have C35:Cal l.prog w K mg base 1 "_law_divisor" _ _:=⟨_,_,z6Q T F35,b35,k35,q0s X G a35⟩
 have C36:Cal l.prog w K mg base 1 "_law_mix" _ _:=⟨_,_,y3l T F36,b36,k36,q0s X G a36⟩
 have C37:Cal l.prog w K mg base 2 "_law_draws" _ _:=⟨_,_,z9O T F37 (C36.mono (by decide)),b37,k37,q0s X G a37⟩
 have C38:Cal l.prog w K mg base 2 "_law_plain" _ _:=⟨_,_,z9N T F38 (C35.mono (by decide)),b38,k38,q0s X G a38⟩
 have C39:Cal l.prog w K mg base 3 "_law_row" _ _:=⟨_,_,y3k T F39 (C38.mono (by decide)),b39,k39,q0s X G a39⟩
 have C40:Cal l.prog w K mg base 4 "_law_fences" _ _:=⟨_,_,z7Q T F40 (C39.mono (by decide)),b40,k40,q0s X G a40⟩
 have C41:Cal l.prog w K mg base 22 "_law_refused" _ _:=⟨_,_,z6P T xc F41 (C34.mono (by decide)),b41,k41,q0s X G a41⟩
 exact y6v T F42 (C37.mono (by decide)) (C40.mono (by decide)) (C30.mono (by decide)) ((C34.to0.imp fun _ _ _ _ h=>y6Z h).mono (by decide)) (C41.mono (by decide))
theorem walk {l:PySem.W.OpenLaw}{q:Program}{loose:List Str}{XP:(Str→Option Value)→Heap→Prop}{YP:World→Heap→Prop}{d:DefRec}{K:Params→PySem.W.Frag} (hn:l.most=some 63) (hdf:d.params.defaults=[])
 (hY:∀(w:World) (h:Heap),YP w h→(K w.params).In h)
 (F:∀(w:World) (mg:Str→Option Value) (fa:Addr) (h:Heap),(K w.params).In h→h.Ns mainGlobals mg→mg d.name=some (.ref fa)→
  ∃fd:FuncData,(∀(s:Shared) (u:Value),BindsTo s fd ⟨[u],[]⟩ [("_law_script",u)])∧∀base:Heap,(K w.params).In base→base.Ns mainGlobals mg→FnOk l.prog w (K w.params) mg base CX0 23 fa fd ["_law_script"] (y2S (K w.params))):
 PySem.W.WalkO q loose XP YP l.row.toRowW d [] (fun f vs=>PySem.call f vs):=
 L2.walk_of (n:=63) (k:=23) (x:="_law_script") (CX:=fun _=>CX0) (sp:=fun w=>y2S (K w.params)) hn (by decide) hdf ⟨rfl,by decide,by decide⟩ hY F (fun _ _ a ns hl _ hS=>⟨a,ns,rfl,hS,hl,fun _=>rfl⟩) fun _ _ _ _ _ z=>z
end L2
open PySem PySem.W PyProof.Rows
theorem PySem.W.Fast.tw8433257881752561536 : True := trivial
theorem PySem.W.Fast.tw15868002447475178884 : True := trivial
theorem PySem.W.Fast.tw17147025089016270437 : True := trivial
theorem PySem.W.Fast.tw14527365642765558375 : True := trivial
theorem PySem.W.Fast.tw4634080867258013032 : True := trivial
theorem PySem.W.Fast.tw1118050516586334409 : True := trivial
theorem PySem.W.Fast.tw4553970064933744650 : True := trivial
theorem PySem.W.Fast.tw17793787377621708267 : True := trivial
theorem PySem.W.Fast.tw13640153379880228620 : True := trivial
theorem PySem.W.Fast.tw6220523915296304109 : True := trivial
theorem PySem.W.Fast.tw2172807463927755152 : True := trivial
theorem PySem.W.Fast.tw4558930593471216336 : True := trivial
theorem PySem.W.Fast.tw280574324301112401 : True := trivial
theorem PySem.W.Fast.tw17684212573465095697 : True := trivial
theorem PySem.W.Fast.tw4717498419519776626 : True := trivial
theorem PySem.W.Fast.tw5922648457375405970 : True := trivial
theorem PySem.W.Fast.tw7331225174685166611 : True := trivial
theorem PySem.W.Fast.tw17885103210726428662 : True := trivial
theorem PySem.W.Fast.tw13594276544607559607 : True := trivial
theorem PySem.W.Fast.tw12483630035035803800 : True := trivial
theorem PySem.W.Fast.tw112654992900850489 : True := trivial
theorem PySem.W.Fast.tw2416704266673793371 : True := trivial
theorem PySem.W.Fast.tw17449928314257944383 : True := trivial
theorem PySem.W.Fast.tw17391414528909214211 : True := trivial
set_option maxRecDepth 100000 in
set_option maxHeartbeats 0 in
theorem PySem.Challenge.cw_wallspace_k64_whole_faces_put_ahead_holds : PySem.Challenge.rw_wallspace_k64_whole_faces_put_ahead.Holds := by
  w_on; o_law; k_head; (case hw => w_witness2)
  k_fill
  refine L2.walk (l := PySem.Challenge.rw_wallspace_k64_whole_faces_put_ahead) rfl rfl (fun w h Y => PySem.W.kIn_of Y) ?F
  case F =>
    intro w mg fa h KX G hmg
    refine' L2.all_mk KX G hmg ?h1 ?h2 ?h3 ?h4 ?h5 ?h6 ?h7 ?h8 ?h9 ?h10 ?h11 ?h12 ?h13 ?h14 ?h15 ?h16 ?h17 ?h18 ?h19 ?h20 ?h21 ?h22 ?h23 ?h24 ?h25 ?h26 ?h27 ?h28 ?h29 ?h30 ?h31 ?h32 ?h33 ?h34 ?h35 ?h36 ?h37 ?h38 ?h39 ?h40 ?h41 ?a42 ?l42 ?c42 ?k42 ?z1 ?z2 ?z3 ?z4 ?z5 ?z6 ?z7 ?z8 ?z9 ?z10 ?z11 ?z12 ?z13 ?z14 ?z15 ?z16 ?z17 ?z18 ?nWallError ?nNoNumber ?nNoLand ?nNoFace ?nNoPlace ?nNoWall ?x1 ?x2 ?x3 ?x4 ?x5 ?x6 ?x7 ?x8 ?x9 ?x10 ?x11 ?x12 ?x13 ?x14 ?x15 ?x16
    (case h1 => exact L2.lk (by k_is) (by k_is) (by k_is) (by k_is))
    (case h2 => exact L2.lk (by k_is) (by k_is) (by k_is) (by k_is))
    (case h3 => exact L2.lk (by k_is) (by k_is) (by k_is) (by k_is))
    (case h4 => exact L2.lk (by k_is) (by k_is) (by k_is) (by k_is))
    (case h5 => exact L2.lk (by k_is) (by k_is) (by k_is) (by k_is))
    (case h6 => exact L2.lk (by k_is) (by k_is) (by k_is) (by k_is))
    (case h7 => exact L2.lk (by k_is) (by k_is) (by k_is) (by k_is))
    (case h8 => exact L2.lk (by k_is) (by k_is) (by k_is) (by k_is))
    (case h9 => exact L2.lk (by k_is) (by k_is) (by k_is) (by k_is))
    (case h10 => exact L2.lk (by k_is) (by k_is) (by k_is) (by k_is))
    (case h11 => exact L2.lk (by k_is) (by k_is) (by k_is) (by k_is))
    (case h12 => exact L2.lk (by k_is) (by k_is) (by k_is) (by k_is))
    (case h13 => exact L2.lk (by k_is) (by k_is) (by k_is) (by k_is))
    (case h14 => exact L2.lk (by k_is) (by k_is) (by k_is) (by k_is))
    (case h15 => exact L2.lk (by k_is) (by k_is) (by k_is) (by k_is))
    (case h16 => exact L2.lk (by k_is) (by k_is) (by k_is) (by k_is))
    (case h17 => exact L2.lk (by k_is) (by k_is) (by k_is) (by k_is))
    (case h18 => exact L2.lk (by k_is) (by k_is) (by k_is) (by k_is))
    (case h19 => exact L2.lk (by k_is) (by k_is) (by k_is) (by k_is))
    (case h20 => exact L2.lk (by k_is) (by k_is) (by k_is) (by k_is))
    (case h21 => exact L2.lk (by k_is) (by k_is) (by k_is) (by k_is))
    (case h22 => exact L2.lk (by k_is) (by k_is) (by k_is) (by k_is))
    (case h23 => exact L2.lk (by k_is) (by k_is) (by k_is) (by k_is))
    (case h24 => exact L2.lk (by k_is) (by k_is) (by k_is) (by k_is))
    (case h25 => exact L2.lk (by k_is) (by k_is) (by k_is) (by k_is))
    (case h26 => exact L2.lk (by k_is) (by k_is) (by k_is) (by k_is))
    (case h27 => exact L2.lk (by k_is) (by k_is) (by k_is) (by k_is))
    (case h28 => exact L2.lk (by k_is) (by k_is) (by k_is) (by k_is))
    (case h29 => exact L2.lk (by k_is) (by k_is) (by k_is) (by k_is))
    (case h30 => exact L2.lk (by k_is) (by k_is) (by k_is) (by k_is))
    (case h31 => exact L2.lk (by k_is) (by k_is) (by k_is) (by k_is))
    (case h32 => exact L2.lk (by k_is) (by k_is) (by k_is) (by k_is))
    (case h33 => exact L2.lk (by k_is) (by k_is) (by k_is) (by k_is))
    (case h34 => exact L2.lk (by k_is) (by k_is) (by k_is) (by k_is))
    (case h35 => exact L2.lk (by k_is) (by k_is) (by k_is) (by k_is))
    (case h36 => exact L2.lk (by k_is) (by k_is) (by k_is) (by k_is))
    (case h37 => exact L2.lk (by k_is) (by k_is) (by k_is) (by k_is))
    (case h38 => exact L2.lk (by k_is) (by k_is) (by k_is) (by k_is))
    (case h39 => exact L2.lk (by k_is) (by k_is) (by k_is) (by k_is))
    (case h40 => exact L2.lk (by k_is) (by k_is) (by k_is) (by k_is))
    (case h41 => exact L2.lk (by k_is) (by k_is) (by k_is) (by k_is))
    (case a42 => k_is)
    (case l42 => k_is)
    (case c42 => k_is)
    (case k42 => k_is)
    (case z1 => k_is)
    (case z2 => k_is)
    (case z3 => k_is)
    (case z4 => k_is)
    (case z5 => k_is)
    (case z6 => k_is)
    (case z7 => k_is)
    (case z8 => k_is)
    (case z9 => k_is)
    (case z10 => k_is)
    (case z11 => k_is)
    (case z12 => k_is)
    (case z13 => k_is)
    (case z14 => k_is)
    (case z15 => k_is)
    (case z16 => k_is)
    (case z17 => k_is)
    (case z18 => k_is)
    (case nWallError => k_is)
    (case nNoNumber => k_is)
    (case nNoLand => k_is)
    (case nNoFace => k_is)
    (case nNoPlace => k_is)
    (case nNoWall => k_is)
    (case x1 => k_is)
    (case x2 => kernel_rfl)
    (case x3 => k_is)
    (case x4 => kernel_rfl)
    (case x5 => k_is)
    (case x6 => k_is)
    (case x7 => k_is)
    (case x8 => k_is)
    (case x9 => k_is)
    (case x10 => k_is)
    (case x11 => k_is)
    (case x12 => k_is)
    (case x13 => kernel_rfl)
    (case x14 => kernel_rfl)
    (case x15 => kernel_rfl)
    (case x16 => kernel_rfl)
