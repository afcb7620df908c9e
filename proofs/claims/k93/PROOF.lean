import PyProof.Rows.All
import Wide.All
import OpenK.AllK
import Wide.FinOn
import Lean
import PyProof.EqAt
import PyProof.EqKinds
import PyProof.TupleCall
import PySem.Challenge.RW_wallspace_k93_whole_webs_of_pairs
set_option Elab.async false
set_option linter.all false
set_option maxRecDepth 100000
section
open PySem PySem.Spec PyProof.Rows
abbrev q0a:=@List.length_map
abbrev q0b:=@List.getD_eq_getElem?_getD
abbrev q0c:=@List.getElem?_eq_getElem
abbrev q0d:=@Heap.get?_push_of_some
abbrev q0e:=@List.size_toArray
abbrev q0f:=@List.mem_map
abbrev q0g:=@List.mem_singleton
abbrev q0h:=@List.getElem?_map
abbrev q0i:=@Nat.le_refl
abbrev q0j:=@List.mem_cons_of_mem
abbrev q0k:=@List.length_append
abbrev q0l:=@List.mem_cons_self
abbrev q0m:=@Nat.le_trans
abbrev q0n:=@List.mem_cons
abbrev q0o:=@Nat.ne_of_lt
abbrev q0p:=@Decidable.byContradiction
abbrev q0q:=@List.map_cons
abbrev q0r:=@List.map_append
abbrev q0s:=@Heap.get?_push_size
abbrev q0t:=@Heap.lt_size
abbrev q0u:=@Option.map_eq_some_iff
abbrev q0v:=@List.getElem?_append_right
abbrev q0w:=@List.length_take
abbrev q0x:=@PySem.W.mg_of
abbrev q0y:=@Nat.lt_of_lt_of_le
abbrev q0z:=@List.getElem_mem
abbrev q0A:=@List.mem_of_getElem?
abbrev q0B:=@List.mem_iff_getElem
abbrev q0C:=@List.mem_append_right
abbrev q0D:=@List.getElem?_append_left
abbrev q0E:=@Int.toNat_natCast
abbrev q0F:=@Bool.false_ne_true
abbrev q0G:=@List.mem_append_left
abbrev q0H:=@List.getElem?_eq_some_iff
abbrev q0I:=@List.mem_append
abbrev q0J:=@List.length_cons
abbrev q0K:=@List.map_map
abbrev q0L:=@List.mem_map_of_mem
abbrev q0M:=@Nat.lt_succ_of_lt
abbrev q0N:=@Nat.zero_le
abbrev q0O:=@List.filter_cons_of_pos
abbrev q0P:=@Int.mul_zero
abbrev q0Q:=@List.dropLast_concat_getLast
abbrev q0R:=@List.take_add_one
abbrev q0S:=@List.map_congr_left
abbrev q0T:=@List.take_length
abbrev q0U:=@PySem.W.mg_none_of
abbrev q0V:=@List.filter_cons_of_neg
abbrev q0W:=@List.length_range
abbrev q0X:=@List.all_eq_true
abbrev q0Y:=@List.length_eq_zero_iff
abbrev q0Z:=@List.getElem?_zip_eq_some
abbrev q1a:=@List.pairwise_map
abbrev q1b:=@Bool.and_eq_true
abbrev q1c:=@List.length_replicate
abbrev q1d:=@Nat.le_add_right
abbrev q1e:=@Nat.lt_irrefl
abbrev q1f:=@List.filter_append
abbrev q1g:=@Int.mul_ne_zero
abbrev q1h:=@List.length_zip
abbrev q1i:=@Bool.eq_iff_iff
abbrev q1j:=@List.length_singleton
abbrev q1k:=@List.replicate_succ
abbrev q1l:=@Heap.size_push
abbrev q1m:=@Int.add_zero
abbrev q1n:=@Heap.get?_update_other
abbrev q1o:=@List.length_filter_le
abbrev q1p:=@List.getElem?_eq_none
abbrev q1q:=@Int.mul_eq_zero
abbrev q1r:=@Int.mul_nonneg
abbrev q1s:=@Int.gcd_dvd_left
abbrev q1t:=@Nat.le_succ
abbrev q1u:=@List.mem_filter
abbrev q1v:=@List.drop_eq_getElem_cons
abbrev q1w:=@Array.length_toList
abbrev q1x:=@Option.isSome_iff_exists
abbrev q1y:=@Nat.sub_self
abbrev q1z:=@List.foldl_append
abbrev q1A:=@List.append_assoc
abbrev q1B:=@Int.le_of_lt
abbrev q1C:=@List.mem_range
abbrev q1D:=@PySem.W.kia_one
abbrev q1E:=@List.nodup_cons
abbrev q1F:=@List.append_nil
abbrev q1G:=@Nat.pow_le_pow_right
abbrev q1H:=@List.mem_flatMap
abbrev q1I:=@List.lookup_cons
abbrev q1J:=@List.length_zipWith
abbrev q1K:=@List.eraseIdx_eq_take_drop_succ
abbrev q1L:=@Int.gcd_dvd_right
abbrev q1M:=@List.take_append_drop
abbrev q1N:=@List.mem_iff_getElem?
abbrev q1O:=@List.getElem?_set_self
abbrev q1P:=@List.pairwise_cons
abbrev q1Q:=@List.mem_or_eq_of_mem_set
abbrev q1R:=@Int.mul_pos
abbrev q1S:=@List.getElem?_set_ne
abbrev q1T:=@Nat.min_eq_left
abbrev q1U:=@Nat.le_succ_of_le
abbrev q1V:=@List.getElem?_take_of_lt
abbrev q1W:=@List.foldl_cons
abbrev q1X:=@List.flatten_cons
abbrev q1Y:=@List.flatMap_cons
abbrev q1Z:=@List.set_set
abbrev q2a:=@Int.mul_comm
abbrev q2b:=@List.getElem?_replicate
abbrev q2c:=@List.getElem?_range
abbrev q2d:=@Int.gcd_eq_zero_iff
abbrev q2e:=@List.not_mem_nil
end
namespace L2
open PySem PySem.Spec PyProof.Rows
abbrev Key:=Sum Int Str
def y0d:Key→Value→Bool
 | .inl k,v=>Value.isInt k v
 | .inr x,v=>Value.isStrOf x v
def keyH (w:World):Key→Int
 | .inl k=>hashInt k
 | .inr x=>hashStr w x
theorem z0R:∀{k:Key}{v:Value},y0d k v=true→(∃i t,k=Sum.inl i∧v=Value.int i t)∨(∃x t,k=Sum.inr x∧v=Value.str x t)
 | .inl i,v,h=>by
   obtain⟨t,e⟩:=Value.isInt_shape (k:=i) (v:=v) h
   exact .inl ⟨i,t,rfl,e⟩
 | .inr x,v,h=>by
   obtain⟨t,e⟩:=Value.isStrOf_shape (x:=x) (v:=v) h
   exact .inr ⟨x,t,rfl,e⟩
theorem y2e (i:Int) (t:Tok):y0d (.inl i) (.int i t)=true:=by simp[y0d,Value.isInt]
theorem y2d (x:Str) (t:Tok):y0d (.inr x) (.str x t)=true:=by simp[y0d,Value.isStrOf]
theorem y7B (a b:Int):decide ((Sum.inl a:Key)=Sum.inl b)=(a==b):=by
 by_cases e:a=b
 ·subst e;simp
 ·have h:¬(Sum.inl a:Key)=Sum.inl b:=fun q=>e (Sum.inl.inj q)
  rw[decide_eq_false h]
  exact (beq_eq_false_iff_ne.mpr e).symm
theorem y7y (a b:Str):decide ((Sum.inr a:Key)=Sum.inr b)=decide (a=b):=by
 by_cases e:a=b
 ·subst e;simp
 ·have h:¬(Sum.inr a:Key)=Sum.inr b:=fun q=>e (Sum.inr.inj q)
  rw[decide_eq_false h,decide_eq_false e]
theorem y7A (a:Int) (b:Str):decide ((Sum.inl a:Key)=Sum.inr b)=false:=decide_eq_false (fun q=>nomatch q)
theorem y7z (a:Str) (b:Int):decide ((Sum.inr a:Key)=Sum.inl b)=false:=decide_eq_false (fun q=>nomatch q)
def z1l (prog:Program) (w:World):PySem.KeyKind prog w Key where
 is:=y0d
 hash:=keyH w
 inj:=fun v a b ha hb=>by
    rcases z0R ha with⟨i,t,rfl,rfl⟩|⟨x,t,rfl,rfl⟩
    ·rcases z0R hb with⟨j,u,rfl,e⟩|⟨y,u,rfl,e⟩
     ·injection e with e1 _;rw[e1]
     ·exact nomatch e
    ·rcases z0R hb with⟨j,u,rfl,e⟩|⟨y,u,rfl,e⟩
     ·exact nomatch e
     ·injection e with e1 _;rw[e1]
 byValue:=fun k v h=>by
    rcases z0R h with⟨i,t,rfl,rfl⟩|⟨x,t,rfl,rfl⟩<;>rfl
 pyHash:=fun hv h=>by
    rcases z0R hv with⟨i,t,rfl,rfl⟩|⟨x,t,rfl,rfl⟩
    ·exact wpAny_pyHash_int h
    ·exact wpAny_pyHash_str h
 eqBool:=fun hu hv h=>by
    rcases z0R hu with⟨i,t,rfl,rfl⟩|⟨x,t,rfl,rfl⟩
    ·rcases z0R hv with⟨j,u,rfl,rfl⟩|⟨y,u,rfl,rfl⟩
     ·rw[y7B] at h;exact wpAny_eqBool_int h
     ·rw[y7A] at h;exact SeqAt.EqAt.int_str i t y u _ _ _ _ h
    ·rcases z0R hv with⟨j,u,rfl,rfl⟩|⟨y,u,rfl,rfl⟩
     ·rw[y7z] at h;exact SeqAt.EqAt.str_int x t j u _ _ _ _ h
     ·rw[y7y] at h;exact wpAny_eqBool_str h
 «strs»:=fun k x t v h=>by
    rcases z0R h with⟨i,u,rfl,e⟩|⟨y,u,rfl,e⟩
    ·exact nomatch e
    ·injection e with e1 _
     subst e1
     cases v<;>rfl
theorem z8a (prog:Program) (w:World) (i:Int) (t:Tok):(z1l prog w).is (.inl i) (.int i t)=true:=y2e i t
theorem z7Z (prog:Program) (w:World) (x:Str) (t:Tok):(z1l prog w).is (.inr x) (.str x t)=true:=y2d x t
end L2
namespace L2
open PySem PySem.Spec PyProof.Rows
inductive V where
 |non|bl (b:Bool)|int (i:Int)|str (x:Str)|byt (b:Array UInt8)|flt (b:UInt64)|ref (a:Addr)|ty (n:String)
 deriving DecidableEq
def RelV:V→Value→Prop
 | .non,u=>u=Value.none
 | .bl b,u=>u=Value.bool b
 | .int i,u=>∃t,u=Value.int i t
 | .str x,u=>∃t,u=Value.str x t
 | .byt b,u=>∃t,u=Value.bytes b t
 | .flt b,u=>∃t,u=Value.float b t
 | .ref a,u=>u=Value.ref a
 | .ty n,u=>u=Value.type n
abbrev Vals:List V→List Value→Prop:=Paired RelV
theorem Vals.length {xs:List V}{us:List Value} (r:Vals xs us):xs.length=us.length:=Paired.length r
theorem Vals.get:∀{xs:List V}{us:List Value}{i:Nat}{x:V},Vals xs us→xs[i]? =some x→∃u,us[i]? =some u∧RelV x u
 |_,_,_,_,.nil,e=>by simp at e
 |_,_,0,_,.cons r _,e=>by simp at e;subst e;exact⟨_,rfl,r⟩
 |_,_,i+1,x,.cons _ t,e=>by
  obtain⟨u,h1,h2⟩:=Vals.get (i:=i) (x:=x) t (by simpa using e)
  exact⟨u,by simpa using h1,h2⟩
theorem Vals.set {x:V}{u:Value} (r:RelV x u):∀{xs:List V}{us:List Value} (i:Nat),Vals xs us→Vals (xs.set i x) (us.set i u)
 |_,_,_,.nil => .nil
 |_,_,0,.cons _ t=> .cons r t
 |_,_,i+1,.cons q t=> .cons q (Vals.set r i t)
theorem Vals.append:∀{xs ys:List V}{us ws:List Value},Vals xs us→Vals ys ws→Vals (xs++ys) (us++ws)
 |_,_,_,_,.nil,s=>s
 |_,_,_,_,.cons r t,s=> .cons r (Vals.append t s)
theorem Vals.take:∀{xs:List V}{us:List Value} (n:Nat),Vals xs us→Vals (xs.take n) (us.take n)
 |_,_,0,_=> .nil
 |_,_,_+1,.nil => .nil
 |_,_,n+1,.cons r t=> .cons r (Vals.take n t)
theorem Vals.drop:∀{xs:List V}{us:List Value} (n:Nat),Vals xs us→Vals (xs.drop n) (us.drop n)
 |_,_,0,r=>r
 |_,_,_+1,.nil => .nil
 |_,_,n+1,.cons _ t=>Vals.drop n t
def RelO:Option V→Option Value→Prop
 |some v,some u=>RelV v u
 |none,none=>True
 |_,_=>False
def KV {κ:Type}:List (κ×V)→List (κ×Value)→Prop:=Paired fun (p:κ×V) (q:κ×Value)=>p.1=q.1∧RelV p.2 q.2
def kV:Key→V
 | .inl i=> .int i
 | .inr x=> .str x
inductive HO where
 /-- a list -/
 |lst (xs:List V)
 /-- a tuple (never changes) -/
 |tup (xs:List V)
 /-- a dict whose keys are ints and texts;one whose keys are tuples of ints and texts (the empty one is both) -/
 |dK (kvs:List (Key×V))|dT (kvs:List (List Key×V))
 /-- a set of ints:its members,its size -/
 |set (S:Int→Bool) (n:Nat)
 /-- an instance of the class at C,its dict at dx,its attributes -/
 |ins (C dx:Addr) (fs:List (Str×V))
 /-- the dict of the instance at x -/
 |own (x:Addr)
 /-- the dict of an exception -/
 |xd (fs:List (Str×V))
 /-- a bound method,f of x -/
 |met (f x:Addr)
 /-- a range object lo,lo+1,.. below hi -/
 |rng (lo hi:Int)
 /-- a thing that is known to the object (the script;a dict while a loop walks it):read,never written while it is so -/
 |frz (o:Obj) (u:HO)
 /-- a code object's table -/
 |tbl (ps:Array Value)
 /-- any other thing,by what is true of its one object (a def of one's own:SetO a S n:=HO.ext fun h=> ..) -/
 |ext (φ:Heap→Prop)
abbrev Hp:=Addr→Option HO
def upd (H:Hp) (a:Addr) (o:HO):Hp:=fun b=>if b=a then some o else H b
theorem z0b {H:Hp}{a:Addr}{o:HO}:upd H a o a=some o:=by unfold upd;rw[if_pos rfl]
theorem z0i {H:Hp}{a b:Addr}{o:HO} (h:b≠a):upd H a o b=H b:=by unfold upd;rw[if_neg h]
theorem z5r {H:Hp}{a:Addr}{o u:HO}:upd (upd H a o) a u=upd H a u:=by
 funext b;unfold upd;split<;>rfl
theorem ne_of {H:Hp}{a b:Addr}{o u:HO} (h:H a=some o) (h':H b=some u) (d:o≠u):a≠b:=by
 intro e;subst e;rw[h] at h';exact d (Option.some.inj h')
theorem z0f {H:Hp}{a b:Addr}{o:HO} (h:H a=some o) (h':H b=none):a≠b:=by
 intro e;subst e;rw[h] at h';cases h'
section
variable (P:Program) (w:World)
def ObjOk (H:Hp) (h:Heap) (a:Addr):HO→Prop
 | .lst xs=>xs.length≤sizeLine∧∃(its:List Value) (n:Nat),Vals xs its∧h.get? a=some {cls:= .type "list",data:= .seq its.toArray n}
 | .tup xs=>xs.length≤sizeLine∧∃its:List Value,Vals xs its∧IsTup h a its.toArray
 | .dK kvs=>kvs.length≤sizeLine∧(a==sysModules)=false∧∃vs,KV kvs vs∧h.DictOf (z1l P w) a vs
 | .dT kvs=>kvs.length≤sizeLine∧(a==sysModules)=false∧∃xs:List (List Key×Addr×Value),
  Paired (fun (p:List Key×V) (q:List Key×Addr×Value)=>p.1=q.1∧H q.2.1=some (.tup (p.1.map kV))∧RelV p.2 q.2.2) kvs xs∧
  ∃o es ep,h.get? a=some o∧o.ExactDict∧o.data= .dict es ep∧es.toList=xs.map (entryOfKey (tupleKind (z1l P w)))∧(xs.map (·.1)).Nodup
 | .set S n=>h.SetOf (intKind P w) a S n
 | .ins C dx fs=>H dx=some (.own a)∧fs.length≤1000∧dx≠a∧h.get? a=some (PySem.W.instObj C dx)∧
  ∃mA,h.Ns1 dx mA∧(∀f,RelO (fs.lookup f) (mA f))∧PySem.Within mA (fs.map (·.1))
 | .own _=>∃o,h.get? a=some o
 | .xd fs=>∃mA,h.Ns1 a mA∧∀f,RelO (fs.lookup f) (mA f)
 | .rng lo hi=>∃t u v,h.get? a=some {cls:= .type "range",data:= .fields #[.int lo t,.int hi u,.int 1 v]}
 | .frz o u=>h.get? a=some o∧ObjOk H h a u
 | .tbl ps=>h.get? a=some {cls:= .none,data:= .fields ps}
 | .met f x=>h.get? a=some (PySem.W.methodObj (.ref f) (.ref x))
 | .ext φ=>φ h∧(∃o,h.get? a=some o)∧∀h1 h2:Heap,φ h1→(∀o,h1.get? a=some o→h2.get? a=some o)→φ h2
def HOk (H:Hp) (h:Heap):Prop:=∀a o,H a=some o→ObjOk P w H h a o
end
section
variable {P:Program}{w:World}{H H':Hp}{h h':Heap}{a:Addr}{o:HO}
theorem ObjOk.lt (x:ObjOk P w H h a o):a<h.objs.size:=by
 cases o with
 |lst xs=>obtain⟨_,_,_,_,e⟩:=x;exact Heap.lt_size e
 |tup xs=>obtain⟨_,_,_,p⟩:=x;exact p.lt
 |dK kvs=>obtain⟨_,_,_,_,o,_,_,e,_⟩:=x;exact Heap.lt_size e
 |dT kvs=>obtain⟨_,_,_,_,o,_,_,e,_⟩:=x;exact Heap.lt_size e
 |set S n=>obtain⟨o,_,_,_,e,_⟩:=x;exact Heap.lt_size e
 |ins C dx fs=>obtain⟨_,_,_,e,_⟩:=x;exact Heap.lt_size e
 |own y=>obtain⟨_,e⟩:=x;exact Heap.lt_size e
 |xd fs=>obtain⟨_,⟨_,_,_,e,_⟩,_⟩:=x;exact Heap.lt_size e
 |rng lo hi=>obtain⟨_,_,_,e⟩:=x;exact Heap.lt_size e
 |frz ob u=>obtain⟨e,_⟩:=x;exact Heap.lt_size e
 |tbl ps=>exact Heap.lt_size (show h.get? a=some _ from x)
 |met f y=>exact Heap.lt_size (show h.get? a=some _ from x)
 |ext φ=>obtain⟨_,⟨_,e⟩,_⟩:=x;exact Heap.lt_size e
theorem Paired.mapP {α β:Type}{F G:α→β→Prop}:∀{l₁:List α}{l₂:List β},Paired F l₁ l₂→(∀a b,F a b→G a b)→Paired G l₁ l₂
 |_,_,.nil,_=> .nil
 |_,_,.cons r t,f=> .cons (f _ _ r) (Paired.mapP t f)
theorem ObjOk.stay (x:ObjOk P w H h a o) (k:∀b u,(b=a∨H b=some (.own a))→h.get? b=some u→h'.get? b=some u)
 (ho:∀b,H b=some (.own a)→H' b=some (.own a)) (ht:∀b xs,H b=some (.tup xs)→H' b=some (.tup xs)):ObjOk P w H' h' a o:=by
 induction o with
 |lst xs=>obtain⟨z,its,n,r,e⟩:=x;exact⟨z,its,n,r,k _ _ (.inl rfl) e⟩
 |tup xs=>obtain⟨z,its,r,ob,e,c⟩:=x;exact⟨z,its,r,ob,k _ _ (.inl rfl) e,c⟩
 |dK kvs=>obtain⟨z,y,vs,r,ob,es,ep,e,c⟩:=x;exact⟨z,y,vs,r,ob,es,ep,k _ _ (.inl rfl) e,c⟩
 |dT kvs=>
  obtain⟨z,y,xs,r,ob,es,ep,e,c⟩:=x
  exact⟨z,y,xs,Paired.mapP r fun p q z=>⟨z.1,ht _ _ z.2.1,z.2.2⟩,ob,es,ep,k _ _ (.inl rfl) e,c⟩
 |set S n=>obtain⟨ob,es,ep,t,e,c⟩:=x;exact⟨ob,es,ep,t,k _ _ (.inl rfl) e,c⟩
 |ins C dx fs=>
  obtain⟨d,z,ne,e,mA,⟨od,es,ep,e2,c⟩,r⟩:=x
  exact⟨ho _ d,z,ne,k _ _ (.inl rfl) e,mA,⟨od,es,ep,k _ _ (.inr d) e2,c⟩,r⟩
 |own y=>obtain⟨ob,e⟩:=x;exact⟨ob,k _ _ (.inl rfl) e⟩
 |xd fs=>obtain⟨mA,⟨od,es,ep,e,c⟩,r⟩:=x;exact⟨mA,⟨od,es,ep,k _ _ (.inl rfl) e,c⟩,r⟩
 |rng lo hi=>obtain⟨t,u,v,e⟩:=x;exact⟨t,u,v,k _ _ (.inl rfl) e⟩
 |frz ob u ih=>obtain⟨e,q⟩:=x;exact⟨k _ _ (.inl rfl) e,ih q⟩
 |tbl ps=>
  have e:h.get? a=some {cls:= .none,data:= .fields ps}:=x
  show h'.get? a=some {cls:= .none,data:= .fields ps}
  exact k a _ (.inl rfl) e
 |met f y=>
  have e:h.get? a=some (PySem.W.methodObj (.ref f) (.ref y)):=x
  show h'.get? a=some (PySem.W.methodObj (.ref f) (.ref y))
  exact k a _ (.inl rfl) e
 |ext φ=>obtain⟨p,⟨o,e⟩,st⟩:=x;exact⟨st _ _ p fun o q=>k _ _ (.inl rfl) q,⟨o,k _ _ (.inl rfl) e⟩,st⟩
theorem HOk.lt (x:HOk P w H h) (e:H a=some o):a<h.objs.size:=(x a o e).lt
theorem HOk.fresh (x:HOk P w H h) (e:h.objs.size≤a):H a=none:=by
 cases q:H a with
 |none=>rfl
 |some u=>exact absurd (Nat.lt_of_lt_of_le (x.lt q) e) (Nat.lt_irrefl _)
theorem HOk.kept (x:HOk P w H h) (k:∀b u,h.get? b=some u→h'.get? b=some u):HOk P w H h':=fun a o e=>
 (x a o e).stay (fun b u _ q=>k b u q) (fun _ q=>q) fun _ _ q=>q
theorem HOk.laid (x:HOk P w H h) (k:∀b u,h.get? b=some u→h'.get? b=some u) (hp:h.objs.size≤a) (new:ObjOk P w (upd H a o) h' a o):HOk P w (upd H a o) h':=fun b u e=>by
 have hn:=x.fresh hp
 by_cases hb:b=a
 ·subst hb;rw[z0b] at e;cases e;exact new
 ·rw[z0i hb] at e
  exact (x b u e).stay (fun c v _ q=>k c v q) (fun c q=>by rw[z0i (z0f q hn)];exact q) fun c xs q=>by rw[z0i (z0f q hn)];exact q
end
def Rd (H:Hp) (a:Addr) (u:HO):Prop:=H a=some u∨∃o,H a=some (.frz o u)
theorem Rd.ok {P:Program}{w:World}{H:Hp}{h:Heap}{a:Addr}{u:HO} (r:Rd H a u) (x:HOk P w H h):ObjOk P w H h a u:=by
 rcases r with r|⟨o,r⟩
 ·exact x a u r
 ·obtain⟨_,q⟩:=x a _ r
  exact q
def Mut:Option HO→Prop
 |some (.lst _)=>True
 |some (.dK _)=>True
 |some (.dT _)=>True
 |some (.set _ _)=>True
 |some (.ins _ _ _)=>True
 |some (.ext _)=>True
 |_=>False
section
variable {P:Program}{w:World}{H:Hp}{h h':Heap}{x e:Addr}{o':HO}
theorem HOk.write (ok:HOk P w H h) (mu:Mut (H x)) (he:e=x∨H e=some (.own x)) (k:∀b u,b≠e→h.get? b=some u→h'.get? b=some u) (heo:∃u,h'.get? e=some u)
 (new:ObjOk P w (upd H x o') h' x o'):HOk P w (upd H x o') h':=fun b u q=>by
 have nown:∀c y,H c=some (.own y)→c≠x:=fun c y r z=>by subst z;rw[r] at mu;exact mu
 have ntup:∀c xs,H c=some (.tup xs)→c≠x:=fun c xs r z=>by subst z;rw[r] at mu;exact mu
 by_cases hb:b=x
 ·subst hb;rw[z0b] at q;cases q;exact new
 ·rw[z0i hb] at q
  by_cases hbe:b=e
  ·have q':H b=some (.own x):=by
     rcases he with z|z
     ·exact absurd (hbe.trans z) hb
     ·rw[hbe];exact z
   rw[q] at q';cases q'
   obtain⟨v,hv⟩:=heo
   exact⟨v,by rw[hbe];exact hv⟩
  ·refine (ok b u q).stay (fun c v hc r=>k c v ?_ r) (fun c r=>by rw[z0i (nown c b r)];exact r) fun c xs r=>by rw[z0i (ntup c xs r)];exact r
   rcases hc with rfl|hc
   ·exact hbe
   ·rintro rfl
    rcases he with z|z
    ·exact nown c b hc z
    ·rw[hc] at z;cases z;exact hb rfl
end
structure Un (fs ex:List Addr) (H H':Hp) (h h':Heap):Prop where
 keep:∀b o,h.get? b=some o→H b=none→b∉fs→b∉ex→h'.get? b=some o
 slot:∀b o,h.get? b=some o→H b=none→b∈fs→b∉ex→∃sl,h'.get? b=some {o with slots:=sl}
 free:∀b o,h.get? b=some o→H b=none→b∉ex→H' b=none
 there:∀b o,h.get? b=some o→b∉ex→∃o',h'.get? b=some o'
 tups:∀b xs,H b=some (.tup xs)→H' b=some (.tup xs)
 frzs:∀b o u,H b=some (.frz o u)→H' b=some (.frz o u)
 tbls:∀b ps,H b=some (.tbl ps)→∃more,H' b=some (.tbl (ps++more))
section
variable {fs fs' ex ex':List Addr}{H H1 H2:Hp}{h h1 h2 h':Heap}{a x e:Addr}{o:HO}
theorem Un.any (u:Un fs ex H H1 h h1) {b:Addr}{ob:Obj} (q:h.get? b=some ob) (n:H b=none) (hx:b∉ex):∃sl,h1.get? b=some {ob with slots:=sl}:=by
 by_cases hb:b∈fs
 ·exact u.slot b ob q n hb hx
 ·exact⟨ob.slots,u.keep b ob q n hb hx⟩
theorem Un.kept (k:∀b u,h.get? b=some u→h'.get? b=some u):Un fs ex H H h h':=
 ⟨fun b ob q _ _ _=>k b ob q,fun b ob q _ _ _=>⟨ob.slots,k b ob q⟩,fun _ _ _ n _=>n,fun b ob q _=>⟨ob,k b ob q⟩,fun _ _ q=>q,fun _ _ _ q=>q,fun _ ps q=>⟨#[],by rw[q];simp⟩⟩
theorem Un.refl:Un fs ex H H h h:=Un.kept fun _ _ q=>q
theorem Un.laid (k:∀b u,h.get? b=some u→h'.get? b=some u) (hp:h.objs.size≤a) (hn:H a=none):Un fs ex H (upd H a o) h h' where
 keep:=fun b u q _ _ _=>k b u q
 slot:=fun b u q _ _ _=>⟨u.slots,k b u q⟩
 free:=fun b u q n _=>by rw[z0i (q0o (q0y (q0t q) hp))];exact n
 there:=fun b u q _=>⟨u,k b u q⟩
 tups:=fun b xs q=>by rw[z0i (z0f q hn)];exact q
 frzs:=fun b u xs q=>by rw[z0i (z0f q hn)];exact q
 tbls:=fun b ps q=>⟨#[],by rw[z0i (z0f q hn),q];simp⟩
theorem Un.write (mu:Mut (H x)) (he:e=x∨H e=some (.own x)) (k:∀b u,b≠e→h.get? b=some u→h'.get? b=some u) (heo:∃u,h'.get? e=some u):Un fs ex H (upd H x o) h h':=by
 have hx:∀b,H b=none→b≠x:=fun b n z=>by subst z;rw[n] at mu;exact mu
 have hb:∀b,H b=none→b≠e:=fun b n z=>by
  subst z
  rcases he with r|r
  ·exact hx b n r
  ·rw[n] at r;cases r
 have hm:∀b u,H b=some u→¬Mut (some u)→b≠x:=fun b u q nm z=>by subst z;rw[q] at mu;exact nm mu
 refine⟨fun b u q n _ _=>k b u (hb b n) q,fun b u q n _ _=>⟨u.slots,k b u (hb b n) q⟩,fun b u q n _=>by rw[z0i (hx b n)];exact n,fun b u q _=>?_,
  fun b xs q=>by rw[z0i (hm b _ q fun z=>z)];exact q,fun b u xs q=>by rw[z0i (hm b _ q fun z=>z)];exact q,fun b ps q=>⟨#[],by rw[z0i (hm b _ q fun z=>z),q];simp⟩⟩
 by_cases hbe:b=e
 ·subst hbe;exact heo
 ·exact⟨u,k b u hbe q⟩
end
def trk (h:Heap) (H:Hp):List Addr:=(List.range h.objs.size).filter fun a=>(H a).isSome
def y4k (h:Heap) (H:Hp):Heap:=PySem.W.hideAll h (trk h H)
theorem y2p (h:Heap) (H:Hp):(y4k h H).objs.size =h.objs.size:=PySem.W.hideAll_size _ _
theorem y4j {h:Heap}{H:Hp}{b:Addr}{o:Obj} (e:h.get? b=some o) (n:H b=none):(y4k h H).get? b=some o:=
 PySem.W.hideAll_get _ e fun hm=>by
  have q:(H b).isSome =true:=(q1u.mp hm).2
  rw[n] at q;simp at q
theorem y5W {h:Heap}{H:Hp}{b:Addr}{o:Obj} (e:(y4k h H).get? b=some o):h.get? b=some o∧H b=none:=by
 have e':h.get? b=some o:=PySem.W.of_hideAll (trk h H) e
 refine⟨e',?_⟩
 cases q:H b with
 |none=>rfl
 |some x=>
  have hm:b∈trk h H:=q1u.mpr ⟨q1C.mpr (q0t e'),by simp[q]⟩
  have z:(y4k h H).get? b=none:=PySem.W.hideAll_none (trk h H) hm
  rw[z] at e;cases e
end L2
namespace L2
open PySem PySem.Spec PyProof.Rows
structure Mod (K:PySem.W.Frag) (mg:Str→Option Value) (base:Heap):Prop where
 kin:K.In base
 glob:base.Ns mainGlobals mg
 blt:∃mb,base.Ns builtinsNs mb∧∀x:Str,x≠"__name__"→mb x=bootBuiltins x
 nolimit:base.NoLimit
structure Cx where
 prog:Program
 w:World
 K:PySem.W.Frag
 mg:Str→Option Value
 base:Heap
 A:Around
 N:List Str
 s₀:Shared
 H₀:Hp
 env:Env
 outer:List Env
 stack:List Env
 ex:List Addr
 fn:Str→Bool
 calm:Bool
 pn:List (Addr×Obj)
 xe:Value→Shared→Prop
def frs (l:List Env):List Addr:=l.filterMap (·.frame)
abbrev Cx.fs (X:Cx):List Addr:=frs X.outer
def Vis (sc:Scope) (x:Str):Prop:=sc.names.lookup x=some .local ∨sc.names.lookup x=some .cell ∨sc.names.lookup x=some .free
def Loc (sc:Scope) (x:Str):Prop:=sc.names.lookup x=some .local ∨sc.names.lookup x=some .cell
def Look (env:Env) (h:Heap) (m:Str→Option Value) (x:Str) (u:Value):Prop:=
 (env.kindOf x=some .local ∧m x=some u)∨((env.kindOf x=some .cell ∨env.kindOf x=some .free)∧∃c,env.cells.lookup x=some c∧h.IsCell c (some u))
structure Cx.Ok (X:Cx):Prop where
 mod:Mod X.K X.mg X.base
 kind:X.env.scope.kind= .function
 glob:X.env.globals=mainGlobals
 blt:X.env.builtins=builtinsNs
 above:X.s₀.heap.objs.size≤X.env.locals
 inj:∀x y c,X.env.cells.lookup x=some c→X.env.cells.lookup y=some c→x=y
 has:∀x,(X.env.kindOf x=some .cell ∨X.env.kindOf x=some .free)→∃c,X.env.cells.lookup x=some c
 cab:∀x c,X.fn x=true→X.env.cells.lookup x=some c→X.s₀.heap.objs.size≤c
 hd:X.calm=true→X.A.handled=none
 frames:X.A.frames=some X.stack
 stk:X.stack=X.outer∨(X.stack=X.env::X.outer∧X.env.frame=some X.env.locals)
 exf:∀b∈X.ex,b≠X.env.locals∧∀x c,X.env.cells.lookup x=some c→c≠b
 bs:∀b o,X.base.get? b=some o→X.s₀.heap.get? b=some o∧X.H₀ b=none
 bsz:X.base.objs.size≤X.s₀.heap.objs.size
 noex:∀b o,X.base.get? b=some o→b∉X.ex
 exfs:∀b∈X.ex,b∉X.fs
 funs:X.s₀.heap.FunFrames X.base X.outer
 frf:∀b∈X.fs,X.H₀ b=none
structure Inv (X:Cx) (pins:List (Addr×Obj)) (σ:List (Option V)) (H:Hp) (s:Shared):Prop where
 ok:X.Ok
 os:s.os=X.s₀.os
 bare:AllBare s.gens
 base:Un X.fs X.ex X.H₀ H X.s₀.heap s.heap
 loc:∃m,s.heap.Ns X.env.locals m∧∀(i:Nat) (x:Str) (v:V),X.N[i]? =some x→σ[i]? =some (some v)→Vis X.env.scope x→∃u,RelV v u∧Look X.env s.heap m x u
 cell:∀x c,X.env.cells.lookup x=some c→∃v,s.heap.IsCell c v
 free:H X.env.locals=none
 freeC:∀x c,X.env.cells.lookup x=some c→H c=none
 pin:∀p∈X.pn++pins,s.heap.get? p.1=some p.2∧H p.1=none∧p.1≠X.env.locals∧p.1∉X.fs∧∀v,p.2.data≠ .cell v
 hok:HOk X.prog X.w H s.heap
 len:σ.length=X.N.length
section
variable {X:Cx}{pins:List (Addr×Obj)}{σ:List (Option V)}{H H':Hp}{s:Shared}{h':Heap}
theorem Cx.Ok.nofr (ok:X.Ok) {b:Addr}{o:Obj} (e:X.base.get? b=some o):b∉X.fs:=fun hb=>by
 have:=(ok.funs.mem hb).1
 rw[e] at this;cases this
theorem Inv.bs (I:Inv X pins σ H s):∀b o,X.base.get? b=some o→s.heap.get? b=some o∧H b=none:=fun b o e=>
 ⟨I.base.keep b o (I.ok.bs b o e).1 (I.ok.bs b o e).2 (I.ok.nofr e) (I.ok.noex b o e),I.base.free b o (I.ok.bs b o e).1 (I.ok.bs b o e).2 (I.ok.noex b o e)⟩
theorem Inv.bk (I:Inv X pins σ H s):∀b o,X.base.get? b=some o→s.heap.get? b=some o:=fun b o e=>(I.bs b o e).1
theorem Inv.mod (I:Inv X pins σ H s):Mod X.K X.mg X.base:=I.ok.mod
theorem Inv.kIn (I:Inv X pins σ H s):X.K.In s.heap:=I.ok.mod.kin.keeps I.bk
theorem Inv.lt (I:Inv X pins σ H s):X.env.locals<s.heap.objs.size:=let ⟨_,hn,_⟩:=I.loc;hn.lt
theorem Inv.sz (I:Inv X pins σ H s):X.s₀.heap.objs.size≤s.heap.objs.size:=q0m I.ok.above (Nat.le_of_lt I.lt)
theorem Inv.nofs (I:Inv X pins σ H s) {a:Addr} (h:s.heap.objs.size≤a):a∉X.fs:=fun hb=>by
 obtain⟨_,o,ho,_⟩:=I.ok.funs.mem hb
 exact absurd (q0y (q0t ho) (q0m I.sz h)) (q1e _)
theorem Inv.cne (I:Inv X pins σ H s):∀x c,X.env.cells.lookup x=some c→c≠X.env.locals:=fun x c e z=>by
 obtain⟨v,o,ho,hd⟩:=I.cell x c e
 obtain⟨m,⟨o',es,ep,ho',hd',_⟩,_⟩:=I.loc
 rw[z,ho'] at ho;cases ho;rw[hd'] at hd;cases hd
theorem Inv.funs (I:Inv X pins σ H s):s.heap.FunFrames X.base X.outer:=by
 have all:∀(l:List Env),(∀b∈frs l,b∈X.fs)→X.s₀.heap.FunFrames X.base l→s.heap.FunFrames X.base l:=by
  intro l
  induction l with
  |nil=>intro _ _;trivial
  |cons env r ih=>
   intro hs hl
   obtain⟨hk,⟨L,o,hf,hn,ho,hd⟩,hr⟩:=hl
   have hL:L∈X.fs:=hs L (by unfold frs;rw[List.filterMap_cons,hf];exact List.mem_cons_self)
   obtain⟨sl,e⟩:=I.base.slot L o ho (I.ok.frf L hL) hL fun z=>I.ok.exfs L z hL
   exact⟨hk,⟨L,_,hf,hn,e,hd⟩,ih (fun b hb=>hs b (by unfold frs;rw[List.filterMap_cons,hf];exact List.mem_cons_of_mem _ hb)) hr⟩
 exact all X.outer (fun _ hb=>hb) I.ok.funs
theorem Inv.stack (I:Inv X pins σ H s):s.heap.FunFrames X.base X.stack:=by
 rcases I.ok.stk with e|⟨e,hf⟩
 ·rw[e];exact I.funs
 ·rw[e]
  obtain⟨m,hn,_⟩:=I.loc
  refine .cons (by rw[I.ok.kind];decide) hf hn ?_ I.funs
  exact Heap.get?_none_of_le (q0m I.ok.bsz I.ok.above)
theorem Inv.stkSub (I:Inv X pins σ H s):∀b∈frs X.stack,b∈X.env.locals::X.fs:=fun b hb=>by
 rcases I.ok.stk with e|⟨e,hf⟩
 ·rw[e] at hb;exact q0j _ hb
 ·rw[e] at hb
  unfold frs at hb
  rw[List.filterMap_cons,hf] at hb
  exact hb
theorem Inv.stkFree (I:Inv X pins σ H s):∀b∈frs X.stack,H b=none:=fun b hb=>by
 rcases q0n.mp (I.stkSub b hb) with e|hb
 ·rw[e];exact I.free
 ·obtain⟨_,o,ho,_⟩:=I.ok.funs.mem hb
  exact I.base.free b o ho (I.ok.frf b hb) fun z=>I.ok.exfs b z hb
theorem Inv.step {g':Array GenState}{t':Nat}{d':Drawn}{ch:List Addr} (I:Inv X pins σ H s)
 (hch:∀b∈ch,(b∈X.ex∨X.s₀.heap.objs.size≤b)∧b≠X.env.locals∧(∀x c,X.env.cells.lookup x=some c→c≠b)∧∀p∈X.pn++pins,p.1≠b)
 (keep:∀b o,b≠X.env.locals→b∉X.fs→b∉ch→s.heap.get? b=some o→H b=none→h'.get? b=some o)
 (slot:∀b o,b≠X.env.locals→b∈X.fs→b∉ch→s.heap.get? b=some o→H b=none→∃sl,h'.get? b=some {o with slots:=sl}) (free:∀b o,b∉ch→s.heap.get? b=some o→H b=none→H' b=none)
 (there:∀b o,b∉ch→s.heap.get? b=some o→∃o',h'.get? b=some o')
 (tups:∀b xs,H b=some (.tup xs)→H' b=some (.tup xs)) (frzs:∀b o u,H b=some (.frz o u)→H' b=some (.frz o u)) (tbls:∀b ps,H b=some (.tbl ps)→∃more,H' b=some (.tbl (ps++more)))
 (ns:∀m,s.heap.Ns X.env.locals m→h'.Ns X.env.locals m) (hok:HOk X.prog X.w H' h') (hg:AllBare g'):
 Inv X pins σ H' {s with heap:=h',gens:=g',drawn:=d',toks:=t'}:=by
 have neL:∀b o,X.s₀.heap.get? b=some o→b≠X.env.locals:=fun b o e=>q0o (q0y (q0t e) I.ok.above)
 have neC:∀b o,X.s₀.heap.get? b=some o→b∉X.ex→b∉ch:=fun b o e hx hb=>by
  rcases (hch b hb).1 with z|z
  ·exact hx z
  ·exact absurd (q0y (q0t e) z) (q1e _)
 have cellK:∀x c,X.env.cells.lookup x=some c→∀v,s.heap.IsCell c v→h'.IsCell c v:=fun x c e v ⟨o,ho,hd⟩=>by
  have nch:c∉ch:=fun z=>(hch c z).2.2.1 x c e rfl
  by_cases hc:c∈X.fs
  ·obtain⟨sl,q⟩:=slot c o (I.cne x c e) hc nch ho (I.freeC x c e)
   exact⟨_,q,hd⟩
  ·exact⟨o,keep c o (I.cne x c e) hc nch ho (I.freeC x c e),hd⟩
 refine⟨I.ok,I.os,hg,⟨fun b o e n hb hx=>?_,fun b o e n hb hx=>?_,fun b o e n hx=>?_,fun b o e hx=>?_,fun b xs e=>tups b xs (I.base.tups b xs e),fun b o xs e=>frzs b o xs (I.base.frzs b o xs e),fun b ps e=>?_⟩,?_,fun x c e=>?_,?_,fun x c e=>?_,fun p hp=>?_,hok,I.len⟩
 ·exact keep b o (neL b o e) hb (neC b o e hx) (I.base.keep b o e n hb hx) (I.base.free b o e n hx)
 ·obtain⟨sl,e1⟩:=I.base.slot b o e n hb hx
  obtain⟨sl',e2⟩:=slot b _ (neL b o e) hb (neC b o e hx) e1 (I.base.free b o e n hx)
  exact⟨sl',e2⟩
 ·obtain⟨o',e1⟩:=I.base.there b o e hx
  exact free b o' (neC b o e hx) e1 (I.base.free b o e n hx)
 ·obtain⟨o',e1⟩:=I.base.there b o e hx
  exact there b o' (neC b o e hx) e1
 ·obtain⟨m1,e1⟩:=I.base.tbls b ps e
  obtain⟨m2,e2⟩:=tbls b _ e1
  exact⟨m1++m2,by rw[e2,Array.append_assoc]⟩
 ·obtain⟨m,hn,hl⟩:=I.loc
  refine⟨m,ns m hn,fun i x v e1 e2 e3=>?_⟩
  obtain⟨u,r,l⟩:=hl i x v e1 e2 e3
  refine⟨u,r,?_⟩
  rcases l with l|⟨k,c,e,z⟩
  ·exact .inl l
  ·exact .inr ⟨k,c,e,cellK x c e _ z⟩
 ·obtain⟨v,z⟩:=I.cell x c e
  exact⟨v,cellK x c e v z⟩
 ·obtain⟨m,⟨o,_,_,ho,_⟩,_⟩:=I.loc
  exact free _ o (fun z=>(hch _ z).2.1 rfl) ho I.free
 ·obtain⟨v,o,ho,hd⟩:=I.cell x c e
  exact free c o (fun z=>(hch c z).2.2.1 x c e rfl) ho (I.freeC x c e)
 ·obtain⟨e,n,ne,nf,d⟩:=I.pin p hp
  have nch:p.1∉ch:=fun z=>(hch p.1 z).2.2.2 p hp rfl
  exact⟨keep p.1 p.2 ne nf nch e n,free p.1 p.2 nch e n,ne,nf,d⟩
theorem Inv.un {t':Nat} (I:Inv X pins σ H s) (u:Un X.fs [] H H' s.heap h') (hok:HOk X.prog X.w H' h'):Inv X pins σ H' {s with heap:=h',toks:=t'}:=by
 obtain⟨m,⟨o,es,ep,ho,r⟩,_⟩:=id I.loc
 obtain⟨sl,hL⟩:=u.any ho I.free (by simp)
 exact I.step (g':=s.gens) (d':=s.drawn) (ch:=[]) (fun _ z=>nomatch z) (fun b o _ hb _ e n=>u.keep b o e n hb (by simp)) (fun b o _ hb _ e n=>u.slot b o e n hb (by simp)) (fun b o _ e n=>u.free b o e n (by simp)) (fun b o _ e=>u.there b o e (by simp)) u.tups u.frzs u.tbls (fun m' hm=>by
  obtain⟨o',es',ep',ho',r'⟩:=hm
  rw[ho] at ho';cases ho'
  exact⟨_,es',ep',hL,r'⟩) hok I.bare
theorem Inv.call {g':Array GenState}{t':Nat}{d':Drawn}{ch:List Addr} (I:Inv X pins σ H s) (u:Un (frs X.stack) ch H H' s.heap h') (hok:HOk X.prog X.w H' h') (hg:AllBare g')
 (hch:∀b∈ch,(b∈X.ex∨X.s₀.heap.objs.size≤b)∧b≠X.env.locals∧(∀x c,X.env.cells.lookup x=some c→c≠b)∧∀p∈X.pn++pins,p.1≠b):
 Inv X pins σ H' {s with heap:=h',gens:=g',drawn:=d',toks:=t'}:=by
 obtain⟨m,⟨o,es,ep,ho,r⟩,_⟩:=id I.loc
 obtain⟨sl,hL⟩:=u.any ho I.free fun z=>(hch _ z).2.1 rfl
 exact I.step (ch:=ch) hch (fun b o hL hb hc e n=>u.keep b o e n (fun z=>(q0n.mp (I.stkSub b z)).elim hL hb) hc) (fun b o _ _ hc e n=>u.any e n hc) (fun b o hc e n=>u.free b o e n hc) (fun b o hc e=>u.there b o e hc) u.tups u.frzs u.tbls (fun m' hm=>by
  obtain⟨o',es',ep',ho',r'⟩:=hm
  rw[ho] at ho';cases ho'
  exact⟨_,es',ep',hL,r'⟩) hok hg
theorem Inv.turned {t':Nat}{it:Addr} (I:Inv X pins σ H s) (k:∀b o,b≠it→s.heap.get? b=some o→h'.get? b=some o) (hn:H it=none) (hL:it≠X.env.locals)
 (h1:it∈X.ex∨X.s₀.heap.objs.size≤it) (h2:∀x c,X.env.cells.lookup x=some c→c≠it) (h3:∀p∈X.pn++pins,p.1≠it):Inv X pins σ H {s with heap:=h',toks:=t'}:=by
 have nit:∀b u,H b=some u→b≠it:=fun b u e z=>by rw[z,hn] at e;cases e
 refine I.step (g':=s.gens) (d':=s.drawn) (ch:=[it]) (fun b hb=>?_) (fun b o _ _ hc e _=>k b o (fun z=>hc (by simp[z])) e) (fun b o _ _ hc e _=>⟨o.slots,k b o (fun z=>hc (by simp[z])) e⟩) (fun _ _ _ _ n=>n)
  (fun b o hc e=>⟨o,k b o (fun z=>hc (by simp[z])) e⟩) (fun _ _ e=>e) (fun _ _ _ e=>e) (fun b ps e=>⟨#[],by rw[e];simp⟩) (fun m hm=>?_) (fun b u e=>?_) I.bare
 ·have e:b=it:=by simpa using hb
  subst e
  exact⟨h1,hL,h2,h3⟩
 ·obtain⟨o,es,ep,ho,r⟩:=hm
  exact⟨o,es,ep,k _ o (Ne.symm hL) ho,r⟩
 ·refine (I.hok b u e).stay (fun c v hc q=>k c v ?_ q) (fun _ q=>q) fun _ _ q=>q
  rcases hc with z|z
  ·rw[z];exact nit b u e
  ·exact nit c _ z
theorem Inv.tok (I:Inv X pins σ H s) (t:Nat):Inv X pins σ H {s with toks:=t}:=I.un (h':=s.heap) (t':=t) Un.refl I.hok
theorem Inv.kept {t':Nat} (I:Inv X pins σ H s) (k:∀b u,s.heap.get? b=some u→h'.get? b=some u):Inv X pins σ H {s with heap:=h',toks:=t'}:=I.un (Un.kept k) (I.hok.kept k)
theorem Inv.laid {a:Addr}{o:HO}{t':Nat} (I:Inv X pins σ H s) (k:∀b u,s.heap.get? b=some u→h'.get? b=some u) (hp:s.heap.objs.size≤a) (new:ObjOk X.prog X.w (upd H a o) h' a o):
 Inv X pins σ (upd H a o) {s with heap:=h',toks:=t'}:=I.un (Un.laid k hp (I.hok.fresh hp)) (I.hok.laid k hp new)
theorem Inv.write {x e:Addr}{o:HO}{t':Nat} (I:Inv X pins σ H s) (mu:Mut (H x)) (he:e=x∨H e=some (.own x)) (k:∀b u,b≠e→s.heap.get? b=some u→h'.get? b=some u) (heo:∃u,h'.get? e=some u)
 (new:ObjOk X.prog X.w (upd H x o) h' x o):Inv X pins σ (upd H x o) {s with heap:=h',toks:=t'}:=I.un (Un.write mu he k heo) (I.hok.write mu he k heo new)
theorem Inv.pins_of {pins':List (Addr×Obj)} (I:Inv X pins σ H s) (h:∀p∈pins',s.heap.get? p.1=some p.2∧H p.1=none∧p.1≠X.env.locals∧p.1∉X.fs∧∀v,p.2.data≠ .cell v):Inv X pins' σ H s:=
 ⟨I.ok,I.os,I.bare,I.base,I.loc,I.cell,I.free,I.freeC,fun p hp=>(q0I.mp hp).elim (fun z=>I.pin p (q0G _ z)) (h p),I.hok,I.len⟩
theorem z8L {N:List Str} (hN:N.Nodup) {i j:Nat}{x:Str} (a:N[i]? =some x) (b:N[j]? =some x):i=j:=by
 obtain⟨h1,e1⟩:=q0H.mp a
 obtain⟨h2,e2⟩:=q0H.mp b
 exact (List.getElem_inj hN).mp (e1.trans e2.symm)
theorem z3T {M:Model}{A:Around}{E:Value→Shared→Prop}{i:Nat}{x:Str}{v:V}{u:Value}{Q:Unit→Shared→Prop} (I:Inv X pins σ H s) (hN:X.N.Nodup) (hi:X.N[i]? =some x) (hx:Loc X.env.scope x) (r:RelV v u)
 (h:∀s',Inv X pins (σ.set i (some v)) H s'→(∃a,Heap.SameBut a s.heap s'.heap∧(a=X.env.locals∨X.env.cells.lookup x=some a))→Q () s') (hf:X.fn x=true∨X.env.scope.names.lookup x=some .local :=by first|exact .inl rfl|exact .inr rfl|assumption):wpAny M A (storeName X.env x u) Q E s:=by
 obtain⟨m,hn,hl⟩:=id I.loc
 have hcls:(X.env.scope.kind== .class || (X.env.scope.kind== .module &&X.env.locals != X.env.globals))=false:=by rw[I.ok.kind];rfl
 have hiσ:i<σ.length:=by rw[I.len];exact (q0H.mp hi).1
 have cne:=I.cne
 have tracked:∀{a:Addr}{h':Heap},(∃o,s.heap.get? a=some o∧H a=none)→Heap.SameBut a s.heap h'→HOk X.prog X.w H h':=fun {a h'} ha hs b ob e=>by
  obtain⟨_,_,hfree⟩:=ha
  refine (I.hok b ob e).stay (fun c w' hc q=>(hs.2 c ?_).trans q) (fun _ q=>q) fun _ _ q=>q
  rintro rfl
  rcases hc with rfl|hc
  ·rw[hfree] at e;cases e
  ·rw[hfree] at hc;cases hc
 rcases hx with hk|hk
 ·refine wpAny_storeName_local hk hn (fun h' hn' hs=>?_) hcls
  obtain⟨oL,_,_,hoL,_⟩:=id hn
  refine h _ ⟨I.ok,I.os,I.bare,⟨fun b o e n hb hx=>?_,fun b o e n hb hx=>?_,I.base.free,fun b o e hx=>?_,I.base.tups,I.base.frzs,I.base.tbls⟩,⟨_,hn',fun j y v' e1 e2 e3=>?_⟩,fun y c e=>?_,I.free,I.freeC,fun p hp=>?_,tracked ⟨oL,hoL,I.free⟩ hs,by simpa using I.len⟩ ⟨_,hs,.inl rfl⟩
  ·exact (hs.2 b (q0o (q0y (q0t e) I.ok.above))).trans (I.base.keep b o e n hb hx)
  ·obtain⟨sl,e1⟩:=I.base.slot b o e n hb hx
   exact⟨sl,(hs.2 b (q0o (q0y (q0t e) I.ok.above))).trans e1⟩
  ·obtain⟨o',e1⟩:=I.base.there b o e hx
   exact⟨o',(hs.2 b (q0o (q0y (q0t e) I.ok.above))).trans e1⟩
  ·by_cases hj:j=i
   ·subst hj
    rw[hi] at e1;cases e1
    rw[q1O hiσ] at e2
    cases e2
    exact⟨u,r,.inl ⟨hk,by simp⟩⟩
   ·rw[q1S (Ne.symm hj)] at e2
    obtain⟨u',r',q⟩:=hl j y v' e1 e2 e3
    refine⟨u',r',?_⟩
    rcases q with⟨k,e⟩|⟨k,c,e,z⟩
    ·refine .inl ⟨k,?_⟩
     have:y≠x:=fun e=>hj (z8L hN e1 (e▸hi))
     simp[this,e]
    ·exact .inr ⟨k,c,e,z.sameBut hs (cne y c e)⟩
  ·obtain⟨w',z⟩:=I.cell y c e
   exact⟨w',z.sameBut hs (cne y c e)⟩
  ·obtain⟨e,n,ne,nf,d⟩:=I.pin p hp
   exact⟨(hs.2 p.1 ne).trans e,n,ne,nf,d⟩
 ·have hfn:X.fn x=true:=by
   rcases hf with z|z
   ·exact z
   ·rw[z] at hk;cases hk
  obtain⟨c,hc⟩:=I.ok.has x (.inl hk)
  obtain⟨w',z⟩:=I.cell x c hc
  refine wpAny_storeName_cell I.ok.kind hk hc z (fun h' hc' hs=>?_)
  obtain⟨oc,hoc,hocd⟩:=id z
  refine h {s with heap:=h'} ⟨I.ok,I.os,I.bare,⟨fun b o e n hb hx=>?_,fun b o e n hb hx=>?_,I.base.free,fun b o e hx=>?_,I.base.tups,I.base.frzs,I.base.tbls⟩,⟨m,hn.sameBut hs (Ne.symm (cne x c hc)),fun j y v' e1 e2 e3=>?_⟩,fun y c' e=>?_,I.free,I.freeC,fun p hp=>?_,tracked ⟨oc,hoc,I.freeC x c hc⟩ hs,by simpa using I.len⟩ ⟨c,hs,.inr hc⟩
  ·exact (hs.2 b (q0o (q0y (q0t e) (I.ok.cab x c hfn hc)))).trans (I.base.keep b o e n hb hx)
  ·obtain⟨sl,e1⟩:=I.base.slot b o e n hb hx
   exact⟨sl,(hs.2 b (q0o (q0y (q0t e) (I.ok.cab x c hfn hc)))).trans e1⟩
  ·obtain⟨o',e1⟩:=I.base.there b o e hx
   exact⟨o',(hs.2 b (q0o (q0y (q0t e) (I.ok.cab x c hfn hc)))).trans e1⟩
  ·by_cases hj:j=i
   ·subst hj
    rw[hi] at e1;cases e1
    rw[q1O hiσ] at e2
    cases e2
    exact⟨u,r,.inr ⟨.inl hk,c,hc,hc'⟩⟩
   ·rw[q1S (Ne.symm hj)] at e2
    obtain⟨u',r',q⟩:=hl j y v' e1 e2 e3
    refine⟨u',r',?_⟩
    rcases q with q|⟨k,c',e,z'⟩
    ·exact .inl q
    ·refine .inr ⟨k,c',e,z'.sameBut hs ?_⟩
     rintro rfl
     exact hj (z8L hN e1 (I.ok.inj _ _ _ e hc▸hi))
  ·by_cases hcc:c'=c
   ·subst hcc;exact⟨_,hc'⟩
   ·obtain⟨w2,z2⟩:=I.cell y c' e
    exact⟨w2,z2.sameBut hs hcc⟩
  ·obtain⟨e,n,ne,nf,d⟩:=I.pin p hp
   refine⟨(hs.2 p.1 ?_).trans e,n,ne,nf,d⟩
   intro q
   rw[q,hoc] at e
   have q':oc=p.2:=Option.some.inj e
   exact d w' (by rw[←q'];exact hocd)
theorem z8t {M:Model}{A:Around}{E:Value→Shared→Prop}{i:Nat}{x:Str}{v:V}{u:Value}{Q:Unit→Shared→Prop} (I:Inv X pins σ H s) (hN:X.N.Nodup) (hi:X.N[i]? =some x) (hx:Loc X.env.scope x) (r:RelV v u)
 (h:∀s',Inv X pins (σ.set i (some v)) H s'→Q () s') (hf:X.fn x=true∨X.env.scope.names.lookup x=some .local :=by first|exact .inl rfl|exact .inr rfl|assumption):wpAny M A (storeName X.env x u) Q E s:=
 z3T I hN hi hx r (fun s' I' _=>h s' I') hf
theorem Inv.call' {s':Shared}{ch:List Addr} (I:Inv X pins σ H s) (ho:s'.os=s.os) (u:Un (frs X.stack) ch H H' s.heap s'.heap) (hok:HOk X.prog X.w H' s'.heap) (hg:AllBare s'.gens)
 (hch:∀b∈ch,(b∈X.ex∨X.s₀.heap.objs.size≤b)∧b≠X.env.locals∧(∀x c,X.env.cells.lookup x=some c→c≠b)∧∀p∈X.pn++pins,p.1≠b):Inv X pins σ H' s':=by
 obtain⟨h',g',d',t',o'⟩:=s'
 have e:o'=s.os:=ho
 subst e
 exact I.call (g':=g') (t':=t') (d':=d') u hok hg hch
end
abbrev XK:=Value→Option Addr→Hp→Prop
abbrev St:=List (Option V)
abbrev VK:=V→Hp→Prop
abbrev TE:=St→Hp→VK→Prop
abbrev TT:=St→Hp→(Bool→Hp→Prop)→Prop
abbrev TA:=St→Hp→(List V→Hp→Prop)→Prop
structure y5l where
 nx:St→Hp→Prop
 rt:VK
 bk:St→Hp→Prop:=fun _ _=>False
 ct:St→Hp→Prop:=fun _ _=>False
abbrev TS:=y5l→St→Hp→Prop
def EP (X:Cx) (pins:List (Addr×Obj)) (σ:St) (Q:VK) (u:Value) (s':Shared):Prop:=∃v H',Inv X pins σ H' s'∧RelV v u∧Q v H'
def TP (X:Cx) (pins:List (Addr×Obj)) (σ:St) (Q:Bool→Hp→Prop) (b:Bool) (s':Shared):Prop:=∃H',Inv X pins σ H' s'∧Q b H'
def AP (X:Cx) (pins:List (Addr×Obj)) (σ:St) (Q:List V→Hp→Prop) (us:List Value) (s':Shared):Prop:=∃vs H',Inv X pins σ H' s'∧Vals vs us∧Q vs H'
def SP (X:Cx) (pins:List (Addr×Obj)) (D:y5l) (f:Flow) (s':Shared):Prop:=
 match f with
 | .next =>∃σ' H',Inv X pins σ' H' s'∧D.nx σ' H'
 | .brk =>∃σ' H',Inv X pins σ' H' s'∧D.bk σ' H'
 | .cont =>∃σ' H',Inv X pins σ' H' s'∧D.ct σ' H'
 | .ret u=>∃v σ' H',Inv X pins σ' H' s'∧RelV v u∧D.rt v H'
def PE (X:Cx) (e:Expr) (t:TE):Prop:=
 ∀(pins:List (Addr×Obj)) (s:Shared) (σ:St) (H:Hp) (Q:VK),Inv X pins σ H s→t σ H Q→wpAny (model X.prog X.w) X.A (eval e X.env) (EP X pins σ Q) X.xe s
def PT (X:Cx) (e:Expr) (t:TT):Prop:=
 ∀(pins:List (Addr×Obj)) (s:Shared) (σ:St) (H:Hp) (Q:Bool→Hp→Prop),Inv X pins σ H s→t σ H Q→wpAny (model X.prog X.w) X.A (isTrue e X.env (eval e X.env)) (TP X pins σ Q) X.xe s
def PW (X:Cx) (e:Expr) (t:TT):Prop:=
 ∀(whole:Sem Value) (pins:List (Addr×Obj)) (s:Shared) (σ:St) (H:Hp) (Q:Bool→Hp→Prop),Inv X pins σ H s→t σ H Q→wpAny (model X.prog X.w) X.A (isTrue e X.env whole) (TP X pins σ Q) X.xe s
theorem PW.pt {X:Cx}{e:Expr}{t:TT} (h:PW X e t):PT X e t:=h _
def PA (X:Cx) (es:List Expr) (t:TA):Prop:=
 ∀(pos:Pos) (pins:List (Addr×Obj)) (s:Shared) (σ:St) (H:Hp) (Q:List V→Hp→Prop),Inv X pins σ H s→t σ H Q→wpAny (model X.prog X.w) X.A (spliced (backTo pos (starEach es X.env))) (AP X pins σ Q) X.xe s
def PS (X:Cx) (st:Stmt) (t:TS):Prop:=
 ∀(pins:List (Addr×Obj)) (s:Shared) (σ:St) (H:Hp) (D:y5l),Inv X pins σ H s→t D σ H→wpAny (model X.prog X.w) X.A (exec st X.env) (SP X pins D) X.xe s
def PSs (X:Cx) (st:List Stmt) (t:TS):Prop:=
 ∀(pins:List (Addr×Obj)) (s:Shared) (σ:St) (H:Hp) (D:y5l),Inv X pins σ H s→t D σ H→wpAny (model X.prog X.w) X.A (execs st X.env) (SP X pins D) X.xe s
theorem thn {α:Type}{t:Sem α}{Q Q':α→Shared→Prop}{M:Model}{A:Around}{E:Value→Shared→Prop}{s:Shared} (h:wpAny M A t Q E s) (hQ:∀a s,Q a s→Q' a s):wpAny M A t Q' E s:=wpAny_mono h hQ fun _ _ x=>x
end L2
namespace L2
open PySem PySem.Spec PyProof.Rows
section
variable {X:Cx}
def tVar (i:Nat):TE:=fun σ H Q=>∃v,σ[i]? =some (some v)∧Q v H
def tC (v:V):TE:=fun _ H Q=>Q v H
theorem y7i {i:Nat}{x:Str}{pos:Pos} (hN:X.N[i]? =some x) (hv:Vis X.env.scope x) (hd:(x==("__debug__":Str))=false:=by decide) (hcd:(x==("__classdict__":Str))=false:=by decide):PE X (.Name x pos) (tVar i):=by
 intro pins s σ H Q I h
 obtain⟨v,e,h⟩:=h
 obtain⟨m,hn,hl⟩:=I.loc
 obtain⟨u,r,l⟩:=hl i x v hN e hv
 have fin:EP X pins σ Q u s:=⟨v,H,I,r,h⟩
 rcases l with⟨hk,hm⟩|⟨hk,c,hc,hcell⟩
 ·exact wpAny_Name (wpAny_loadName_local I.ok.kind hk hn hm fin) hd
 ·rcases hk with hk|hk
  ·exact wpAny_Name (wpAny_loadName_cell I.ok.kind hk hc hcell fin) hd
  ·exact wpAny_Name (wpAny_loadName_free I.ok.kind hk hc hcell fin hcd) hd
theorem z0j {i j pos}:PE X (.Constant (.int i) j pos) (tC (.int i)):=fun _ _ _ H _ I h=>wpAny_Constant_int ⟨.int i,H,I.tok _,⟨_,rfl⟩,h⟩
theorem z7O {b j pos}:PE X (.Constant (.bool b) j pos) (tC (.bl b)):=fun _ _ _ H _ I h=>Constant_bool ⟨.bl b,H,I,rfl,h⟩
theorem z3A {j pos}:PE X (.Constant .none j pos) (tC .non):=fun _ _ _ H _ I h=>Constant_none ⟨.non,H,I,rfl,h⟩
def Gl (X:Cx) (x:Str):Prop:=X.env.kindOf x=some .globalImplicit
theorem y2a {E:Value→Shared→Prop}{pins:List (Addr×Obj)}{s:Shared}{σ:St}{H:Hp}{x:Str}{u:Value}{pos:Pos}{Q:Value→Shared→Prop} (I:Inv X pins σ H s) (hg:Gl X x) (hm:X.mg x=some u) (h:Q u s)
 (hd:(x==("__debug__":Str))=false:=by decide):wpAny (model X.prog X.w) X.A (eval (.Name x pos) X.env) Q E s:=
 Calls.Name_function_global I.ok.kind hg (Calls.loadGlobal_global (by rw[I.ok.glob];exact I.mod.glob.keeps I.bk) hm h) hd
theorem z2X {E:Value→Shared→Prop}{pins:List (Addr×Obj)}{s:Shared}{σ:St}{H:Hp}{x:Str}{u:Value}{pos:Pos}{Q:Value→Shared→Prop} (I:Inv X pins σ H s) (hg:Gl X x) (hm:X.mg x=none) (hv:bootBuiltins x=some u) (h:Q u s)
 (hn:x≠"__name__":=by decide) (hd:(x==("__debug__":Str))=false:=by decide):wpAny (model X.prog X.w) X.A (eval (.Name x pos) X.env) Q E s:=by
 obtain⟨mb,h1,h2⟩:=I.mod.blt
 exact Calls.Name_function_global I.ok.kind hg (Calls.loadGlobal_builtin (by rw[I.ok.glob];exact I.mod.glob.keeps I.bk) hm (by rw[I.ok.blt];exact h1.keeps I.bk) ((h2 x hn).trans hv) h) hd
theorem y5H {x:Str}{v:V}{u:Value}{pos:Pos} (hg:Gl X x) (hm:X.mg x=some u) (r:RelV v u) (hd:(x==("__debug__":Str))=false:=by decide):PE X (.Name x pos) (tC v):=
 fun _ _ _ H _ I h=>y2a I hg hm ⟨v,H,I,r,h⟩ hd
theorem y1x {x:Str}{v:V}{u:Value}{pos:Pos} (hg:Gl X x) (hm:X.mg x=none) (hv:bootBuiltins x=some u) (r:RelV v u) (hn:x≠"__name__":=by decide) (hd:(x==("__debug__":Str))=false:=by decide):PE X (.Name x pos) (tC v):=
 fun _ _ _ H _ I h=>z2X I hg hm hv ⟨v,H,I,r,h⟩ hn hd
variable {a b:Expr}{ta tb:TE}{pos:Pos}
def PC (X:Cx) (op:CmpOp) (a b:Expr) (t:TE):Prop:=
 ∀(pins:List (Addr×Obj)) (s:Shared) (σ:St) (H:Hp) (Q:VK),Inv X pins σ H s→t σ H Q→
  wpAny (model X.prog X.w) X.A (eval a X.env) (fun v s₁=>wpAny (model X.prog X.w) X.A (eval b X.env) (fun u s₂=>wpAny (model X.prog X.w) X.A (compareOp op v u) (EP X pins σ Q) X.xe s₂) X.xe s₁) X.xe s
theorem z8M (b:Expr) {op:CmpOp} (h:op≠ .In) (h2:op≠ .NotIn):behindInMarks op b=false:=by
 have e1:(op==CmpOp.In)=false:=by cases op<;>first|rfl|exact absurd rfl h
 have e2:(op==CmpOp.NotIn)=false:=by cases op<;>first|rfl|exact absurd rfl h2
 cases b<;>simp[behindInMarks,e1,e2]
def tIsN (ta:TE):TE:=fun σ H Q=>ta σ H fun x H1=>Q (.bl (decide (x= .non))) H1
def tNotN (ta:TE):TE:=fun σ H Q=>ta σ H fun x H1=>Q (.bl (!decide (x= .non))) H1
theorem RelV.none_iff {x:V}{v:Value} (r:RelV x v):(v==Value.none)=decide (x= .non):=by
 cases x with
 |non=>cases r;rfl
 |bl _=>cases r;rfl
 |int _=>obtain⟨t,rfl⟩:=r;rfl
 |str _=>obtain⟨t,rfl⟩:=r;rfl
 |byt _=>obtain⟨t,rfl⟩:=r;rfl
 |flt _=>obtain⟨t,rfl⟩:=r;rfl
 |ref _=>cases r;rfl
 |ty _=>cases r;rfl
theorem z5d {j pos'} (ha:PE X a ta):PC X .Is a (.Constant .none j pos') (tIsN ta):=by
 intro pins s σ H Q I h
 refine thn (ha pins s σ H _ I h) fun v s1 ⟨x,H1,I1,r1,q1⟩=>?_
 exact Constant_none (is_none_gen ⟨.bl _,H1,I1,by rw[r1.none_iff];rfl,q1⟩)
theorem z7P {j pos'} (ha:PE X a ta):PC X .IsNot a (.Constant .none j pos') (tNotN ta):=by
 intro pins s σ H Q I h
 refine thn (ha pins s σ H _ I h) fun v s1 ⟨x,H1,I1,r1,q1⟩=>?_
 exact Constant_none (isnot_none_gen ⟨.bl _,H1,I1,by rw[r1.none_iff];rfl,q1⟩)
def tB (t:TE):TT:=fun σ H Q=>t σ H fun x H1=>∃c,x= .bl c∧Q c H1
theorem y7k {op:CmpOp}{t:TE} (h:PC X op a b t) (h1:behindInMarks op b=false:=by first|exact z8M _ (by decide) (by decide)|rfl):PE X (.Compare a [op] [b] pos) t:=fun pins s σ H Q I hw=>wpAny_Compare1 (h pins s σ H Q I hw) h1
theorem z3y {op:CmpOp}{t:TE} (h:PC X op a b t) (h1:behindInMarks op b=false:=by first|exact z8M _ (by decide) (by decide)|rfl):PT X (.Compare a [op] [b] pos) (tB t):=by
 intro pins s σ H Q I hw
 refine wpAny_isTrue_Compare1 (thn (h pins s σ H _ I hw) fun v s1 h1=>thn h1 fun u s2 h2=>thn h2 fun c s3 ⟨x,H1,I1,r1,q1⟩=>?_) h1
 obtain⟨d,rfl,q⟩:=q1
 cases r1
 exact wpAny_truthy_bool ⟨H1,I1,q⟩
theorem z3x {e:Expr}{t:TE} (h:PE X e t) (he:∀whole,isTrue e X.env whole=(do let v ←whole;standAt e.pos;holding [v] (truthy v)):=by intro _;rfl):PT X e (tB t):=by
 intro pins s σ H Q I hw
 refine isTrue_plain (thn (h pins s σ H _ I hw) fun v s1 ⟨x,H1,I1,r1,q1⟩=>?_) (he _)
 obtain⟨d,rfl,q⟩:=q1
 cases r1
 exact wpAny_truthy_bool ⟨H1,I1,q⟩
variable {tA tB':TT}{rest:List Expr}
def tAnd (t u:TT):TT:=fun σ H Q=>t σ H fun c H1=>if c=true then u σ H1 Q else Q false H1
def tNot (t:TT):TT:=fun σ H Q=>t σ H fun c H1=>Q (!c) H1
theorem y1r (ha:PT X a tA):PW X (.BoolOp .And [a] pos) tA:=by
 intro wh pins s σ H Q I h
 refine isTrue_and (thn (ha pins s σ H Q I h) fun c s1 e=>?_)
 cases c with
 |true=>exact isTrue_and_nil e
 |false=>exact e
theorem y4J (ha:PT X a tA) (hb:PW X (.BoolOp .And (b::rest) pos) tB'):PW X (.BoolOp .And (a::b::rest) pos) (tAnd tA tB'):=by
 intro wh pins s σ H Q I h
 refine isTrue_and (thn (ha pins s σ H _ I h) fun c s1 ⟨H1,I1,q1⟩=>?_)
 cases c with
 |true=>exact hb wh pins s1 σ H1 Q I1 q1
 |false=>exact⟨H1,I1,q1⟩
theorem z5b (ha:PT X a tA):PT X (.UnaryOp .Not a pos) (tNot tA):=by
 intro pins s σ H Q I h
 exact isTrue_not (ha pins s σ H (fun c H1=>Q (!c) H1) I h)
def tAndV (ta tb:TE):TE:=fun σ H Q=>ta σ H fun x H1=>∃c,x= .bl c∧if c=true then tb σ H1 Q else Q (.bl false) H1
def tNotV (ta:TE):TE:=fun σ H Q=>ta σ H fun x H1=>∃c,x= .bl c∧Q (.bl (!c)) H1
theorem y1w {op}{t:TE} (h:PE X a t):PE X (.BoolOp op [a] pos) t:=fun pins s σ H Q I hw=>BoolOp_one (h pins s σ H Q I hw)
theorem y1y (ha:PE X a ta) (hb:PE X (.BoolOp .And (b::rest) pos) tb):PE X (.BoolOp .And (a::b::rest) pos) (tAndV ta tb):=by
 intro pins s σ H Q I h
 refine BoolOp_and (thn (ha pins s σ H _ I h) fun v s1 ⟨x,H1,I1,r1,q1⟩=>?_)
 obtain⟨c,rfl,q1⟩:=q1
 cases r1
 refine wpAny_truthy_bool ?_
 cases c with
 |true=>exact hb pins s1 σ H1 Q I1 q1
 |false=>exact⟨.bl false,H1,I1,rfl,q1⟩
theorem y7j (ha:PE X a ta):PE X (.UnaryOp .Not a pos) (tNotV ta):=by
 intro pins s σ H Q I h
 refine UnaryOp_ (thn (ha pins s σ H _ I h) fun v s1 ⟨x,H1,I1,r1,q1⟩=>?_)
 obtain⟨c,rfl,q1⟩:=q1
 cases r1
 exact not_of (wpAny_truthy_bool ⟨.bl (!c),H1,I1,rfl,q1⟩)
def tIf (t:TT) (ta tb:TE):TE:=fun σ H Q=>t σ H fun c H1=>if c=true then ta σ H1 Q else tb σ H1 Q
theorem z3K {c:Expr} (hc:PT X c tA) (ha:PE X a ta) (hb:PE X b tb):PE X (.IfExp c a b pos) (tIf tA ta tb):=by
 intro pins s σ H Q I h
 refine wpAny_IfExp (thn (hc pins s σ H _ I h) fun d s1 ⟨H1,I1,q1⟩=>?_)
 cases d with
 |true=>exact ha pins s1 σ H1 Q I1 q1
 |false=>exact hb pins s1 σ H1 Q I1 q1
end
end L2
namespace L2
open PySem PySem.Spec PyProof.Rows
def SqL (K:PySem.W.Frag) (H:Hp) (a:Addr) (xs:List V):Prop:=
 Rd H a (.lst xs)∨
    ∃(o:Obj) (its:Array Value) (n:Nat),K.lookup a=some o∧o.cls= .type "list"∧o.dict=none∧o.data= .seq its n∧its.size≤sizeLine∧Vals xs its.toList
def SqT (K:PySem.W.Frag) (H:Hp) (a:Addr) (xs:List V):Prop:=
 Rd H a (.tup xs)∨
    ∃(o:Obj) (its:Array Value) (n:Nat),K.lookup a=some o∧o.cls= .type "tuple"∧o.data= .seq its n∧its.size≤sizeLine∧Vals xs its.toList
def absV:Value→Option V
 | .none =>some .non
 | .bool b=>some (.bl b)
 | .int i _=>some (.int i)
 | .str x _=>some (.str x)
 | .bytes b _=>some (.byt b)
 | .float b _=>some (.flt b)
 | .ref a=>some (.ref a)
 | .type n=>some (.ty n)
 |_=>none
theorem RelV.abs {x:V}{u:Value} (r:RelV x u):absV u=some x:=by
 cases x with
 |non=>cases r;rfl
 |bl _=>cases r;rfl
 |int _=>obtain⟨t,rfl⟩:=r;rfl
 |str _=>obtain⟨t,rfl⟩:=r;rfl
 |byt _=>obtain⟨t,rfl⟩:=r;rfl
 |flt _=>obtain⟨t,rfl⟩:=r;rfl
 |ref _=>cases r;rfl
 |ty _=>cases r;rfl
theorem RelV.inj {x y:V}{u:Value} (r:RelV x u) (q:RelV y u):x=y:=Option.some.inj (r.abs.symm.trans q.abs)
theorem Vals.inj:∀{xs ys:List V}{us:List Value},Vals xs us→Vals ys us→xs=ys
 |_,_,_,.nil,.nil =>rfl
 |_,_,_,.cons r t,.cons r' t'=>by rw[r.inj r',Vals.inj t t']
section
variable {X:Cx}{pins:List (Addr×Obj)}{σ:St}{H:Hp}{s:Shared}{a:Addr}{xs ys:List V}
theorem SqL.of {K:PySem.W.Frag} (h:H a=some (.lst xs)):SqL K H a xs:= .inl (.inl h)
theorem SqT.of {K:PySem.W.Frag} (h:H a=some (.tup xs)):SqT K H a xs:= .inl (.inl h)
theorem Inv.list (I:Inv X pins σ H s) (h:SqL X.K H a xs):∃its:List Value,Vals xs its∧PlainL s.heap a its.toArray∧xs.length≤sizeLine:=by
 rcases h with h|⟨o,its,n,hk,hc,hd,hs,hz,r⟩
 ·obtain⟨z,its,n,r,e⟩:=h.ok I.hok
  exact⟨its,r,⟨_,n,e,rfl,rfl,rfl⟩,z⟩
 ·refine⟨its.toList,r,⟨o,n,I.kIn a o hk,hc,hd,by simpa using hs⟩,?_⟩
  have e:=r.length
  simp only[q1w] at e
  lia
theorem Inv.tuple (I:Inv X pins σ H s) (h:SqT X.K H a xs):∃its:List Value,Vals xs its∧IsTup s.heap a its.toArray∧xs.length≤sizeLine:=by
 rcases h with h|⟨o,its,n,hk,hc,hs,hz,r⟩
 ·obtain⟨z,its,r,p⟩:=h.ok I.hok
  exact⟨its,r,p,z⟩
 ·refine⟨its.toList,r,⟨o,I.kIn a o hk,hc,n,by simpa using hs⟩,?_⟩
  have e:=r.length
  simp only[q1w] at e
  lia
theorem Inv.list_inj (I:Inv X pins σ H s) (h:SqL X.K H a xs) (h':SqL X.K H a ys):xs=ys:=by
 obtain⟨its,r,⟨o,n,e,_,_,d⟩,_⟩:=I.list h
 obtain⟨its',r',⟨o',n',e',_,_,d'⟩,_⟩:=I.list h'
 rw[e] at e';cases e'
 rw[d] at d'
 injection d' with d1 _
 have:its=its':=by simpa using congrArg Array.toList d1
 subst this
 exact r.inj r'
theorem Inv.tuple_inj (I:Inv X pins σ H s) (h:SqT X.K H a xs) (h':SqT X.K H a ys):xs=ys:=by
 obtain⟨its,r,⟨o,e,_,n,d⟩,_⟩:=I.tuple h
 obtain⟨its',r',⟨o',e',_,n',d'⟩,_⟩:=I.tuple h'
 rw[e] at e';cases e'
 rw[d] at d'
 injection d' with d1 _
 have:its=its':=by simpa using congrArg Array.toList d1
 subst this
 exact r.inj r'
end
abbrev Cx.wish (X:Cx) (E:Value→Shared→Prop):Cx:={X with xe:=E}
abbrev Cx.nox (X:Cx):Cx:=X.wish fun _ _=>False
theorem Cx.Ok.wish {X:Cx} (ok:X.Ok) (E:Value→Shared→Prop):(X.wish E).Ok :=
 ⟨ok.mod,ok.kind,ok.glob,ok.blt,ok.above,ok.inj,ok.has,ok.cab,ok.hd,ok.frames,ok.stk,ok.exf,ok.bs,ok.bsz,ok.noex,ok.exfs,ok.funs,ok.frf⟩
theorem Cx.Ok.unwish {X:Cx}{E:Value→Shared→Prop} (ok:(X.wish E).Ok):X.Ok:=
 ⟨ok.mod,ok.kind,ok.glob,ok.blt,ok.above,ok.inj,ok.has,ok.cab,ok.hd,ok.frames,ok.stk,ok.exf,ok.bs,ok.bsz,ok.noex,ok.exfs,ok.funs,ok.frf⟩
section
variable {X:Cx}{pins:List (Addr×Obj)}{σ:St}{H:Hp}{s:Shared}{E:Value→Shared→Prop}
theorem Inv.wish (I:Inv X pins σ H s) (E:Value→Shared→Prop):Inv (X.wish E) pins σ H s:=⟨I.ok.wish E,I.os,I.bare,I.base,I.loc,I.cell,I.free,I.freeC,I.pin,I.hok,I.len⟩
theorem Inv.unwish (I:Inv (X.wish E) pins σ H s):Inv X pins σ H s:=⟨I.ok.unwish,I.os,I.bare,I.base,I.loc,I.cell,I.free,I.freeC,I.pin,I.hok,I.len⟩
theorem SP.unwish {D:y5l}{f:Flow}{s':Shared} (h:SP (X.wish E) pins D f s'):SP X pins D f s':=by
 cases f with
 |next=>obtain⟨σ',H',I,q⟩:=h;exact⟨σ',H',I.unwish,q⟩
 |brk=>obtain⟨σ',H',I,q⟩:=h;exact⟨σ',H',I.unwish,q⟩
 |cont=>obtain⟨σ',H',I,q⟩:=h;exact⟨σ',H',I.unwish,q⟩
 |ret u=>obtain⟨v,σ',H',I,r,q⟩:=h;exact⟨v,σ',H',I.unwish,r,q⟩
theorem PSs.nox {st:List Stmt}{t:TS} (h:PSs X.nox st t):PSs X st t:=fun pins s σ H D I hw=>
 wpAny_mono (h pins s σ H D (I.wish _) hw) (fun _ _ q=>q.unwish) fun _ _ z=>False.elim z
end
section
variable {X:Cx}{st:Stmt}{rest:List Stmt}{t u:TS}{e:Expr}{te:TE}{pos:Pos}
def tNext:TS:=fun D σ H=>D.nx σ H
def tSeq (t u:TS):TS:=fun D σ H=>t {D with nx:=u D} σ H
theorem z0E:PSs X [] tNext:=fun _ _ σ H _ I h=>wpAny_execs_nil ⟨σ,H,I,h⟩
theorem z0d (h1:PS X st t) (h2:PSs X rest u):PSs X (st::rest) (tSeq t u):=by
 intro pins s σ H D I h
 refine wpAny_execs_cons (thn (h1 pins s σ H {D with nx:=u D} I h) fun f s1 q=>?_)
 cases f with
 |next=>
  obtain⟨σ',H',I',q⟩:=q
  exact h2 pins s1 σ' H' D I' q
 |ret v=>exact q
 |brk=>exact q
 |cont=>exact q
theorem z0g (h1:PS X st t):PSs X [st] t:=by
 intro pins s σ H D I h
 refine wpAny_execs_cons (thn (h1 pins s σ H D I h) fun f s1 q=>?_)
 cases f with
 |next=>exact wpAny_execs_nil q
 |ret v=>exact q
 |brk=>exact q
 |cont=>exact q
theorem Inv.quiet {pins:List (Addr×Obj)}{σ:St}{H:Hp}{s:Shared} (I:Inv X pins σ H s):interactive X.env=false:=by simp[interactive,I.ok.kind]
def tDrop (te:TE):TS:=fun D σ H=>te σ H fun _ H1=>D.nx σ H1
theorem z2E (he:PE X e te) (hs:swapsWith e none pos.line X.env=pure false:=by rfl):PS X (.Expr e pos) (tDrop te):=by
 intro pins s σ H D I h
 exact wpAny_Expr_any (thn (he pins s σ H _ I h) fun v s1 ⟨x,H1,I1,r1,q1⟩=>⟨σ,H1,I1,q1⟩) I.quiet hs
def tRet (te:TE):TS:=fun D σ H=>te σ H D.rt
theorem z0v (he:PE X e te):PS X (.Return (some e) pos) (tRet te):=by
 intro pins s σ H D I h
 exact wpAny_Return_some (thn (he pins s σ H _ I h) fun v s1 ⟨x,H1,I1,r1,q1⟩=>⟨x,σ,H1,I1,r1,q1⟩)
def tIfS (c:TT) (t u:TS):TS:=fun D σ H=>c σ H fun b H1=>if b=true then t D σ H1 else u D σ H1
theorem z1k {c:Expr}{a b:List Stmt}{tc:TT} (hc:PT X c tc) (ha:PSs X a t) (hb:PSs X b u):PS X (.If c a b pos) (tIfS tc t u):=by
 intro pins s σ H D I h
 refine wpAny_If (thn (hc pins s σ H _ I h) fun d s1 ⟨H1,I1,q1⟩=>?_)
 cases d with
 |true=>exact ha pins s1 σ H1 D I1 q1
 |false=>exact hb pins s1 σ H1 D I1 q1
def y6P:TS:=fun _ _ _=>False
theorem z5M:PS X st y6P:=fun _ _ _ _ _ _ h=>h.elim
end
abbrev TG:=V→St→Hp→(St→Hp→Prop)→Prop
abbrev TGs:=List V→St→Hp→(St→Hp→Prop)→Prop
def PG (X:Cx) (target:Expr) (t:TG):Prop:=
 ∀(pins:List (Addr×Obj)) (s:Shared) (σ:St) (H:Hp) (v:V) (u:Value) (Q:St→Hp→Prop),Inv X pins σ H s→RelV v u→t v σ H Q→
  wpAny (model X.prog X.w) X.A (assign target X.env u) (fun _ s'=>∃σ' H',Inv X pins σ' H' s'∧Q σ' H') X.xe s
def PGs (X:Cx) (ts:List Expr) (t:TGs):Prop:=
 ∀(pins:List (Addr×Obj)) (s:Shared) (σ:St) (H:Hp) (vs:List V) (us:List Value) (Q:St→Hp→Prop),Inv X pins σ H s→Vals vs us→t vs σ H Q→
  wpAny (model X.prog X.w) X.A (assignInOrder ((assignEach ts X.env).map (·.2)) us) (fun _ s'=>∃σ' H',Inv X pins σ' H' s'∧Q σ' H') X.xe s
abbrev TSet:=V→V→V→Hp→(Hp→Prop)→Prop
def PSet (X:Cx) (t:TSet):Prop:=
 ∀(pins:List (Addr×Obj)) (s:Shared) (σ:St) (H:Hp) (o i v:V) (ov iv u:Value) (Q:Hp→Prop),Inv X pins σ H s→RelV o ov→RelV i iv→RelV v u→t o i v H Q→
  wpAny (model X.prog X.w) X.A (setItem ov iv u) (fun _ s'=>∃H',Inv X pins σ H' s'∧Q H') X.xe s
section
variable {X:Cx}{pos:Pos}
def z6X (i:Nat):TG:=fun v σ H Q=>Q (σ.set i (some v)) H
theorem z0k {i:Nat}{x:Str} (hN:X.N.Nodup) (hi:X.N[i]? =some x) (hx:Loc X.env.scope x) (hf:X.fn x=true∨X.env.scope.names.lookup x=some .local :=by first|exact .inl rfl|exact .inr rfl|assumption):PG X (.Name x pos) (z6X i):=by
 intro pins s σ H v u Q I r h
 exact wpAny_assign_Name (z8t I hN hi hx r (fun s' I'=>⟨_,H,I',h⟩) hf)
def gNil:TGs:=fun vs σ H Q=>vs=[]∧Q σ H
def gCons (t:TG) (u:TGs):TGs:=fun vs σ H Q=>∃v r,vs=v::r∧t v σ H fun σ' H'=>u r σ' H' Q
theorem z0P:PGs X [] gNil:=by
 intro pins s σ H vs us Q I r h
 obtain⟨e,h⟩:=h
 subst e
 cases r
 exact assignInOrder_nil ⟨σ,H,I,h⟩
theorem z0t {e:Expr}{es:List Expr}{t:TG}{u:TGs} (h1:PG X e t) (h2:PGs X es u)
 (hs:(assignEach (e::es) X.env).map (·.2)=assign e X.env::(assignEach es X.env).map (·.2):=by rfl):PGs X (e::es) (gCons t u):=by
 intro pins s σ H vs us Q I r h
 obtain⟨v,vr,e1,h⟩:=h
 subst e1
 cases r with
 |cons r rr=>
  rw[hs]
  refine assignInOrder_cons (thn (h1 pins s σ H _ _ _ I r h) fun _ s1 ⟨σ1,H1,I1,q1⟩=>?_)
  exact h2 pins s1 σ1 H1 _ _ Q I1 rr q1
def gTup (K:PySem.W.Frag) (n:Nat) (t:TGs):TG:=fun v σ H Q=>∃a xs,v= .ref a∧SqT K H a xs∧xs.length=n∧t xs σ H Q
theorem y7h {es:List Expr}{k:Nat}{t:TGs}{n:Nat} (hc:X.calm=true) (h:PGs X es t)
 (hn:(assignEach es X.env).length =n:=by rfl) (hst:(assignEach es X.env).findIdx? (·.1)=none:=by rfl):PG X (.Tuple es k pos) (gTup X.K n t):=by
 intro pins s σ H v u Q I r hw
 obtain⟨a,xs,e1,hq,hl,hw⟩:=hw
 subst e1
 cases r
 obtain⟨its,rv,ht,hz⟩:=I.tuple hq
 refine assign_Tuple_tuple (I.ok.hd hc) ht (by simp[hn,←hl,rv.length]) hst fun h' hx=>?_
 have I1:Inv X pins σ H {s with heap:=h'}:=I.kept (t':=s.toks) fun b o e=>hx b o (q0o (q0t e)) e
 exact h pins _ σ H xs _ Q I1 (by simpa using rv) hw
def gSub (to ti:TE) (t:TSet):TG:=fun v σ H Q=>to σ H fun o H1=>ti σ H1 fun i H2=>t o i v H2 fun H3=>Q σ H3
theorem z6J {o i:Expr}{to ti:TE}{t:TSet} (ho:PE X o to) (hi:PE X i ti) (hs:PSet X t)
 (ha:∀v,assign (.Subscript o i pos) X.env v=(do
  let ov ←holding [v] (eval o X.env)
  let iv ←holding [v,ov] (eval i X.env)
  standAt pos
  holding [v,ov,iv] (setItem ov iv v)
  release [v,ov,iv] []):=by intro _;rfl):PG X (.Subscript o i pos) (gSub to ti t):=by
 intro pins s σ H v u Q I r h
 rw[ha]
 refine wpAny_bind (wpAny_holding (thn (ho pins s σ H _ I h) fun ov s1 ⟨x,H1,I1,r1,q1⟩=>?_))
 refine wpAny_bind (wpAny_holding (thn (hi pins s1 σ H1 _ I1 q1) fun iv s2 ⟨y,H2,I2,r2,q2⟩=>?_))
 refine wpAny_bind (wpAny_standAt (wpAny_bind (wpAny_holding (thn (hs pins s2 σ H2 x y v ov iv u _ I2 r1 r2 r q2) fun _ s3 ⟨H3,I3,q3⟩=>?_))))
 exact wpAny_release ⟨σ,H3,I3,q3⟩
def tAsg (te:TE) (g:TG):TS:=fun D σ H=>te σ H fun x H1=>g x σ H1 D.nx
theorem z6H {tg e:Expr}{te:TE}{g:TG} (he:PE X e te) (hg:PG X tg g) (hs:swapsWithSole [tg] e pos.line X.env=pure false:=by rfl) (hw:swappedStores [tg] e X.env=pure none:=by rfl)
 (h1:(assignEach [tg] X.env).map (·.2)=[assign tg X.env]:=by rfl):PS X (.Assign [tg] e pos) (tAsg te g):=by
 intro pins s σ H D I h
 refine wpAny_Assign_stores (thn (he pins s σ H _ I h) fun v s1 ⟨x,H1,I1,r1,q1⟩=>?_) hs hw
 rw[h1]
 exact thn (hg pins s1 σ H1 x v _ I1 r1 q1) fun _ s2 q=>q
theorem z0q {i:Nat}{x:Str}{e:Expr}{te:TE}{pos':Pos} (hN:X.N.Nodup) (hi:X.N[i]? =some x) (hx:Loc X.env.scope x) (he:PE X e te) (hs:swapsWith e (some (.Name x pos')) pos.line X.env=pure false:=by rfl) (hf:X.fn x=true∨X.env.scope.names.lookup x=some .local :=by first|exact .inl rfl|exact .inr rfl|assumption):
 PS X (.Assign [.Name x pos'] e pos) (tAsg te (z6X i)):=by
 intro pins s σ H D I h
 refine wpAny_Assign_Name (thn (he pins s σ H _ I h) fun v s1 ⟨y,H1,I1,r1,q1⟩=>?_) hs
 exact z8t I1 hN hi hx r1 (fun s2 I2=>⟨_,H1,I2,q1⟩) hf
end
section
variable {X:Cx}{pos:Pos}
def y4F (c:TT) (tb:TS):TS:=fun D σ H=>∃W:Nat→St→Hp→Prop,(∃m,W m σ H)∧∀m σ H,W m σ H→
 c σ H fun b H1=>if b=true then ∃N:St→Hp→Prop,(∀σ' H',N σ' H'→∃m',m'<m∧W m' σ' H')∧tb {D with nx:=N,ct:=N,bk:=D.nx} σ H1 else D.nx σ H1
theorem y3G {c:Expr}{body:List Stmt}{tc:TT}{tb:TS} (hp:PassesOwn (model X.prog X.w) X.A X.env X.xe) (hc:PT X c tc) (hb:PSs X body tb):PS X (.While c body [] pos) (y4F tc tb):=by
 intro pins s σ H D I h
 obtain⟨W,⟨m0,w0⟩,turn⟩:=h
 refine wpAny_While (codeAny_whileLoop (fun n s'=>∃σ' H',Inv X pins σ' H' s'∧W n σ' H') ?_ m0 ⟨σ,H,I,w0⟩)
 rintro n s1 ⟨σ1,H1,I1,w1⟩
 refine wpAny_passesOwn hp (thn (hc pins s1 σ1 H1 _ I1 (turn n σ1 H1 w1)) fun b s2 ⟨H2,I2,q2⟩=>?_)
 cases b with
 |true=>
  obtain⟨N,hN,q2⟩:=q2
  rw[if_pos rfl]
  refine wpAny_passesOwn hp (thn (hb pins s2 σ1 H2 _ I2 q2) fun f s3 q3=>?_)
  cases f with
  |next=>
   obtain⟨σ3,H3,I3,n3⟩:=q3
   obtain⟨m',hm,w3⟩:=hN σ3 H3 n3
   exact⟨m',hm,σ3,H3,I3,w3⟩
  |cont=>
   obtain⟨σ3,H3,I3,n3⟩:=q3
   obtain⟨m',hm,w3⟩:=hN σ3 H3 n3
   exact⟨m',hm,σ3,H3,I3,w3⟩
  |brk=>exact q3
  |ret v=>exact q3
 |false=>
  rw[if_neg q0F]
  exact wpAny_execs_nil ⟨σ1,H2,I2,q2⟩
end
structure It where
 go:Nat→Hp→Prop
 yld:Nat→Hp→V→Hp→Prop
 stop:Nat→Hp→Prop
def y0u (X:Cx) (pins:List (Addr×Obj)) (H:Hp) (b:Addr):Prop:=
 H b=none∧b≠X.env.locals∧b∉X.fs∧(b∈X.ex∨X.s₀.heap.objs.size≤b)∧(∀x c,X.env.cells.lookup x=some c→c≠b)∧∀p∈X.pn++pins,p.1≠b
theorem Inv.fpOk {X:Cx}{pins:List (Addr×Obj)}{σ:St}{H H':Hp}{s:Shared}{b:Addr} (I:Inv X pins σ H s) (hb:s.heap.objs.size≤b) (hn:H' b=none):y0u X pins H' b:=by
 refine⟨hn,Nat.ne_of_gt (q0y I.lt hb),I.nofs hb,.inr (q0m I.sz hb),fun x c e z=>?_,fun p hp z=>?_⟩
 ·obtain⟨v,q⟩:=I.cell x c e
  exact absurd (q0y q.lt (by rw[z];exact hb)) (q1e _)
 ·exact absurd (q0y (q0t (I.pin p hp).1) (by rw[z];exact hb)) (q1e _)
structure y5k (P:Program) (w:World) (K:PySem.W.Frag) (tg:Expr) (J:It) (fp:List Addr) (it:Addr) (tn:Nat→Heap→Prop):Prop where
 mem:it∈fp
 obj:∀i h,tn i h→∀b∈fp,∃o,h.get? b=some o∧∀v,o.data≠ .cell v
 keep:∀i h h',tn i h→(∀b∈fp,∀o,h.get? b=some o→h'.get? b=some o)→tn i h'
 item:∀(X:Cx),X.prog=P→X.w=w→X.K=K→X.calm=true→∀(i:Nat) (pins:List (Addr×Obj)) (s:Shared) (σ:St) (H:Hp) (E:Value→Shared→Prop),Inv X pins σ H s→(∀b∈fp,y0u X pins H b)→tn i s.heap→J.go i H→
  wpAny (model P w) X.A (pyNext (.ref it)) (fun r s1=>∃u,r=some u∧
   wpAny (model P w) X.A (letOwnedTupleGo tg (.ref it) u) (fun _ s2=>∃x H',Inv X pins σ H' s2∧RelV x u∧J.yld i H x H'∧tn (i+1) s2.heap∧∀b∈fp,H' b=none) E s1) E s
 done:∀(X:Cx),X.prog=P→X.w=w→X.K=K→X.calm=true→∀(i:Nat) (pins:List (Addr×Obj)) (s:Shared) (σ:St) (H:Hp) (E:Value→Shared→Prop),Inv X pins σ H s→(∀b∈fp,y0u X pins H b)→tn i s.heap→J.stop i H→
  wpAny (model P w) X.A (pyNext (.ref it)) (fun r s1=>r=none∧Inv X pins σ H s1) E s
 self:∀(A:Around) (i:Nat) (s:Shared) (Q:Value→Shared→Prop) (E:Value→Shared→Prop),tn i s.heap→Q (.ref it) s→wpAny (model P w) A (pyIter (.ref it)) Q E s
abbrev TI:=St→Hp→(It→Hp→Prop)→Prop
def PIE (X:Cx) (pins:List (Addr×Obj)) (σ:St) (tg:Expr) (R:It→Hp→Prop) (itv:Value) (s2:Shared):Prop:=
 ∃(it:Addr) (fp:List Addr) (tn:Nat→Heap→Prop) (J:It) (H':Hp),itv= .ref it∧Inv X pins σ H' s2∧y5k X.prog X.w X.K tg J fp it tn∧tn 0 s2.heap∧(∀b∈fp,y0u X pins H' b)∧R J H'
def PI (X:Cx) (tg iter:Expr) (wi:TI):Prop:=
 ∀(pins:List (Addr×Obj)) (s:Shared) (σ:St) (H:Hp) (R:It→Hp→Prop),Inv X pins σ H s→wi σ H R→
  wpAny (model X.prog X.w) X.A (eval iter X.env) (fun v s1=>wpAny (model X.prog X.w) X.A (pyIter v) (PIE X pins σ tg R) X.xe s1) X.xe s
theorem y4l {M:Model}{A:Around}{E:Value→Shared→Prop}{s:Shared}{tg:Expr}{it:Addr}{u:Value}{o:Obj}{n:String}{vs:Array Value}{Q:Unit→Shared→Prop} (ho:s.heap.get? it=some o) (hc:o.cls= .type n) (hd:o.data= .fields vs)
 (hn:["enumerate","zip","dict_itemiterator","dict_reverseitemiterator","odict_iterator","itertools.zip_longest","itertools.pairwise"].contains n=false) (hQ:Q () s):wpAny M A (letOwnedTupleGo tg (.ref it) u) Q E s:=by
 unfold letOwnedTupleGo
 cases tg<;>first
  |exact wpAny_pure hQ
  |(cases u<;>first
       |exact wpAny_pure hQ
       |(refine wpAny_bind (wpAny_load ho ?_)
         rw[hc,hd]
         show wpAny M A (if (["enumerate","zip","dict_itemiterator","dict_reverseitemiterator","odict_iterator","itertools.zip_longest","itertools.pairwise"].contains n&&vs[0]? ==some (rawInt _))=true then _ else _) Q E s
         rw[if_neg (by intro h;rw[hn,Bool.false_and] at h;cases h)]
         exact wpAny_pure hQ))
def Itl (K:PySem.W.Frag) (a:Addr):It:=
 ⟨fun i H=>∃xs x,SqL K H a xs∧xs[i]? =some x,fun i H x H'=>H'=H∧∀xs,SqL K H a xs→xs[i]? =some x,fun i H=>∃xs,SqL K H a xs∧xs.length≤i⟩
def Itt (K:PySem.W.Frag) (a:Addr):It:=
 ⟨fun i H=>∃xs x,SqT K H a xs∧xs[i]? =some x,fun i H x H'=>H'=H∧∀xs,SqT K H a xs→xs[i]? =some x,fun i H=>∃xs,SqT K H a xs∧xs.length≤i⟩
def Itr (lo:Int) (n:Nat):It:=⟨fun i _=>i<n,fun i H x H'=>H'=H∧x= .int (lo+i),fun i _=>n≤i⟩
theorem z6r {P:Program}{w:World}{K:PySem.W.Frag}{tg:Expr} (a it:Addr):y5k P w K tg (Itl K a) [it] it (fun i h=>h.IsListIter it a i) where
 mem:=by simp
 obj:=fun i h st b hb=>by
  have e:b=it:=by simpa using hb
  subst e
  obtain⟨o,e,c,d⟩:=st
  exact⟨o,e,fun v z=>by rw[d] at z;cases z⟩
 keep:=fun i h h' st k=>st.at fun o e=>k it (by simp) o e
 item:=by
  intro X hP hw hK hc i pins s σ H E I hf st hg
  subst hP hw hK
  obtain⟨xs,x,hq,hx⟩:=hg
  obtain⟨its,rv,p,hz⟩:=I.list hq
  obtain⟨u,hu,ru⟩:=rv.get hx
  obtain⟨f0,f1,f2,f3,f4,f5⟩:=hf it (by simp)
  refine wpAny_pyNext_list_item st p.isList (x:=u) (by simpa using hu) fun h' st' sb=>?_
  have I1:Inv X pins σ H {s with heap:=h'}:=I.turned (t':=s.toks) (fun b o hb e=>(sb.2 b hb).trans e) f0 f1 f3 f4 f5
  obtain⟨o,e,c,d⟩:=id st'
  exact⟨u,rfl,y4l (s:={s with heap:=h'}) e c d (by decide) ⟨x,H,I1,ru,⟨rfl,fun ys hy=>by rw[I.list_inj hy hq];exact hx⟩,st',fun b hb=>(hf b hb).1⟩⟩
 done:=by
  intro X hP hw hK hc i pins s σ H E I hf st hg
  subst hP hw hK
  obtain⟨xs,hq,hx⟩:=hg
  obtain⟨its,rv,p,hz⟩:=I.list hq
  obtain⟨f0,f1,f2,f3,f4,f5⟩:=hf it (by simp)
  have hl:=rv.length
  exact wpAny_pyNext_list_end (I.ok.hd hc) st p.isList (by simp;lia) fun h' eb=>⟨rfl,I.turned (t':=s.toks) (fun b o hb e=>eb b o hb e) f0 f1 f3 f4 f5⟩
 self:=fun _ _ _ _ _ st h=>wpAny_pyIter_listiter st h
theorem z4T {P:Program}{w:World}{K:PySem.W.Frag}{tg:Expr} (a it:Addr):y5k P w K tg (Itt K a) [it] it (fun i h=>h.IsTupleIter it a i) where
 mem:=by simp
 obj:=fun i h st b hb=>by
  have e:b=it:=by simpa using hb
  subst e
  obtain⟨o,e,c,d⟩:=st
  exact⟨o,e,fun v z=>by rw[d] at z;cases z⟩
 keep:=fun i h h' st k=>st.at fun o e=>k it (by simp) o e
 item:=by
  intro X hP hw hK hc i pins s σ H E I hf st hg
  subst hP hw hK
  obtain⟨xs,x,hq,hx⟩:=hg
  obtain⟨its,rv,p,hz⟩:=I.tuple hq
  obtain⟨u,hu,ru⟩:=rv.get hx
  obtain⟨f0,f1,f2,f3,f4,f5⟩:=hf it (by simp)
  refine wpAny_pyNext_tuple_item st (show s.heap.IsTuple a its.toArray from p) (x:=u) (by simpa using hu) fun h' st' sb=>?_
  have I1:Inv X pins σ H {s with heap:=h'}:=I.turned (t':=s.toks) (fun b o hb e=>(sb.2 b hb).trans e) f0 f1 f3 f4 f5
  obtain⟨o,e,c,d⟩:=id st'
  exact⟨u,rfl,y4l (s:={s with heap:=h'}) e c d (by decide) ⟨x,H,I1,ru,⟨rfl,fun ys hy=>by rw[I.tuple_inj hy hq];exact hx⟩,st',fun b hb=>(hf b hb).1⟩⟩
 done:=by
  intro X hP hw hK hc i pins s σ H E I hf st hg
  subst hP hw hK
  obtain⟨xs,hq,hx⟩:=hg
  obtain⟨its,rv,p,hz⟩:=I.tuple hq
  obtain⟨f0,f1,f2,f3,f4,f5⟩:=hf it (by simp)
  have hl:=rv.length
  exact wpAny_pyNext_tuple_end (I.ok.hd hc) st (show s.heap.IsTuple a its.toArray from p) (by simp;lia) fun h' eb=>⟨rfl,I.turned (t':=s.toks) (fun b o hb e=>eb b o hb e) f0 f1 f3 f4 f5⟩
 self:=fun _ _ _ _ _ st h=>wpAny_pyIter_tupleiter st h
theorem z9z {P:Program}{w:World}{K:PySem.W.Frag}{tg:Expr} (it:Addr) (lo:Int) (n:Nat):y5k P w K tg (Itr lo n) [it] it (fun i h=>IsRangeIter h it (lo+(i:Nat)*1) ((n:Int) - (i:Nat)) 1) where
 mem:=by simp
 obj:=fun i h st b hb=>by
  have e:b=it:=by simpa using hb
  subst e
  exact⟨_,st,fun v z=>by
    have z':Data.fields _=Data.cell v:=z
    cases z'⟩
 keep:=fun i h h' st k=>k it (by simp) _ st
 item:=by
  intro X hP hw hK hc i pins s σ H E I hf st hg
  subst hP hw hK
  obtain⟨f0,f1,f2,f3,f4,f5⟩:=hf it (by simp)
  have W:=Walks.range (prog:=X.prog) (w:=X.w) (I.ok.hd hc) it lo 1 n
  refine W.item i s _ _ hg st fun v h' tk hv st' kk=>?_
  obtain⟨t,rfl⟩:=hv
  have I1:Inv X pins σ H {s with heap:=h',toks:=tk}:=I.turned (fun b o hb e=>kk b o (by simpa using hb) e) f0 f1 f3 f4 f5
  refine⟨_,rfl,y4l (s:={s with heap:=h',toks:=tk}) (n:="range_iterator") st' rfl rfl (by decide) ⟨.int (lo+i),H,I1,⟨t,?_⟩,⟨rfl,rfl⟩,st',fun b hb=>(hf b hb).1⟩⟩
  rw[Int.mul_one]
 done:=by
  intro X hP hw hK hc i pins s σ H E I hf st hg
  subst hP hw hK
  obtain⟨f0,f1,f2,f3,f4,f5⟩:=hf it (by simp)
  exact wpAny_pyNext_range_end (I.ok.hd hc) st (by have:n≤i:=hg;lia) fun h' eb=>⟨rfl,I.turned (t':=s.toks) (fun b o hb e=>eb b o hb e) f0 f1 f3 f4 f5⟩
 self:=fun _ _ _ _ _ st h=>wpAny_pyIter_rangeiter st h
end L2
namespace L2
open PySem PySem.Spec PyProof.Rows
section
variable {X:Cx}{tg:Expr}
def y7G (K:PySem.W.Frag) (tl:TE):TI:=fun σ H R=>tl σ H fun x H1=>∃a,x= .ref a∧(∃xs,SqL K H1 a xs)∧R (Itl K a) H1
def iTup (K:PySem.W.Frag) (tl:TE):TI:=fun σ H R=>tl σ H fun x H1=>∃a,x= .ref a∧(∃xs,SqT K H1 a xs)∧R (Itt K a) H1
theorem y5F {l:Expr}{tl:TE} (hl:PE X l tl):PI X tg l (y7G X.K tl):=by
 intro pins s σ H R I h
 refine thn (hl pins s σ H _ I h) fun v s1 ⟨x,H1,I1,r1,q1⟩=>?_
 obtain⟨a,e,⟨xs,hq⟩,q⟩:=q1
 subst e
 cases r1
 obtain⟨its,rv,p,hz⟩:=I1.list hq
 refine wpAny_pyIter_list p.isList ?_
 refine⟨s1.heap.objs.size,[s1.heap.objs.size],_,_,H1,rfl,I1.kept (t':=s1.toks) fun b o e=>q0d _ e,z6r a _,⟨_,q0s _ rfl,rfl,rfl⟩,fun b hb=>?_,q⟩
 have e:b=s1.heap.objs.size:=by simpa using hb
 subst e
 exact I1.fpOk (q0i _) (I1.hok.fresh (q0i _))
theorem y7f {l:Expr}{tl:TE} (hl:PE X l tl):PI X tg l (iTup X.K tl):=by
 intro pins s σ H R I h
 refine thn (hl pins s σ H _ I h) fun v s1 ⟨x,H1,I1,r1,q1⟩=>?_
 obtain⟨a,e,⟨xs,hq⟩,q⟩:=q1
 subst e
 cases r1
 obtain⟨its,rv,p,hz⟩:=I1.tuple hq
 refine wpAny_pyIter_tuple (show s1.heap.IsTuple a its.toArray from p) ?_
 refine⟨s1.heap.objs.size,[s1.heap.objs.size],_,_,H1,rfl,I1.kept (t':=s1.toks) fun b o e=>q0d _ e,z4T a _,⟨_,q0s _ rfl,rfl,rfl⟩,fun b hb=>?_,q⟩
 have e:b=s1.heap.objs.size:=by simpa using hb
 subst e
 exact I1.fpOk (q0i _) (I1.hok.fresh (q0i _))
theorem y3E {pins:List (Addr×Obj)}{σ:St}{H:Hp}{s:Shared}{R:It→Hp→Prop}{E:Value→Shared→Prop}{lo hi:Int}{t u v:Tok}{tk:Nat} (I:Inv X pins σ H s) (h1: -(2^62)≤lo) (h2:lo<2^62) (h3: -(2^62)≤hi) (h4:hi<2^62)
 (q:R (Itr lo (hi - lo).toNat) H):wpAny (model X.prog X.w) X.A (pyIter (.ref s.heap.objs.size)) (PIE X pins σ tg R) E {s with heap:=s.heap.push {cls:= .type "range",data:= .fields #[.int lo t,.int hi u,.int 1 v]},toks:=tk}:=by
 refine wpAny_pyIter_range (IsRange.new ..) (small_one h1 h2 h3 h4) ?_
 have I1:Inv X pins σ H {s with heap:=s.heap.push {cls:= .type "range",data:= .fields #[.int lo t,.int hi u,.int 1 v]},toks:=tk}:=I.kept fun b o e=>q0d _ e
 refine⟨(s.heap.push {cls:= .type "range",data:= .fields #[.int lo t,.int hi u,.int 1 v]}).objs.size,[(s.heap.push {cls:= .type "range",data:= .fields #[.int lo t,.int hi u,.int 1 v]}).objs.size],_,_,H,rfl,
  I1.kept (t':=tk) fun b o e=>q0d _ e,z9z _ lo (hi - lo).toNat,?_,fun b hb=>?_,q⟩
 ·have e1:lo+((0:Nat):Int)*1=lo:=by simp
  have e2:(((hi - lo).toNat :Nat):Int) - ((0:Nat):Int)=Builtin.Range.rangeSize lo hi 1:=by rw[rangeSize_one];split<;>lia
  show IsRangeIter _ _ (lo+((0:Nat):Int)*1) ((((hi - lo).toNat :Nat):Int) - ((0:Nat):Int)) 1
  rw[e1,e2]
  exact q0s _ rfl
 ·have e:b=(s.heap.push {cls:= .type "range",data:= .fields #[.int lo t,.int hi u,.int 1 v]}).objs.size :=by simpa using hb
  subst e
  exact I1.fpOk (q0i _) (I1.hok.fresh (q0i _))
def iRng1 (ta:TA):TI:=fun σ H R=>ta σ H fun vs H1=>∃j:Int,vs=[.int j]∧ -(2^62)≤j∧j<2^62∧R (Itr 0 j.toNat) H1
theorem z1w {a:Expr}{ta:TA}{p pos:Pos} (hg:Gl X "range") (hm:X.mg "range"=none) (ha:PA X [a] ta) (hs:starEach [a] X.env=[(false,eval a X.env)]:=by rfl):PI X tg (.Call (.Name "range" p) [a] [] pos) (iRng1 ta):=by
 intro pins s σ H R I h
 refine Call_ (z2X I hg hm boot_range (PyProof.Rows.callWith_type1 (thn (ha pos pins s σ H _ I h) fun us s1 ⟨vs,H1,I1,r1,q1⟩=>?_) hs rfl))
 obtain⟨j,e,q1,q2,q⟩:=q1
 subst e
 cases r1 with
 |cons r rr=>
  cases rr
  obtain⟨t,rfl⟩:=r
  exact call_range_1 (y3E I1 (by lia) (by lia) q1 q2 (by simpa using q))
def tFor (wi:TI) (g:TG) (tb:TS):TS:=fun D σ H=>wi σ H fun J H1=>∃W:Nat→Nat→St→Hp→Prop,(∃m,W 0 m σ H1)∧∀i m σ H,W i m σ H→
 (J.stop i H∧D.nx σ H)∨(J.go i H∧∃N:St→Hp→Prop,(∀σ' H',N σ' H'→∃m',m'<m∧W (i+1) m' σ' H')∧∀x H',J.yld i H x H'→g x σ H' fun σ2 H2=>tb {D with nx:=N,ct:=N,bk:=D.nx} σ2 H2)
def z3z (fp:List Addr) (h:Heap):List (Addr×Obj):=fp.filterMap fun b=>(h.get? b).map fun o=>(b,o)
theorem z0S {fp:List Addr}{h:Heap}{b:Addr}{o:Obj} (hb:b∈fp) (e:h.get? b=some o):(b,o)∈z3z fp h:=List.mem_filterMap.mpr ⟨b,hb,by rw[e];rfl⟩
theorem y1O {fp:List Addr}{h:Heap}{p:Addr×Obj} (hp:p∈z3z fp h):p.1∈fp∧h.get? p.1=some p.2:=by
 obtain⟨b,hb,e⟩:=List.mem_filterMap.mp hp
 cases q:h.get? b with
 |none=>rw[q] at e;cases e
 |some o=>
  rw[q] at e
  have e':(b,o)=p:=Option.some.inj e
  subst e'
  exact⟨hb,q⟩
theorem Inv.pinned {pins:List (Addr×Obj)}{σ:St}{H:Hp}{s:Shared}{fp:List Addr} (I:Inv X pins σ H s) (hf:∀b∈fp,y0u X pins H b) (ho:∀b∈fp,∃o,s.heap.get? b=some o∧∀v,o.data≠ .cell v):Inv X (pins++z3z fp s.heap) σ H s:=
 I.pins_of fun p hp=>(q0I.mp hp).elim (fun z=>I.pin p (q0C _ z)) fun z=>by
  obtain⟨hb,e⟩:=y1O z
  obtain⟨f0,f1,f2,_⟩:=hf p.1 hb
  obtain⟨o,e',d⟩:=ho p.1 hb
  rw[e] at e';cases e'
  exact⟨e,f0,f1,f2,d⟩
theorem Inv.unpinned {pins pl:List (Addr×Obj)}{σ:St}{H:Hp}{s:Shared} (I:Inv X (pins++pl) σ H s):Inv X pins σ H s:=I.pins_of fun p hp=>I.pin p (q0C _ (q0G _ hp))
theorem z0W {iter:Expr}{body:List Stmt}{wi:TI}{g:TG}{tb:TS}{pos:Pos} (hp:PassesOwn (model X.prog X.w) X.A X.env X.xe) (hc:X.calm=true) (hi:PI X tg iter wi) (hg:PG X tg g) (hb:PSs X body tb)
 (hs:∀x,foldedSetIterable iter X.env x=pure x:=by intro _;rfl):PS X (.For tg iter body [] pos) (tFor wi g tb):=by
 intro pins s σ H D I h
 refine wpAny_For (thn (hi pins s σ H _ I h) fun v s1 h1=>thn h1 fun itv s2 h2=>?_) hs
 obtain⟨it,fp,tn,J,H2,e,I2,T,st2,f2,W,⟨m0,w0⟩,turn⟩:=h2
 subst e
 have stat:∀{H':Hp},(∀b∈fp,H' b=none)→∀b∈fp,y0u X pins H' b:=fun hn b hb=>⟨hn b hb,(f2 b hb).2⟩
 refine codeAny_forLoop_any (fun n s'=>∃i σ' H',Inv X pins σ' H' s'∧tn i s'.heap∧(∀b∈fp,H' b=none)∧W i n σ' H') ?_ m0 ⟨0,σ,H2,I2,st2,fun b hb=>(f2 b hb).1,w0⟩
 rintro n s3 ⟨i,σ3,H3,I3,st3,fr3,w3⟩
 rcases turn i n σ3 H3 w3 with⟨stop,qn⟩|⟨go,N,hN,step⟩
 ·refine wpAny_passesOwn hp (thn (T.done X rfl rfl rfl hc i pins s3 σ3 H3 X.xe I3 (stat fr3) st3 stop) fun r s4 ⟨hr,I4⟩=>?_)
  subst hr
  exact wpAny_execs_nil ⟨σ3,H3,I4,qn⟩
 ·refine wpAny_passesOwn hp (thn (T.item X rfl rfl rfl hc i pins s3 σ3 H3 X.xe I3 (stat fr3) st3 go) fun r s4 ⟨u,hr,h4⟩=>?_)
  subst hr
  refine wpAny_passesOwn hp (thn h4 fun _ s5 ⟨x,H5,I5,r5,y5,st5,fr5⟩=>?_)
  have I5':=I5.pinned (stat fr5) (T.obj _ _ st5)
  refine wpAny_passesOwn hp (thn (hg _ s5 σ3 H5 x u _ I5' r5 (step x H5 y5)) fun _ s6 ⟨σ6,H6,I6,q6⟩=>?_)
  refine wpAny_passesOwn hp (thn (hb _ s6 σ6 H6 _ I6 q6) fun f s7 q7=>?_)
  have again:∀{σ7:St}{H7:Hp},Inv X (pins++z3z fp s5.heap) σ7 H7 s7→N σ7 H7→∃m,m<n∧∃i σ' H',Inv X pins σ' H' s7∧tn i s7.heap∧(∀b∈fp,H' b=none)∧W i m σ' H':=fun {σ7 H7} I7 n7=>by
   obtain⟨m',hm,w7⟩:=hN σ7 H7 n7
   refine⟨m',hm,i+1,σ7,H7,I7.unpinned,T.keep _ _ _ st5 fun b hb o e=>(I7.pin (b,o) (q0C _ (q0C _ (z0S hb e)))).1,fun b hb=>?_,w7⟩
   obtain⟨o,e,d⟩:=T.obj _ _ st5 b hb
   exact (I7.pin (b,o) (q0C _ (q0C _ (z0S hb e)))).2.1
  cases f with
  |next=>obtain⟨σ7,H7,I7,n7⟩:=q7;exact again I7 n7
  |cont=>obtain⟨σ7,H7,I7,n7⟩:=q7;exact again I7 n7
  |brk=>obtain⟨σ7,H7,I7,q7⟩:=q7;exact⟨σ7,H7,I7.unpinned,q7⟩
  |ret v=>obtain⟨x7,σ7,H7,I7,r7,q7⟩:=q7;exact⟨x7,σ7,H7,I7.unpinned,r7,q7⟩
end
theorem y3k {c:TT}{tb:TS}{D:y5l}{σ:St}{H:Hp} (Pv:St→Hp→Prop) (μ:St→Hp→Nat) (h0:Pv σ H)
 (hs:∀σ H,Pv σ H→c σ H fun b H1=>if b=true then tb {D with nx:=fun σ' H'=>Pv σ' H'∧μ σ' H'<μ σ H,ct:=fun σ' H'=>Pv σ' H'∧μ σ' H'<μ σ H,bk:=D.nx} σ H1 else D.nx σ H1)
 (mono:∀σ H Q Q',(∀b H1,Q b H1→Q' b H1)→c σ H Q→c σ H Q'):y4F c tb D σ H:=by
 refine⟨fun m σ H=>m=μ σ H∧Pv σ H,⟨_,rfl,h0⟩,?_⟩
 rintro m σ H ⟨rfl,p⟩
 refine mono σ H _ _ (fun b H1 q=>?_) (hs σ H p)
 cases b with
 |true=>exact⟨_,fun σ' H' ⟨p',l⟩=>⟨_,l,rfl,p'⟩,q⟩
 |false=>exact q
end L2
namespace L2
open PySem PySem.Spec PyProof.Rows
abbrev R2:=V→V→Hp→VK→Prop
def OpR (X:Cx) (f:Value→Value→Sem Value) (r:R2):Prop:=
 ∀(pins:List (Addr×Obj)) (s:Shared) (σ:St) (H:Hp) (x y:V) (v u:Value) (Q:VK),Inv X pins σ H s→RelV x v→RelV y u→r x y H Q→
  wpAny (model X.prog X.w) X.A (f v u) (EP X pins σ Q) X.xe s
def UnR (X:Cx) (f:Value→Sem Value) (r:V→Hp→VK→Prop):Prop:=
 ∀(pins:List (Addr×Obj)) (s:Shared) (σ:St) (H:Hp) (x:V) (v:Value) (Q:VK),Inv X pins σ H s→RelV x v→r x H Q→
  wpAny (model X.prog X.w) X.A (f v) (EP X pins σ Q) X.xe s
def z1A (X:Cx) (f:Value) (r:List V→Hp→VK→Prop):Prop:=
 ∀(pins:List (Addr×Obj)) (s:Shared) (σ:St) (H:Hp) (xs:List V) (us:List Value) (Q:VK),Inv X pins σ H s→Vals xs us→r xs H Q→
  wpAny (model X.prog X.w) X.A (call f us) (EP X pins σ Q) X.xe s
def tOp (r:R2) (ta tb:TE):TE:=fun σ H Q=>ta σ H fun x H1=>tb σ H1 fun y H2=>r x y H2 Q
def tUn (r:V→Hp→VK→Prop) (ta:TE):TE:=fun σ H Q=>ta σ H fun x H1=>r x H1 Q
def rI (C:Int→Int→Prop) (g:Int→Int→V):R2:=fun x y H Q=>∃i j,x= .int i∧y= .int j∧C i j∧Q (g i j) H
def rI0 (g:Int→Int→V):R2:=fun x y H Q=>∃i j,x= .int i∧y= .int j∧Q (g i j) H
def rU (g:Int→V):V→Hp→VK→Prop:=fun x H Q=>∃i,x= .int i∧Q (g i) H
section
variable {X:Cx}{a b c:Expr}{ta tb tc:TE}{pos:Pos}
theorem binT (ha:PE X a ta) (hb:PE X b tb) {pins:List (Addr×Obj)}{s:Shared}{σ:St}{H:Hp}{R:V→V→Hp→Prop} (I:Inv X pins σ H s)
 (h:ta σ H fun x H1=>tb σ H1 fun y H2=>R x y H2) {Q:Value→Shared→Prop}{f:Value→Value→Sem Value}
 (hf:∀v u s2 x y H2,Inv X pins σ H2 s2→RelV x v→RelV y u→R x y H2→wpAny (model X.prog X.w) X.A (f v u) Q X.xe s2):
 wpAny (model X.prog X.w) X.A (eval a X.env) (fun v s₁=>wpAny (model X.prog X.w) X.A (eval b X.env) (fun u s₂=>wpAny (model X.prog X.w) X.A (f v u) Q X.xe s₂) X.xe s₁) X.xe s:=by
 refine thn (ha pins s σ H _ I h) fun v s1 ⟨x,H1,I1,r1,q1⟩=>?_
 refine thn (hb pins s1 σ H1 _ I1 q1) fun u s2 ⟨y,H2,I2,r2,q2⟩=>?_
 exact hf v u s2 x y H2 I2 r1 r2 q2
theorem z0y {op:Operator}{r:R2} (ho:OpR X (binaryOp op) r) (ha:PE X a ta) (hb:PE X b tb):PE X (.BinOp a op b pos) (tOp r ta tb):=by
 intro pins s σ H Q I h
 exact wpAny_BinOp (binT ha hb I h fun v u s2 x y H2 I2 rx ry q=>ho pins s2 σ H2 x y v u Q I2 rx ry q)
theorem z1Z {op:UnaryOp}{r:V→Hp→VK→Prop} (ho:UnR X (unaryOp op) r) (ha:PE X a ta):PE X (.UnaryOp op a pos) (tUn r ta):=by
 intro pins s σ H Q I h
 exact UnaryOp_ (thn (ha pins s σ H _ I h) fun v s1 ⟨x,H1,I1,r1,q1⟩=>ho pins s1 σ H1 x v Q I1 r1 q1)
theorem opI {f:Value→Value→Sem Value}{C:Int→Int→Prop}{g:Int→Int→Int}
 (rule:∀(i j:Int) (t u:Tok) (s:Shared) (Q:Value→Shared→Prop) (E:Value→Shared→Prop),C i j→Q (.int (g i j) s.toks) {s with toks:=s.toks+1}→wpAny (model X.prog X.w) X.A (f (.int i t) (.int j u)) Q E s):
 OpR X f (rI C fun i j=> .int (g i j)):=by
 intro pins s σ H x y v u Q I rx ry h
 obtain⟨i,j,rfl,rfl,hc,q⟩:=h
 obtain⟨t,rfl⟩:=rx
 obtain⟨t',rfl⟩:=ry
 exact rule i j t t' s _ _ hc ⟨.int (g i j),H,I.tok _,⟨_,rfl⟩,q⟩
theorem opI0 {f:Value→Value→Sem Value}{g:Int→Int→Int}
 (rule:∀(i j:Int) (t u:Tok) (s:Shared) (Q:Value→Shared→Prop) (E:Value→Shared→Prop),Q (.int (g i j) s.toks) {s with toks:=s.toks+1}→wpAny (model X.prog X.w) X.A (f (.int i t) (.int j u)) Q E s):
 OpR X f (rI0 fun i j=> .int (g i j)):=by
 intro pins s σ H x y v u Q I rx ry h
 obtain⟨i,j,rfl,rfl,q⟩:=h
 obtain⟨t,rfl⟩:=rx
 obtain⟨t',rfl⟩:=ry
 exact rule i j t t' s _ _ ⟨.int (g i j),H,I.tok _,⟨_,rfl⟩,q⟩
theorem opB0 {f:Value→Value→Sem Value}{g:Int→Int→Bool}
 (rule:∀(i j:Int) (t u:Tok) (s:Shared) (Q:Value→Shared→Prop) (E:Value→Shared→Prop),Q (.bool (g i j)) s→wpAny (model X.prog X.w) X.A (f (.int i t) (.int j u)) Q E s):
 OpR X f (rI0 fun i j=> .bl (g i j)):=by
 intro pins s σ H x y v u Q I rx ry h
 obtain⟨i,j,rfl,rfl,q⟩:=h
 obtain⟨t,rfl⟩:=rx
 obtain⟨t',rfl⟩:=ry
 exact rule i j t t' s _ _ ⟨.bl (g i j),H,I,rfl,q⟩
theorem z2A:OpR X (binaryOp .Add) (rI0 fun i j=> .int (i+j)):=opI0 fun _ _ _ _ _ _ _ q=>add_int q
theorem z4r:OpR X (binaryOp .Sub) (rI0 fun i j=> .int (i - j)):=opI0 fun _ _ _ _ _ _ _ q=>sub_int q
theorem y7o:OpR X (binaryOp .Mod) (rI (fun _ j=>0<j) fun i j=> .int (i%j)):=opI fun i j _ _ _ _ _ hc q=>by
 have h1:(0:Int)<j:=hc
 exact mod_int' (by lia) (by rw[Int.fmod_eq_emod_of_nonneg i (by lia)];exact q)
theorem y5Q:OpR X (binaryOp .Mod) (rI (fun _ j=>j≠0) fun i j=> .int (i.fmod j)):=opI fun _ _ _ _ _ _ _ hc q=>mod_int' hc q
theorem unI {f:Value→Sem Value}{g:Int→Int}
 (rule:∀(i:Int) (t:Tok) (s:Shared) (Q:Value→Shared→Prop) (E:Value→Shared→Prop),Q (.int (g i) s.toks) {s with toks:=s.toks+1}→wpAny (model X.prog X.w) X.A (f (.int i t)) Q E s):
 UnR X f (rU fun i=> .int (g i)):=by
 intro pins s σ H x v Q I rx h
 obtain⟨i,rfl,q⟩:=h
 obtain⟨t,rfl⟩:=rx
 exact rule i t s _ _ ⟨.int (g i),H,I.tok _,⟨_,rfl⟩,q⟩
theorem z1d:UnR X (unaryOp .USub) (rU fun i=> .int (-i)):=unI fun _ _ _ _ _ q=>neg_int q
end
def scal:V→V→Bool
 | .non,.non =>true| .non,.int _=>true| .int _,.non =>true| .non,.bl _=>true| .bl _,.non =>true| .non,.str _=>true| .str _,.non =>true
 | .int _,.int _=>true| .bl _,.bl _=>true| .str _,.str _=>true| .byt _,.byt _=>true
 | .int _,.str _=>true| .str _,.int _=>true| .bl _,.str _=>true| .str _,.bl _=>true
 |_,_=>false
def rEq:R2:=fun x y H Q=>scal x y=true∧Q (.bl (decide (x=y))) H
def rNe:R2:=fun x y H Q=>scal x y=true∧Q (.bl (!decide (x=y))) H
theorem z2m {i j:Int}:decide (V.int i=V.int j)=(i==j):=by
 rw[q1i]
 simp
theorem y5g {i j:Bool}:decide (V.bl i=V.bl j)=(i==j):=by
 rw[q1i]
 simp
theorem y2H {i j:Str}:decide (V.str i=V.str j)=(i==j):=by
 rw[q1i]
 simp
theorem y2I {i j:Array UInt8}:decide (V.byt i=V.byt j)=(i.toList==j.toList):=by
 rw[q1i]
 cases i
 cases j
 simp
section
variable {X:Cx}{a b c:Expr}{ta tb tc:TE}{pos:Pos}
theorem z0L {pins:List (Addr×Obj)}{σ:St}{H:Hp}{s:Shared}{Q:VK}{k k':Bool} (I:Inv X pins σ H s) (q:Q (.bl k) H) (e:k=k'):EP X pins σ Q (.bool k') s:=by
 subst e
 exact⟨.bl k,H,I,rfl,q⟩
theorem z4M:OpR X (compareOp .Eq) rEq:=by
 intro pins s σ H x y v u Q I rx ry h
 obtain⟨hs,q⟩:=h
 cases x with
 |non=>
  cases rx
  cases y with
  |non=>cases ry;exact PySem.EqNone.eq_none_none (z0L I q (by simp))
  |bl j=>cases ry;exact PySem.EqNone.eq_none_bool (z0L I q (by simp))
  |int j=>obtain⟨t',rfl⟩:=ry;exact PySem.EqNone.eq_none_int (z0L I q (by simp))
  |str j=>obtain⟨t',rfl⟩:=ry;exact PySem.EqNone.eq_none_str (z0L I q (by simp))
  |_=>exact absurd (show false=true from hs) Bool.false_ne_true
 |bl i=>
  cases rx
  cases y with
  |non=>cases ry;exact PySem.EqNone.eq_bool_none (z0L I q (by simp))
  |bl j=>cases ry;exact eq_bool (z0L I q y5g)
  |str j=>obtain⟨t',rfl⟩:=ry;exact PySem.EqMixed.eq_bool_str (z0L I q (by simp))
  |_=>exact absurd (show false=true from hs) Bool.false_ne_true
 |int i=>
  obtain⟨t,rfl⟩:=rx
  cases y with
  |non=>cases ry;exact PySem.EqNone.eq_int_none (z0L I q (by simp))
  |int j=>obtain⟨t',rfl⟩:=ry;exact eq_int (z0L I q z2m)
  |str j=>obtain⟨t',rfl⟩:=ry;exact PySem.EqMixed.eq_int_str (z0L I q (by simp))
  |_=>exact absurd (show false=true from hs) Bool.false_ne_true
 |str i=>
  obtain⟨t,rfl⟩:=rx
  cases y with
  |non=>cases ry;exact PySem.EqNone.eq_str_none (z0L I q (by simp))
  |bl j=>cases ry;exact PySem.EqMixed.eq_str_bool (z0L I q (by simp))
  |int j=>obtain⟨t',rfl⟩:=ry;exact PySem.EqMixed.eq_str_int (z0L I q (by simp))
  |str j=>obtain⟨t',rfl⟩:=ry;exact eq_str (z0L I q y2H)
  |_=>exact absurd (show false=true from hs) Bool.false_ne_true
 |byt i=>
  obtain⟨t,rfl⟩:=rx
  cases y with
  |byt j=>obtain⟨t',rfl⟩:=ry;exact PySem.W.eq_bytes (z0L I q y2I)
  |_=>exact absurd (show false=true from hs) Bool.false_ne_true
 |_=>cases y<;>exact absurd (show false=true from hs) Bool.false_ne_true
theorem y1A:OpR X (compareOp .NotEq) rNe:=by
 intro pins s σ H x y v u Q I rx ry h
 obtain⟨hs,q⟩:=h
 cases x with
 |non=>
  cases rx
  cases y with
  |non=>cases ry;exact PySem.EqNone.ne_none_none (z0L I q (by simp))
  |bl j=>cases ry;exact PySem.EqNone.ne_none_bool (z0L I q (by simp))
  |int j=>obtain⟨t',rfl⟩:=ry;exact PySem.EqNone.ne_none_int (z0L I q (by simp))
  |str j=>obtain⟨t',rfl⟩:=ry;exact PySem.EqNone.ne_none_str (z0L I q (by simp))
  |_=>exact absurd (show false=true from hs) Bool.false_ne_true
 |bl i=>
  cases rx
  cases y with
  |non=>cases ry;exact PySem.EqNone.ne_bool_none (z0L I q (by simp))
  |bl j=>cases ry;exact ne_bool (z0L I q (congrArg not y5g))
  |str j=>obtain⟨t',rfl⟩:=ry;exact PySem.EqMixed.ne_bool_str (z0L I q (by simp))
  |_=>exact absurd (show false=true from hs) Bool.false_ne_true
 |int i=>
  obtain⟨t,rfl⟩:=rx
  cases y with
  |non=>cases ry;exact PySem.EqNone.ne_int_none (z0L I q (by simp))
  |int j=>obtain⟨t',rfl⟩:=ry;exact ne_int (z0L I q (congrArg not z2m))
  |str j=>obtain⟨t',rfl⟩:=ry;exact PySem.EqMixed.ne_int_str (z0L I q (by simp))
  |_=>exact absurd (show false=true from hs) Bool.false_ne_true
 |str i=>
  obtain⟨t,rfl⟩:=rx
  cases y with
  |non=>cases ry;exact PySem.EqNone.ne_str_none (z0L I q (by simp))
  |bl j=>cases ry;exact PySem.EqMixed.ne_str_bool (z0L I q (by simp))
  |int j=>obtain⟨t',rfl⟩:=ry;exact PySem.EqMixed.ne_str_int (z0L I q (by simp))
  |str j=>obtain⟨t',rfl⟩:=ry;exact ne_str (z0L I q (congrArg not y2H))
  |_=>exact absurd (show false=true from hs) Bool.false_ne_true
 |byt i=>
  obtain⟨t,rfl⟩:=rx
  cases y with
  |byt j=>obtain⟨t',rfl⟩:=ry;exact PySem.W.ne_bytes (z0L I q (congrArg not y2I))
  |_=>exact absurd (show false=true from hs) Bool.false_ne_true
 |_=>cases y<;>exact absurd (show false=true from hs) Bool.false_ne_true
theorem y3P:OpR X (compareOp .Lt) (rI0 fun i j=> .bl (decide (i<j))):=opB0 fun _ _ _ _ _ _ _ q=>lt_int q
theorem op_le:OpR X (compareOp .LtE) (rI0 fun i j=> .bl (decide (i≤j))):=opB0 fun _ _ _ _ _ _ _ q=>le_int q
theorem y1C:OpR X (compareOp .Gt) (rI0 fun i j=> .bl (decide (j<i))):=opB0 fun _ _ _ _ _ _ _ q=>gt_int q
theorem z0M (b:Expr) {op:CmpOp} (h:op≠ .In :=by decide) (h2:op≠ .NotIn :=by decide):behindInMarks op b=false:=by
 have e1:(op==CmpOp.In)=false:=by cases op<;>first|rfl|exact absurd rfl h
 have e2:(op==CmpOp.NotIn)=false:=by cases op<;>first|rfl|exact absurd rfl h2
 cases b<;>simp[behindInMarks,e1,e2]
theorem z4n {op:CmpOp}{r:R2} (ho:OpR X (compareOp op) r) (ha:PE X a ta) (hb:PE X b tb) (hm:behindInMarks op b=false):PE X (.Compare a [op] [b] pos) (tOp r ta tb):=by
 intro pins s σ H Q I h
 exact wpAny_Compare1 (binT ha hb I h fun v u s2 x y H2 I2 rx ry q=>ho pins s2 σ H2 x y v u Q I2 rx ry q) hm
def tTest (t:TE):TT:=fun σ H Q=>t σ H fun x H'=>∃k,x= .bl k∧Q k H'
theorem z0D {op:CmpOp}{r:R2} (ho:OpR X (compareOp op) r) (ha:PE X a ta) (hb:PE X b tb) (hm:behindInMarks op b=false):PT X (.Compare a [op] [b] pos) (tTest (tOp r ta tb)):=by
 intro pins s σ H Q I h
 refine wpAny_isTrue_Compare1 (thn (ha pins s σ H _ I h) fun v s1 ⟨x,H1,I1,r1,q1⟩=>thn (hb pins s1 σ H1 _ I1 q1) fun u s2 ⟨y,H2,I2,r2,q2⟩=>
  thn (ho pins s2 σ H2 x y v u _ I2 r1 r2 q2) fun c s3 ⟨z,H3,I3,r3,k,e,q3⟩=>?_) hm
 subst e
 cases r3
 exact wpAny_truthy_bool ⟨H3,I3,q3⟩
theorem z8W:(sizeLine:Nat)<2^63:=by rw[sizeLine_eq];decide
theorem z5o {x:V}{us:List Value} (r:Vals [x] us):∃u,us=[u]∧RelV x u:=by
 cases r with
 |cons r1 r2=>cases r2;exact⟨_,rfl,r1⟩
theorem y3m {x y:V}{us:List Value} (r:Vals [x,y] us):∃u w',us=[u,w']∧RelV x u∧RelV y w':=by
 cases r with
 |cons r1 r2=>
  cases r2 with
  |cons r3 r4=>cases r4;exact⟨_,_,rfl,r1,r3⟩
theorem z9q:z1A X (.builtin "abs") (fun xs H Q=>∃i,xs=[.int i]∧Q (.int (if i<0 then -i else i)) H):=by
 intro pins s σ H xs us Q I r h
 obtain⟨i,rfl,q⟩:=h
 obtain⟨u,rfl,t,rfl⟩:=z5o r
 exact call_abs_int fun u tk=>⟨.int (if i<0 then -i else i),H,I.tok _,⟨_,rfl⟩,q⟩
theorem z7h (hc:X.calm=true):z1A X (.builtin "max") (fun xs H Q=>∃i j,xs=[.int i,.int j]∧Q (.int (if j>i then j else i)) H):=by
 intro pins s σ H xs us Q I r h
 obtain⟨i,j,rfl,q⟩:=h
 obtain⟨u,w',rfl,⟨t,rfl⟩,⟨t',rfl⟩⟩:=y3m r
 refine max_two_ints (I.ok.hd hc) fun h' tk k=>⟨_,H,I.kept k,?_,q⟩
 by_cases hj:j>i
 ·rw[if_pos hj,if_pos hj];exact⟨_,rfl⟩
 ·rw[if_neg hj,if_neg hj];exact⟨_,rfl⟩
theorem z7g (hc:X.calm=true):z1A X (.builtin "min") (fun xs H Q=>∃i j,xs=[.int i,.int j]∧Q (.int (if j<i then j else i)) H):=by
 intro pins s σ H xs us Q I r h
 obtain⟨i,j,rfl,q⟩:=h
 obtain⟨u,w',rfl,⟨t,rfl⟩,⟨t',rfl⟩⟩:=y3m r
 refine min_two_ints (I.ok.hd hc) fun h' tk k=>⟨_,H,I.kept k,?_,q⟩
 by_cases hj:j<i
 ·rw[if_pos hj,if_pos hj];exact⟨_,rfl⟩
 ·rw[if_neg hj,if_neg hj];exact⟨_,rfl⟩
theorem y2V:z1A X (.type "int") (fun xs H Q=>(∃i,xs=[.int i]∧Q (.int i) H)∨∃k,xs=[.bl k]∧Q (.int (if k then 1 else 0)) H):=by
 intro pins s σ H xs us Q I r h
 rcases h with⟨i,rfl,q⟩|⟨k,rfl,q⟩
 ·obtain⟨u,rfl,t,rfl⟩:=z5o r
  exact call_int_int ⟨.int i,H,I,⟨_,rfl⟩,q⟩
 ·obtain⟨u,rfl,r1⟩:=z5o r
  cases r1
  exact call_int_bool ⟨.int (if k then 1 else 0),H,I.tok _,⟨_,rfl⟩,q⟩
end
end L2
namespace L2
open PySem PySem.Spec PyProof.Rows
structure ObjM (h:Heap) (x dx C:Addr) (mA:Str→Option Value):Prop where
 obj:h.get? x=some (PySem.W.instObj C dx)
 ns:h.Ns1 dx mA
 ne:dx≠x
theorem y1Y {h:Heap}{dx:Addr}{mA:Str→Option Value} (n:h.Ns1 dx mA):∃od,h.get? dx=some od∧∀name,PySem.W.lookIn name od=some (mA name):=by
 obtain⟨o,es,ep,ho,hd,hk,_,hm⟩:=n
 refine⟨o,ho,fun name=>?_⟩
 have e:=hm name
 unfold nsFind findBy at e
 rw[←Array.find?_toList] at e
 unfold PySem.W.lookIn
 rw[hd]
 dsimp only
 split
 ·rename_i y q
  rw[q] at e
  exact congrArg some e
 ·rename_i q
  rw[q] at e
  have a:es.toList.any (·.refKey)=false:=by
   rw[List.any_eq_false]
   intro y hy
   obtain⟨z,t,hkey⟩:=hk y (Array.mem_toList_iff.mp hy)
   simp[DictEntry.refKey,hkey]
  have a':¬es.toList.any (·.refKey)=true:=by rw[a];exact q0F
  rw[if_neg a']
  exact congrArg some e
theorem ObjM.look {h:Heap}{x dx C:Addr}{mA:Str→Option Value} (I:ObjM h x dx C mA):∃od,PySem.W.InstAt h x (PySem.W.instObj C dx) C (some od)∧∀name,PySem.W.lookIn name od=some (mA name):=
 let ⟨od,ho,hl⟩:=y1Y I.ns
 ⟨od,⟨I.obj,rfl,rfl,ho⟩,hl⟩
section
variable {prog:Program}{w:World}{A:Around}{E:Value→Shared→Prop}{s:Shared}{K:PySem.W.Frag}{x dx C f:Addr}{mA:Str→Option Value}{name:Str}{v:Value}
end
section
variable {P:Program}{w:World}{H H':Hp}{h h':Heap}{a C dx:Addr}{fs fs':List (Str×V)}
theorem y6j (hok:HOk P w H h) (e:H a=some (.ins C dx fs)):∃mA,ObjM h a dx C mA∧(∀f,RelO (fs.lookup f) (mA f))∧PySem.Within mA (fs.map (·.1))∧fs.length≤1000∧H dx=some (.own a):=by
 obtain⟨d,z,ne,ob,mA,n,r,q⟩:=(show ObjOk P w H h a (.ins C dx fs) from hok a _ e)
 exact⟨mA,⟨ob,n,ne⟩,r,q,z,d⟩
end
structure Cls (K:PySem.W.Frag) (C:Addr):Prop where
 pg:PySem.W.plainGet K C Str.empty=true
 hd:PySem.W.hasDictIn K C=true
 po:PySem.W.plainOver K C=true
 sa:PySem.W.findIn K (.ref C) "__setattr__"=some (some (.builtin "object.__setattr__"))
theorem Cls.get {K:PySem.W.Frag}{C:Addr} (c:Cls K C) (f:Str):PySem.W.plainGet K C f=true:=c.pg
section
variable {X:Cx}{pins:List (Addr×Obj)}{σ:St}{H:Hp}{s:Shared}{a C dx:Addr}{fs:List (Str×V)}{f:Str}{v:V}{A:Around}{E:Value→Shared→Prop}
end
section
variable {X:Cx}{o e value:Expr}{f:Str}{pos pos' tpos:Pos}{ta tv:TE}
end
section
variable {X:Cx}{pins:List (Addr×Obj)}{σ:St}{H:Hp}{s:Shared}{A:Around}{E:Value→Shared→Prop}{Q:Value→Shared→Prop}{c:Value}{b:Bool}
inductive y0t (K:PySem.W.Frag) (H:Hp):V→Value→Prop where
 |non:y0t K H .non (.type "NoneType")
 |bl (x:Bool):y0t K H (.bl x) (.type "bool")
 |int (i:Int):y0t K H (.int i) (.type "int")
 |str (x:Str):y0t K H (.str x) (.type "str")
 |flt (x:UInt64):y0t K H (.flt x) (.type "float")
 |lst {a:Addr}{xs:List V} (e:H a=some (.lst xs)):y0t K H (.ref a) (.type "list")
 |frz {a:Addr}{o:Obj}{xs:List V} (e:H a=some (.frz o (.lst xs))):y0t K H (.ref a) (.type "list")
 |tup {a:Addr}{xs:List V} (e:H a=some (.tup xs)):y0t K H (.ref a) (.type "tuple")
 |dK {a:Addr}{kvs:List (Key×V)} (e:H a=some (.dK kvs)):y0t K H (.ref a) (.type "dict")
 |dT {a:Addr}{kvs:List (List Key×V)} (e:H a=some (.dT kvs)):y0t K H (.ref a) (.type "dict")
 |ins {a C dx:Addr}{fs:List (Str×V)} (e:H a=some (.ins C dx fs)) (cl:Cls K C) (ha:PySem.W.findIn K (.ref C) "__class__"=some (some (.builtin "object.__class__")))
  (hn:PySem.W.specialIn K (.builtin "object.__class__") "__get__"=some (some (.builtin "getset_descriptor.__get__"))) (htk:PySem.W.takesIn K (.builtin "object.__class__")=some true)
  (hm:PySem.W.mroIn K C (.type "object")=some true):y0t K H (.ref a) (.ref C)
theorem y2h {x:V}{u t:Value} (I:Inv X pins σ H s) (rx:RelV x u) (ty:y0t X.K H x t) (e:PySem.W.kitOne X.K t c=some b) (h:∀tk,Q (.bool b) {s with toks:=tk}):
 wpAny (model X.prog X.w) A (call (.builtin "isinstance") [u,c]) Q E s:=by
 cases ty with
 |non=>cases (show u=Value.none from rx);exact PySem.W.kia_one PySem.W.kitx_none I.kIn True.intro e (fun z=>nomatch z) h
 |bl y=>cases (show u=Value.bool y from rx);exact PySem.W.kia_one PySem.W.kitx_bool I.kIn True.intro e (fun z=>nomatch z) h
 |int i=>obtain⟨t,q⟩:=(show ∃t,u=Value.int i t from rx);cases q;exact PySem.W.kia_one PySem.W.kitx_int I.kIn True.intro e (fun z=>nomatch z) h
 |str y=>obtain⟨t,q⟩:=(show ∃t,u=Value.str y t from rx);cases q;exact PySem.W.kia_one PySem.W.kitx_str I.kIn True.intro e (fun z=>nomatch z) h
 |flt y=>obtain⟨t,q⟩:=(show ∃t,u=Value.float y t from rx);cases q;exact PySem.W.kia_one PySem.W.kitx_float I.kIn True.intro e (fun z=>nomatch z) h
 | @lst a xs ea=>
   cases (show u=Value.ref a from rx)
   obtain⟨_,_,n,_,h1⟩:=(show ObjOk X.prog X.w H s.heap a (.lst xs) from I.hok a _ ea)
   exact q1D PySem.W.kitx_list I.kIn ⟨_,h1,rfl⟩ e (fun z=>nomatch z) h
 | @frz a ob xs ea=>
   cases (show u=Value.ref a from rx)
   obtain⟨_,_,_,n,_,h1⟩:=(show ObjOk X.prog X.w H s.heap a (.frz ob (.lst xs)) from I.hok a _ ea)
   exact q1D PySem.W.kitx_list I.kIn ⟨_,h1,rfl⟩ e (fun z=>nomatch z) h
 | @tup a xs ea=>
   cases (show u=Value.ref a from rx)
   obtain⟨_,_,_,p⟩:=(show ObjOk X.prog X.w H s.heap a (.tup xs) from I.hok a _ ea)
   obtain⟨o,h1,h2,_⟩:=p
   exact q1D PySem.W.kitx_tuple I.kIn ⟨o,h1,h2⟩ e (fun z=>nomatch z) h
 | @dK a kvs ea=>
   cases (show u=Value.ref a from rx)
   obtain⟨_,_,vs,_,p⟩:=(show ObjOk X.prog X.w H s.heap a (.dK kvs) from I.hok a _ ea)
   obtain⟨o,es,ep,h1,h2,_⟩:=p
   exact q1D PySem.W.kitx_dict I.kIn ⟨o,h1,h2.1⟩ e (fun z=>nomatch z) h
 | @dT a kvs ea=>
   cases (show u=Value.ref a from rx)
   obtain⟨_,_,xs,_,o,es,ep,h1,h2,_⟩:=(show ObjOk X.prog X.w H s.heap a (.dT kvs) from I.hok a _ ea)
   exact q1D PySem.W.kitx_dict I.kIn ⟨o,h1,h2.1⟩ e (fun z=>nomatch z) h
 | @ins a C dx fs ea cl ha hn htk hm=>
   cases (show u=Value.ref a from rx)
   obtain⟨mA,O,_⟩:=y6j I.hok ea
   obtain⟨od,J,_⟩:=O.look
   exact q1D (PySem.W.kitx_own (cl.get _) cl.hd ha hn htk hm) I.kIn J e (fun z=>nomatch z) h
end
end L2
namespace L2
open PySem PySem.Spec PyProof.Rows
structure Room (k:Nat) (A:Around):Prop where
 hd:A.handled=none
 dp:A.depth+3*k+5<recursionLimit
 un:A.units+16*k+200<cLine
theorem Room.mono {j k:Nat}{A:Around} (r:Room k A) (h:j≤k):Room j A:=⟨r.hd,by have:=r.dp;lia,by have:=r.un;lia⟩
theorem Room.deeper {k:Nat}{A:Around} (r:Room (k+1) A) (env:Env):Room k (A.deeper env):=
 ⟨r.hd,by have:=r.dp;show A.depth+1+3*k+5<_;lia,by have:=r.un;show A.units+3+16*k+200<_;lia⟩
theorem Room.in1 {k:Nat}{A:Around} (r:Room (k+1) A):Room k A.in1:=
 ⟨r.hd,by have:=r.dp;show A.depth+3*k+5<_;lia,by have:=r.un;show A.units+1+16*k+200<_;lia⟩
theorem Room.depth {k:Nat}{A:Around} (r:Room k A):A.depth<recursionLimit:=by have:=r.dp;lia
theorem Room.units {k:Nat}{A:Around} (r:Room k A):A.units+64<cLine:=by have:=r.un;lia
def tNil:TA:=fun _ H Q=>Q [] H
def y5t (ta:TE) (tr:TA):TA:=fun σ H Q=>ta σ H fun x H1=>tr σ H1 fun xs H2=>Q (x::xs) H2
section
variable {X:Cx}{e:Expr}{es:List Expr}{te:TE}{t:TA}{pos:Pos}
theorem z0c:PA X [] tNil:=fun _ _ _ _ H Q I h=>Calls.spliced_nil ⟨[],H,I,.nil,h⟩
theorem z0a (ha:PE X e te) (hr:PA X es t) (hs:starEach (e::es) X.env=(false,eval e X.env)::starEach es X.env:=by rfl):PA X (e::es) (y5t te t):=by
 intro pos pins s σ H Q I h
 rw[hs]
 show wpAny _ _ (spliced ((false,eval e X.env)::backTo pos (starEach es X.env))) _ _ s
 refine Calls.spliced_cons (thn (ha pins s σ H _ I h) fun u s1 ⟨x,H1,I1,r1,q1⟩=>?_)
 exact thn (hr pos pins s1 σ H1 _ I1 q1) fun us s2 ⟨xs,H2,I2,r2,q2⟩=>⟨x::xs,H2,I2,.cons r1 r2,q2⟩
def tTup (t:TA):TE:=fun σ H Q=>t σ H fun xs H1=>xs.length≤sizeLine∧∀p,H1 p=none→Q (.ref p) (upd H1 p (.tup xs))
def tLst (t:TA):TE:=fun σ H Q=>t σ H fun xs H1=>xs.length≤sizeLine∧∀p,H1 p=none→Q (.ref p) (upd H1 p (.lst xs))
theorem z1g {x1} (h:PA X es t):PE X (.Tuple es x1 pos) (tTup t):=by
 intro pins s σ H Q I hq
 refine wpAny_Tuple_spliced (thn (h pos pins s σ H _ I hq) fun us s1 ⟨xs,H1,I1,r,z,q⟩=>⟨by rw[←r.length];exact z,?_⟩)
 have hf:H1 s1.heap.objs.size=none:=I1.hok.fresh (q0i _)
 refine⟨.ref s1.heap.objs.size,upd H1 s1.heap.objs.size (.tup xs),I1.laid (t':=s1.toks) (fun b u e=>q0d _ e) (q0i _) ?_,rfl,q _ hf⟩
 exact⟨z,us,r,⟨_,q0s _ rfl,rfl,_,rfl⟩⟩
theorem z0K (h:PA X es t):PE X (.List es pos) (tLst t):=by
 intro pins s σ H Q I hq
 refine wpAny_List_spliced (thn (h pos pins s σ H _ I hq) fun us s1 ⟨xs,H1,I1,r,z,q⟩=>⟨by rw[←r.length];exact z,?_⟩)
 have hf:H1 s1.heap.objs.size=none:=I1.hok.fresh (q0i _)
 refine⟨.ref s1.heap.objs.size,upd H1 s1.heap.objs.size (.lst xs),I1.laid (t':=s1.toks) (fun b u e=>q0d _ e) (q0i _) ?_,rfl,q _ hf⟩
 exact⟨z,us,0,r,q0s _ rfl⟩
end
abbrev Sp:=List V→Hp→VK→XK→Prop
abbrev CXT:=List Env→Hp→Shared→XK→Value→Shared→Prop
structure Env0 (P:Program) (w:World) (K:PySem.W.Frag) (mg:Str→Option Value) (base:Heap) (A:Around) (outer:List Env) (s:Shared) (H:Hp):Prop where
 frames:A.frames=some outer
 mod:Mod K mg base
 bs:∀b o,base.get? b=some o→s.heap.get? b=some o∧H b=none
 bsz:base.objs.size≤s.heap.objs.size
 funs:s.heap.FunFrames base outer
 frf:∀b∈frs outer,H b=none
 hok:HOk P w H s.heap
 bare:AllBare s.gens
def CE (outer:List Env) (P:Program) (w:World) (H:Hp) (s:Shared) (Q:VK) (u:Value) (s':Shared):Prop:=
 ∃v H',s'.os=s.os∧AllBare s'.gens∧Un (frs outer) [] H H' s.heap s'.heap∧HOk P w H' s'.heap∧RelV v u∧Q v H'
def CR (CX:CXT) (outer:List Env) (P:Program) (w:World) (H:Hp) (s:Shared) (Q:VK) (E:XK) (r:Result) (s':Shared):Prop:=
 match r with
 | .ok (.ret u)=>CE outer P w H s Q u s'
 | .ok _=>False
 | .error e=>CX outer H s E e s'
structure FnOk (P:Program) (w:World) (K:PySem.W.Frag) (mg:Str→Option Value) (base:Heap) (CX:CXT) (k:Nat) (f:Addr) (fd:FuncData) (ps:List Str) (sp:Sp):Prop where
 len:∀vs H Q E,sp vs H Q E→vs.length=ps.length
 run:∀(A:Around) (outer:List Env) (s:Shared) (H:Hp) (args:Args) (us:List Value) (vs:List V) (Q:VK) (E:XK),Room k A→Env0 P w K mg base A outer s H→BindsTo s fd args (ps.zip us)→Vals vs us→sp vs H Q E→
  codeAny (model P w) A (.call (.ref f) args) (CR CX outer P w H s Q E) s
theorem FnOk.mono {P:Program}{w:World}{K:PySem.W.Frag}{mg:Str→Option Value}{base:Heap}{CX:CXT}{j k:Nat}{f:Addr}{fd:FuncData}{ps:List Str}{sp:Sp} (F:FnOk P w K mg base CX j f fd ps sp) (h:j≤k):
 FnOk P w K mg base CX k f fd ps sp:=⟨F.len,fun A outer s H args us vs Q E hr=>F.run A outer s H args us vs Q E (hr.mono h)⟩
theorem FnOk.imp {P:Program}{w:World}{K:PySem.W.Frag}{mg:Str→Option Value}{base:Heap}{CX:CXT}{k:Nat}{f:Addr}{fd:FuncData}{ps:List Str}{sp sp':Sp} (F:FnOk P w K mg base CX k f fd ps sp)
 (h:∀vs H Q E,sp' vs H Q E→sp vs H Q E):FnOk P w K mg base CX k f fd ps sp':=
 ⟨fun vs H Q E q=>F.len vs H Q E (h _ _ _ _ q),fun A outer s H args us vs Q E hr he hb hv hs=>F.run A outer s H args us vs Q E hr he hb hv (h _ _ _ _ hs)⟩
theorem Env0.in1 {P:Program}{w:World}{K:PySem.W.Frag}{mg:Str→Option Value}{base:Heap}{A:Around}{outer:List Env}{s:Shared}{H:Hp} (e:Env0 P w K mg base A outer s H):
 Env0 P w K mg base A.in1 outer s H:=⟨e.frames,e.mod,e.bs,e.bsz,e.funs,e.frf,e.hok,e.bare⟩
section
variable {X:Cx}{pins:List (Addr×Obj)}{σ:St}{H:Hp}{s s':Shared}
theorem Inv.env0 (I:Inv X pins σ H s):Env0 X.prog X.w X.K X.mg X.base X.A X.stack s H:=
 ⟨I.ok.frames,I.ok.mod,I.bs,q0m I.ok.bsz I.sz,I.stack,I.stkFree,I.hok,I.bare⟩
theorem Inv.after {Q:VK}{u:Value} (I:Inv X pins σ H s) (h:CE X.stack X.prog X.w H s Q u s'):EP X pins σ Q u s':=by
 obtain⟨v,H',os,bare,un,hok,r,q⟩:=h
 obtain⟨hh,g,d,t,os'⟩:=s'
 obtain rfl:os'=s.os:=os
 exact⟨v,H',I.call (h':=hh) (g':=g) (d':=d) (t':=t) (ch:=[]) un hok bare (fun b z=>absurd z (by simp)),r,q⟩
end
def y6R (sp:Sp) (dvs:List V) (E:XK) (t:TA):TE:=fun σ H Q=>t σ H fun vs H1=>sp (vs++dvs) H1 Q E
def Binds (K:PySem.W.Frag) (fd:FuncData) (ps:List Str) (ds:List Value):Prop:=
 ∀(s:Shared) (us:List Value),K.In s.heap→(us++ds).length =ps.length→BindsTo s fd ⟨us,[]⟩ (ps.zip (us++ds))
theorem Binds.all {K:PySem.W.Frag}{fd:FuncData}{ps:List Str} (h:∀us:List Value,us.length=ps.length→bindArgs fd ⟨us,[]⟩=pure (ps.zip us)):Binds K fd ps []:=fun s us _ hl=>by
 rw[q1F] at hl ⊢
 exact .of_eq (h us hl)
def y3e (CX:CXT) (X:Cx) (E:XK):Prop:=∀(pins:List (Addr×Obj)) (σ:St) (H:Hp) (s:Shared) (e:Value) (s':Shared),Inv X pins σ H s→CX X.stack H s E e s'→X.xe e s'
section
variable {X:Cx}{CX:CXT}{k:Nat}{f C:Addr}{fd:FuncData}{ps:List Str}{sp:Sp}{dvs:List V}{ds:List Value}{E:XK}{x m:Str}{p pos apos:Pos}{e o:Expr}{es:List Expr}{ta:TE}{t:TA}
theorem y6Y {pins:List (Addr×Obj)}{σ:St}{H:Hp}{s:Shared}{Q:VK}{us:List Value}{vs:List V} (F:FnOk X.prog X.w X.K X.mg X.base CX k f fd ps sp) (hr:Room k X.A) (hb:Binds X.K fd ps ds) (hd:Vals dvs ds) (hx:y3e CX X E)
 (I:Inv X pins σ H s) (r:Vals vs us) (h:sp (vs++dvs) H Q E):wpAny (model X.prog X.w) X.A (call (.ref f) us) (EP X pins σ Q) X.xe s:=by
 have r2:Vals (vs++dvs) (us++ds):=r.append hd
 have hl:(us++ds).length =ps.length:=by rw[←r2.length];exact F.len _ _ _ _ h
 refine wpAny_call (codeAny_mono (F.run X.A X.stack s H ⟨us,[]⟩ (us++ds) (vs++dvs) Q E hr I.env0 (hb s us I.kIn hl) r2 h) fun r s' hq=>?_)
 cases r with
 |error e=>exact hx pins σ H s e s' I hq
 |ok fl=>
  cases fl with
  |ret u=>exact I.after hq
  |next=>exact False.elim hq
  |brk=>exact False.elim hq
  |cont=>exact False.elim hq
theorem y5I (F:FnOk X.prog X.w X.K X.mg X.base CX k f fd ps sp) (hr:Room k X.A) (hg:Gl X x) (hm:X.mg x=some (.ref f)) (hk:PySem.W.keepIn X.K (.ref f)=true) (hb:Binds X.K fd ps ds) (hd:Vals dvs ds) (hx:y3e CX X E)
 (ha:PA X (e::es) t) (hdb:(x==("__debug__":Str))=false:=by decide) (he:starEach (e::es) X.env=(false,eval e X.env)::starEach es X.env:=by rfl) (hpl:(backTo pos (starEach es X.env)).any (·.1)=false:=by rfl):
 PE X (.Call (.Name x p) (e::es) [] pos) (y6R sp dvs E t):=by
 intro pins s σ H Q I h
 refine wpAny_Call_Name_kw (y2a I hg hm ?_ hdb)
 refine PySem.W.callWith_K (h₀:=X.base) I.ok.mod.kin hk (thn (ha pos pins s σ H _ I h) fun us s1 ⟨vs,H1,I1,r,q⟩=>⟨I1.kIn,?_⟩) he hpl
 exact y6Y F hr hb hd hx I1 r q
end
def PK (X:Cx) (kws:List Keyword) (t:TA):Prop:=
 ∀(pos:Pos) (pins:List (Addr×Obj)) (s:Shared) (σ:St) (H:Hp) (Q:List V→Hp→Prop),Inv X pins σ H s→t σ H Q→wpAny (model X.prog X.w) X.A (evalAll ((backToKw pos (keywordEach kws X.env)).map (·.2))) (AP X pins σ Q) X.xe s
section
variable {X:Cx}{CX:CXT}{k:Nat}{f C:Addr}{fd:FuncData}{ps ks:List Str}{sp:Sp}{E:XK}{x m:Str}{p pos apos kpos:Pos}{e o:Expr}{es:List Expr}{kws:List Keyword}{te ta:TE}{t tk:TA}{nm:Option Str}
theorem y7d:PK X [] tNil:=fun _ _ _ _ H Q I h=>wpAny_evalAll_nil ⟨[],H,I,.nil,h⟩
theorem y5E (ha:PE X e te) (hr:PK X kws t):PK X (⟨nm,e,kpos⟩::kws) (y5t te t):=by
 intro pos pins s σ H Q I h
 show wpAny _ _ (evalAll ((do let v ←eval e X.env;standAt pos;pure v)::(backToKw pos (keywordEach kws X.env)).map (·.2))) _ _ s
 refine wpAny_evalAll_cons (wpAny_bind (thn (ha pins s σ H _ I h) fun u s1 ⟨x,H1,I1,r1,q1⟩=>wpAny_bind (wpAny_standAt (wpAny_pure ?_))))
 exact thn (hr pos pins s1 σ H1 _ I1 q1) fun us s2 ⟨xs,H2,I2,r2,q2⟩=>⟨x::xs,H2,I2,.cons r1 r2,q2⟩
variable {g:List Value→List Value→List Value}{gV:List V→List V→List V}
end
structure z0u (N P:List Str) (sc:Scope):Prop where
 kind:sc.kind= .function
 co:sc.isCoroutine=false
 gen:sc.isGenerator=false
 nd:N.Nodup
 pre:N.take P.length=P
 par:∀x∈P,sc.names.lookup x=some .local ∨sc.names.lookup x=some .cell
 nofree:∀y∈sc.names,y.2≠ .free
theorem z7l {kindOf:Str→Option NameKind}{x:Str}:∀{binds:List (Str×Value)}{m:Str→Option Value},(∀v,(x,v)∉binds)→bindL kindOf binds m x=m x
 |[],_,_=>rfl
 |(n,v)::r,m,h=>by
  unfold bindL
  rw[z7l fun w hw=>h w (q0j _ hw)]
  split
  ·have:x≠n:=by rintro rfl;exact h v q0l
   simp[this]
  ·rfl
theorem z7n {kindOf:Str→Option NameKind}{x:Str}:∀{binds:List (Str×Value)}{m:Str→Option Value},(∀v,(x,v)∉binds)→bindC kindOf binds m x=m x
 |[],_,_=>rfl
 |(n,v)::r,m,h=>by
  unfold bindC
  rw[z7n fun w hw=>h w (q0j _ hw)]
  split
  ·rfl
  ·have:x≠n:=by rintro rfl;exact h v q0l
   simp[this]
theorem z7m {kindOf:Str→Option NameKind}{x:Str}{v:Value}:∀{P:List Str}{vs:List Value}{i:Nat}{m:Str→Option Value},P.Nodup→P[i]? =some x→vs[i]? =some v→kindOf x=some .local →
 bindL kindOf (P.zip vs) m x=some v
 |[],_,_,_,_,h,_,_=>by simp at h
 |_::_,[],_,_,_,_,h,_=>by simp at h
 |p::P,w::vs,0,m,nd,h1,h2,hk=>by
  simp at h1 h2;subst h1;subst h2
  show bindL kindOf ((p,w)::P.zip vs) m p=_
  unfold bindL
  rw[z7l fun v hv=>(q1E.mp nd).1 (List.of_mem_zip hv).1,if_pos hk]
  simp
 |p::P,w::vs,i+1,m,nd,h1,h2,hk=>by
  show bindL kindOf ((p,w)::P.zip vs) m x=_
  unfold bindL
  exact z7m (i:=i) (q1E.mp nd).2 (by simpa using h1) (by simpa using h2) hk
theorem z7o {kindOf:Str→Option NameKind}{x:Str}{v:Value}:∀{P:List Str}{vs:List Value}{i:Nat}{m:Str→Option Value},P.Nodup→P[i]? =some x→vs[i]? =some v→kindOf x≠some .local →
 bindC kindOf (P.zip vs) m x=some v
 |[],_,_,_,_,h,_,_=>by simp at h
 |_::_,[],_,_,_,_,h,_=>by simp at h
 |p::P,w::vs,0,m,nd,h1,h2,hk=>by
  simp at h1 h2;subst h1;subst h2
  show bindC kindOf ((p,w)::P.zip vs) m p=_
  unfold bindC
  rw[z7n fun v hv=>(q1E.mp nd).1 (List.of_mem_zip hv).1,if_neg hk]
  simp
 |p::P,w::vs,i+1,m,nd,h1,h2,hk=>by
  show bindC kindOf ((p,w)::P.zip vs) m x=_
  unfold bindC
  exact z7o (i:=i) (q1E.mp nd).2 (by simpa using h1) (by simpa using h2) hk
def z6t (N:List Str) (vs:List V):St:=vs.map some++List.replicate (N.length - vs.length) none
def y6I (CX:CXT) (P:Program) (w:World) (K:PySem.W.Frag) (mg:Str→Option Value) (base:Heap) (N:List Str) (qual:Str) (scope:Scope) (f:Addr) (cd:Value) (A:Around) (outer:List Env) (s:Shared) (H:Hp) (E:XK):Cx where
 prog:=P
 w:=w
 K:=K
 mg:=mg
 base:=base
 A:=A.deeper (envOfC qual scope s.heap.objs.size f cd)
 N:=N
 s₀:=s
 H₀:=H
 env:=envOfC qual scope s.heap.objs.size f cd
 outer:=outer
 stack:=envOfC qual scope s.heap.objs.size f cd::outer
 ex:=[]
 calm:=true
 fn:=fun _=>true
 pn:=[]
 xe:=fun e s'=>wpAny (model P w) (A.deeper (envOfC qual scope s.heap.objs.size f cd)) (leaving (envOfC qual scope s.heap.objs.size f cd) e) (fun _ s''=>CX outer H s E e s'') (fun e' s''=>CX outer H s E e' s'') s'
theorem z9p {sc:Scope}{n:Nat}{x:Str} (h:sc.names.lookup x=some .cell):∃c,(cellsFrom n sc.names []).lookup x=some c:=by
 have q:=PySem.W.cellsFrom_some sc.names n [] (.inl h)
 exact q1x.mp q
theorem y2i {CX:CXT}{P:Program}{w:World}{K:PySem.W.Frag}{mg:Str→Option Value}{base:Heap}{N ps:List Str}{qual:Str}{scope:Scope}{f:Addr}{cd:Value}{A:Around}{outer:List Env}{s s1:Shared}{H:Hp}{E:XK}{us:List Value}{vs:List V}
 (S:z0u N ps scope) (hd:A.handled=none) (e0:Env0 P w K mg base A outer s H) (hl:vs.length=ps.length) (r:Vals vs us)
 (x:InCallC s s.heap.objs.size (bindL (envOfC qual scope s.heap.objs.size f cd).kindOf (ps.zip us) fun _=>none) (cellsFrom (s.heap.objs.size+1) scope.names []) (bindC (envOfC qual scope s.heap.objs.size f cd).kindOf (ps.zip us) fun _=>none) s1):
 Inv (y6I CX P w K mg base N qual scope f cd A outer s H E) [] (z6t N vs) H s1:=by
 have hpl:ps.length≤N.length:=by have:=congrArg List.length S.pre;rw[q0w] at this;lia
 obtain⟨h1,tk,rfl,hk⟩:=x.done
 have noA:∀b:Addr,b∉(y6I CX P w K mg base N qual scope f cd A outer s H E).ex :=fun b z=>absurd (show b∈([]:List Addr) from z) (by simp)
 refine⟨⟨e0.mod,S.kind,rfl,rfl,q0i _,fun y z c h1 h2=>?_,fun y hy=>?_,fun y c _ h=>?_,fun _=>hd,Around.frames_deeper e0.frames,.inr ⟨rfl,rfl⟩,fun b z=>absurd z (noA b),e0.bs,e0.bsz,fun b _ _=>noA b,fun b z=>absurd z (noA b),e0.funs,e0.frf⟩,
  rfl,e0.bare,Un.kept hk,⟨_,x.toInCall.ns,fun i y v h1 h2 h3=>?_⟩,fun y c h=>⟨_,x.cell y c h⟩,e0.hok.fresh (q0i _),fun y c h=>?_,fun p hp=>absurd (show p∈([]:List (Addr×Obj)) from hp) (by simp),e0.hok.kept hk,?_⟩
 ·exact name_of_addr x.apart (PySem.mem_of_lookup h1) (PySem.mem_of_lookup h2)
 ·have hy:scope.names.lookup y=some .cell ∨scope.names.lookup y=some .free :=hy
  rcases hy with hy|hy
  ·exact z9p hy
  ·exact absurd rfl (S.nofree _ (PySem.mem_of_lookup hy))
 ·exact Nat.le_of_lt (x.above y c (PySem.mem_of_lookup h))
 ·have hi:i<vs.length:=by
   unfold z6t at h2
   by_cases hi:i<vs.length
   ·exact hi
   ·rw[q0v (by simpa using hi)] at h2
    rw[q2b] at h2
    split at h2<;>cases h2
  have ha:vs[i]? =some v:=by
   unfold z6t at h2
   rw[q0D (by simpa using hi),q0h] at h2
   cases e:vs[i]? with
   |none=>rw[e] at h2;cases h2
   |some a=>rw[e] at h2;cases h2;rfl
  obtain⟨u,hu,rv⟩:=r.get ha
  have hp:ps[i]? =some y:=by
   rw[←S.pre,q1V (by lia)];exact h1
  have ndP:ps.Nodup:=by rw[←S.pre];exact S.nd.sublist (List.take_sublist _ _)
  refine⟨u,rv,?_⟩
  rcases S.par y (q0A hp) with k|k
  ·exact .inl ⟨k,z7m ndP hp hu k⟩
  ·obtain⟨c,e⟩:=z9p (n:=s.heap.objs.size+1) k
   refine .inr ⟨.inl k,c,e,?_⟩
   have q:=x.cell y c e
   rw[z7o ndP hp hu (by show scope.names.lookup y≠_;rw[k];decide)] at q
   exact q
 ·exact e0.hok.fresh (Nat.le_of_lt (x.above y c (PySem.mem_of_lookup h)))
 ·unfold z6t
  show _=N.length
  rw[q0k,q0a,q1c]
  lia
theorem fn_of {CX:CXT}{P:Program}{w:World}{K:PySem.W.Frag}{mg:Str→Option Value}{base:Heap}{k:Nat}{f:Addr}{name qual:Str}{params:Arguments}{body:List Stmt}{scope:Scope}{dV kV doc pm cdv ct oc:Value}{an od:Option Addr}
 {osl:Array (Option Value)}{N ps:List Str}{sp:Sp} (lk:K.lookup f=some ⟨oc,od,.func (PySem.W.fnOf name qual params body scope dV kV doc pm an cdv ct),osl⟩) (hcd:PySem.W.codeIn K cdv qual=true) (S:z0u N ps scope)
 (len:∀vs H Q E,sp vs H Q E→vs.length=ps.length)
 (hbody:∀(A:Around) (outer:List Env) (s:Shared) (H:Hp) (vs:List V) (Q:VK) (E:XK),Room k (A.deeper (envOfC qual scope s.heap.objs.size f cdv))→sp vs H Q E→
  ∃t,PSs (y6I CX P w K mg base N qual scope f cdv A outer s H E) body t∧t {nx:=fun _ H'=>Q .non H',rt:=Q} (z6t N vs) H):
 FnOk P w K mg base CX (k+1) f (PySem.W.fnOf name qual params body scope dV kV doc pm an cdv ct) ps sp:=by
 refine⟨len,fun A outer s H args us vs Q E hr e0 hb r hsp=>?_⟩
 have hl:=len _ _ _ _ hsp
 have KX:K.In s.heap:=e0.mod.kin.keeps fun b o e=>(e0.bs b o e).1
 have lim:s.heap.NoLimit:=e0.mod.nolimit.keeps fun b o e=>(e0.bs b o e).1
 have hkind:∀y∈ps.zip us,scope.names.lookup y.1=some .local ∨(scope.names.lookup y.1=some .cell ∧((cellsFrom (s.heap.objs.size+1) scope.names []).lookup y.1).isSome =true):=fun⟨n,v⟩ hy=>by
  rcases S.par n (List.of_mem_zip hy).1 with q|q
  ·exact .inl q
  ·exact .inr ⟨q,PySem.W.cellsFrom_some _ _ _ (.inl q)⟩
 refine codeAny_call_function hr.depth (KX _ _ lk) rfl S.co S.gen rfl (PySem.W.codeRec_of KX hcd) (hb _ _ _ _ ?_)
 refine wpAny_newFunctionEnv_cells S.kind hkind fun env he s1 x=>?_
 subst he
 refine⟨lim.keeps x.toInCall.keep,codeAny_func ?_⟩
 obtain⟨t,ht,hq⟩:=hbody A outer s H vs Q E (hr.deeper _) hsp
 have I:Inv (y6I CX P w K mg base N qual scope f cdv A outer s H E) [] (z6t N vs) H s1:=y2i S hr.hd e0 hl r x
 refine wpAny_mono (ht [] s1 (z6t N vs) H _ I hq) (fun fl s' hs=>?_) fun e s' hs=>hs
 have fin:∀{σ':St}{H':Hp}{v:V}{u:Value},Inv (y6I CX P w K mg base N qual scope f cdv A outer s H E) [] σ' H' s'→RelV v u→Q v H'→CE outer P w H s Q u s':=
  fun {σ' H' v u} J rv q=>⟨v,H',J.os,J.bare,J.base,J.hok,rv,q⟩
 cases fl with
 |ret u=>
  obtain⟨v,σ',H',J,rv,q⟩:=hs
  exact fin J rv q
 |next=>
  obtain⟨σ',H',J,q⟩:=hs
  exact fin (v:=V.non) (u:=Value.none) J rfl q
 |brk=>
  obtain⟨_,_,_,q⟩:=hs
  exact False.elim q
 |cont=>
  obtain⟨_,_,_,q⟩:=hs
  exact False.elim q
end L2
namespace L2
open PySem PySem.Spec PyProof.Rows
section
variable {X:Cx}{x:Str}{p pos:Pos}{e:Expr}{es:List Expr}{t:TA}{id T:String}{r:List V→Hp→VK→Prop}
def tCB (r:List V→Hp→VK→Prop) (t:TA):TE:=fun σ H Q=>t σ H fun vs H1=>r vs H1 Q
theorem z0A (hc:z1A X (.builtin id) r) (hg:Gl X x) (hm:X.mg x=none) (hv:bootBuiltins x=some (.builtin id)) (ha:PA X (e::es) t) (hn:x≠"__name__":=by decide) (hdb:(x==("__debug__":Str))=false:=by decide)
 (he:starEach (e::es) X.env=(false,eval e X.env)::starEach es X.env:=by rfl) (hpl:(backTo pos (starEach es X.env)).any (·.1)=false:=by rfl):PE X (.Call (.Name x p) (e::es) [] pos) (tCB r t):=by
 intro pins s σ H Q I h
 refine wpAny_Call_Name_kw (z2X I hg hm hv ?_ hn hdb)
 exact PyProof.Rows.callWith_builtin1 (thn (ha pos pins s σ H _ I h) fun us s1 ⟨vs,H1,I1,r1,q1⟩=>hc pins s1 σ H1 vs us Q I1 r1 q1) he hpl
theorem z0T (hc:z1A X (.type T) r) (hg:Gl X x) (hm:X.mg x=none) (hv:bootBuiltins x=some (.type T)) (ha:PA X (e::es) t) (hn:x≠"__name__":=by decide) (hdb:(x==("__debug__":Str))=false:=by decide)
 (he:starEach (e::es) X.env=(false,eval e X.env)::starEach es X.env:=by rfl) (hpl:(backTo pos (starEach es X.env)).any (·.1)=false:=by rfl):PE X (.Call (.Name x p) (e::es) [] pos) (tCB r t):=by
 intro pins s σ H Q I h
 refine wpAny_Call_Name_kw (z2X I hg hm hv ?_ hn hdb)
 exact PyProof.Rows.callWith_type1 (thn (ha pos pins s σ H _ I h) fun us s1 ⟨vs,H1,I1,r1,q1⟩=>hc pins s1 σ H1 vs us Q I1 r1 q1) he hpl
end
end L2
namespace HT
open PySem PyProof.Rows
section
open PySem.SeqAt
open PySem.AutoSeq1 (wpAny_loadPart')
open PySem.MeetsSeq PySem.MeetsSeq2 PySem.MeetsSeq3
end
section
variable {prog:Program}{w:World}{A:Around}{E:Value→Shared→Prop}{s:Shared}
theorem cat_tup {t b:Addr}{vs ws:List Value}{Q:Value→Shared→Prop} (ht:IsTup s.heap t vs.toArray) (hb:IsTup s.heap b ws.toArray) (hv:vs≠[])
 (h1:ws=[]→Q (.ref t) s) (h2:ws≠[]→Q (.ref s.heap.objs.size) {s with heap:=s.heap.push {cls:= .type "tuple",data:= .seq (vs++ws).toArray}})
 (hsz:vs.length+ws.length≤sizeLine):wpAny (model prog w) A (binaryOp .Add (.ref t) (.ref b)) Q E s:=by
 obtain⟨⟨cls,dd,data,sl⟩,ho,hc,n,hd⟩:=id ht
 obtain⟨⟨cls2,dd2,data2,sl2⟩,ho2,hc2,n2,hd2⟩:=id hb
 simp only at hc hd hc2 hd2
 subst hc hd hc2 hd2
 have e:vs.toArray++ws.toArray=(vs++ws).toArray :=by simp
 by_cases hw:ws=[]
 ·exact concat_meets ⟨_,ho,rfl⟩ ⟨_,ho2,rfl⟩ noFill_tuple_add seq_tuple_add PySem.F.slot_tuple_add PySem.F.entry_tuple_add (PySem.F.args_tuple_add_2 _ _)
   (tuple_addW1 t b vs.toArray ws.toArray n n2 dd dd2 sl sl2 (by simpa using hv) (by simp[hw])) ⟨ho,ho2,h1 hw⟩
 ·refine concat_meets ⟨_,ho,rfl⟩ ⟨_,ho2,rfl⟩ noFill_tuple_add seq_tuple_add PySem.F.slot_tuple_add PySem.F.entry_tuple_add (PySem.F.args_tuple_add_2 _ _)
   (tuple_addW2 t b vs.toArray ws.toArray n n2 dd dd2 sl sl2 (by simpa using hv) (by simpa using hw) (by rw[q0e,q0e];exact hsz)) ⟨ho,ho2,?_⟩
  rw[e]
  exact h2 hw
def sIx (n d:Nat):Option Int→Nat
 |none=>d
 |some v=>if v<0 then (v+(n:Int)).toNat else min v.toNat n
theorem sIx_none (n d:Nat):sIx n d none=d:=rfl
theorem y6X (n d:Nat) (hd:d≤n) (o:Option Int):sIx n d o≤n:=by
 cases o with
 |none=>exact hd
 |some v=>
  show (if v<0 then (v+(n:Int)).toNat else min v.toNat n)≤n
  by_cases hv:v<0
  ·rw[if_pos hv];lia
  ·rw[if_neg hv];exact Nat.min_le_right _ _
theorem y2Q (v:Int) (n d:Nat):(if v<0 then max (v+(n:Int)) 0 else min v (n:Int))=((sIx n d (some v):Nat):Int):=by
 show (if v<0 then max (v+(n:Int)) 0 else min v (n:Int))=(((if v<0 then (v+(n:Int)).toNat else min v.toNat n):Nat):Int)
 by_cases hv:v<0
 ·simp only[if_pos hv];lia
 ·simp only[if_neg hv];lia
theorem y0s (lo hi:Option Int) (n:Nat):Builtin.Slice.sliceAdjust lo hi 1 (n:Int)=(((sIx n 0 lo:Nat):Int),((sIx n n hi:Nat):Int)):=by
 have h1:¬((1:Int)<0):=by lia
 unfold Builtin.Slice.sliceAdjust
 simp only[h1,if_false]
 refine Prod.ext ?_ ?_
 ·cases lo with
  |none=>rfl
  |some v=>exact y2Q v n 0
 ·cases hi with
  |none=>rfl
  |some v=>exact y2Q v n n
theorem z9L (i j:Nat):Builtin.Slice.slicePlaces (i:Int) (j:Int) 1=j - i:=by
 unfold Builtin.Slice.slicePlaces
 have h1:(1:Int)>0:=by lia
 simp only[h1,if_true,Int.ediv_one]
 split<;>lia
theorem z4Z {v:Value}{o:Option Int}{Q:Option Int→Shared→Prop} (p:IsPart v o) (h:Q o s):wpAny (model prog w) A (Builtin.Slice.slicePartIndex v) Q E s:=by
 cases p with
 |none=>exact slicePart_none h
 |int i t=>exact slicePart_int h
theorem z3E {sl:Addr}{vl vu:Value}{lo hi:Option Int}{n:Nat}{Q:Int×Int×Nat→Shared→Prop} (hs:s.heap.IsSliceOf sl vl vu .none) (pl:IsPart vl lo) (pu:IsPart vu hi)
 (h:Q (((sIx n 0 lo:Nat):Int),1,sIx n n hi - sIx n 0 lo) s):wpAny (model prog w) A (Builtin.Slice.sliceApplied (.ref sl) (pure (n:Int))) Q E s:=by
 obtain⟨os,hos,hcs,hds⟩:=id hs
 unfold Builtin.Slice.sliceApplied Builtin.Slice.sliceFields
 refine wpAny_bind (wpAny_bind (wpAny_field hos hds (x:=vl) rfl (wpAny_bind (wpAny_field hos hds (x:=vu) rfl (wpAny_bind (wpAny_field hos hds (x:= .none) rfl (wpAny_pure ?_)))))))
 refine wpAny_bind (slicePart_none ?_)
 show wpAny _ _ (if ((1:Int)==0)=true then _ else _) _ _ s
 rw[if_neg (by decide)]
 refine wpAny_bind (z4Z pl (wpAny_bind (z4Z pu (wpAny_bind (wpAny_pure ?_)))))
 show wpAny _ _ (match Builtin.Slice.sliceAdjust lo hi 1 (n:Int) with|(lo,hi)=>pure (lo,(1:Int),Builtin.Slice.slicePlaces lo hi 1)) _ _ s
 rw[y0s lo hi n]
 show wpAny _ _ (pure (((sIx n 0 lo:Nat):Int),(1:Int),Builtin.Slice.slicePlaces ((sIx n 0 lo:Nat):Int) ((sIx n n hi:Nat):Int) 1)) _ _ s
 rw[z9L]
 exact wpAny_pure h
theorem y3J (xs:Array Value) (i k:Nat):((List.range k).filterMap fun (m:Nat)=>xs[((i:Int)+(m:Int)*1).toNat]?).toArray =((xs.toList.drop i).take k).toArray :=by
 have e:(fun (m:Nat)=>xs[((i:Int)+(m:Int)*1).toNat]?)=fun m=>xs[i+m]? :=by
  funext m
  have:((i:Int)+(m:Int)*1).toNat =i+m:=by lia
  rw[this]
 rw[e]
 have:=pick_run xs i k
 rw[List.filterMap_map] at this
 have e2:((fun x=>xs[x]?)∘fun x=>i+x)=fun m=>xs[i+m]? :=rfl
 rw[e2] at this
 rw[this]
theorem getItem_tuple_cut {t sl:Addr}{items:Array Value}{vl vu:Value}{lo hi:Option Int}{Q:Value→Shared→Prop} (ht:IsTup s.heap t items) (hs:s.heap.IsSliceOf sl vl vu .none) (pl:IsPart vl lo) (pu:IsPart vu hi)
 (hw:¬(sIx items.size 0 lo=0∧sIx items.size items.size hi=items.size))
 (h:Q (.ref s.heap.objs.size) {s with heap:=s.heap.push {cls:= .type "tuple",data:= .seq ((items.toList.drop (sIx items.size 0 lo)).take (sIx items.size items.size hi - sIx items.size 0 lo)).toArray}})
 (hsz:items.size≤sizeLine):wpAny (model prog w) A (getItem (.ref t) (.ref sl)) Q E s:=by
 have htake:sizeOk (.seq ((items.toList.drop (sIx items.size 0 lo)).take (sIx items.size items.size hi - sIx items.size 0 lo)).toArray):=by
  show ((items.toList.drop (sIx items.size 0 lo)).take (sIx items.size items.size hi - sIx items.size 0 lo)).toArray.size ≤sizeLine
  rw[q0e,q0w,List.length_drop,q1w]
  lia
 have hj:sIx items.size items.size hi≤items.size:=y6X _ _ (q0i _) hi
 obtain⟨os,hos,hcs,hds⟩:=id hs
 have hTs:s.TypeIs (.ref sl) "slice":=⟨os,hos,hcs⟩
 unfold getItem
 try with_reducible refine wpAny_holding ?_
 first|refine wpAny_bind (wpAny_pure ?_)|skip
 refine wpAny_bind (wpAny_sequenceKey ht.typeIs (by decide) ?_)
 refine wpAny_bind (wpAny_callSpecial?_slot (name:=Str.ofString "__getitem__") ht.typeIs PyProof.Rows.slot_tuple_getitem
  (wpAny_call_entry PyProof.Rows.slot_tuple_getitem ht.typeIs entry_tuple_getitem ?_ (args_tuple_getitem _ _)))
 show wpAny _ _ (Builtin.Tuple.tupleItemsOf (.ref t)>>= _) _ _ s
 refine wpAny_bind (tupleItemsOf_ ht ?_)
 refine wpAny_bind (wpAny_typeOf hTs ?_)
 rw[if_pos (by decide)]
 refine wpAny_bind (z3E hs pl pu ?_)
 have hno:¬((((sIx items.size 0 lo:Nat):Int)==0&&(1:Int)==1&&(sIx items.size items.size hi - sIx items.size 0 lo)==items.size)=true):=by
  intro q
  rw[q1b,q1b] at q
  have q1:((sIx items.size 0 lo:Nat):Int)=0:=eq_of_beq q.1.1
  have q2:sIx items.size items.size hi - sIx items.size 0 lo=items.size:=eq_of_beq q.2
  exact hw ⟨by lia,by lia⟩
 show wpAny _ _ (if (((sIx items.size 0 lo:Nat):Int)==0&&(1:Int)==1&&(sIx items.size items.size hi - sIx items.size 0 lo)==items.size)=true then _ else _) _ _ s
 rw[if_neg hno,y3J]
 first
  |exact wpAny_bind (m:=Builtin.Tuple.tupleExact _) (wpAny_newObj_type (wpAny_pure ⟨_,rfl,wpAny_pure h⟩) htake)
  |exact wpAny_bind (m:=Builtin.Tuple.tupleExact _) (wpAny_newObj_type (wpAny_bind (wpAny_pure (wpAny_pure ⟨_,rfl,wpAny_pure h⟩))) htake)
  |exact wpAny_bind (wpAny_bind (m:=Builtin.Tuple.tupleExact _) (wpAny_newObj_type (wpAny_pure (wpAny_pure ⟨_,rfl,wpAny_pure h⟩)) htake))
  |exact wpAny_bind (wpAny_bind (m:=Builtin.Tuple.tupleExact _) (wpAny_newObj_type (wpAny_pure ⟨_,rfl,wpAny_pure h⟩) htake))
end
end HT
namespace L2
open PySem PySem.Spec PyProof.Rows
abbrev TO:=St→Hp→(Option Int→Hp→Prop)→Prop
def PO (X:Cx) (e:Option Expr) (t:TO):Prop:=
 ∀(pins:List (Addr×Obj)) (s:Shared) (σ:St) (H:Hp) (Q:Option Int→Hp→Prop),Inv X pins σ H s→t σ H Q→
  wpAny (model X.prog X.w) X.A (evalPart e X.env) (fun u s'=>∃o H',Inv X pins σ H' s'∧IsPart u o∧Q o H') X.xe s
def y5s:TO:=fun _ H Q=>Q none H
def tPart (t:TE):TO:=fun σ H Q=>t σ H fun x H1=>∃i,x= .int i∧Q (some i) H1
section
variable {X:Cx}{e:Expr}{te:TE}{lo hi:Option Expr}{tl th:TO}{pos p2:Pos}
theorem z1W:PO X none y5s:=by
 intro pins s σ H Q I h
 rw[evalPart_none]
 exact wpAny_pure ⟨none,H,I,.none,h⟩
theorem z1V (h:PE X e te):PO X (some e) (tPart te):=by
 intro pins s σ H Q I hw
 rw[evalPart_some]
 refine thn (h pins s σ H _ I hw) fun u s1 ⟨x,H1,I1,r1,q1⟩=>?_
 obtain⟨i,rfl,q⟩:=q1
 obtain⟨t,rfl⟩:=r1
 exact⟨some i,H1,I1,.int i t,q⟩
def SlR (X:Cx) (r:V→Option Int→Option Int→Hp→VK→Prop):Prop:=
 ∀(pins:List (Addr×Obj)) (s:Shared) (σ:St) (H:Hp) (x:V) (v vl vu:Value) (lo hi:Option Int) (sl:Addr) (Q:VK),Inv X pins σ H s→RelV x v→s.heap.IsSliceOf sl vl vu .none →IsPart vl lo→IsPart vu hi→r x lo hi H Q→
  ∃T id,typeLookup (.type T) "__getitem__"=pure (some (.builtin id))∧s.TypeIs v T∧wpAny (model X.prog X.w) X.A (getItem v (.ref sl)) (EP X pins σ Q) X.xe s
theorem SlR.or {r r':V→Option Int→Option Int→Hp→VK→Prop} (h:SlR X r) (h':SlR X r'):SlR X (fun x lo hi H Q=>r x lo hi H Q∨r' x lo hi H Q):=by
 intro pins s σ H x v vl vu lo hi sl Q I rx hs pl pu q
 rcases q with q|q
 ·exact h pins s σ H x v vl vu lo hi sl Q I rx hs pl pu q
 ·exact h' pins s σ H x v vl vu lo hi sl Q I rx hs pl pu q
def tSl (r:V→Option Int→Option Int→Hp→VK→Prop) (te:TE) (tl th:TO):TE:=fun σ H Q=>te σ H fun x H1=>tl σ H1 fun l H2=>th σ H2 fun u H3=>r x l u H3 Q
theorem z1t {r:V→Option Int→Option Int→Hp→VK→Prop} (hr:SlR X r) (he:PE X e te) (hl:PO X lo tl) (hu:PO X hi th):PE X (.Subscript e (.Slice lo hi none p2) pos) (tSl r te tl th):=by
 intro pins s σ H Q I h
 refine Subscript_ (thn (he pins s σ H _ I h) fun v s1 ⟨x,H1,I1,r1,q1⟩=>?_)
 refine wpAny_Slice (thn (hl pins s1 σ H1 _ I1 q1) fun vl s2 ⟨l,H2,I2,pl,q2⟩=>thn (hu pins s2 σ H2 _ I2 q2) fun vu s3 ⟨u,H3,I3,pu,q3⟩=>?_)
 rw[evalPart_none]
 refine wpAny_pure ?_
 have I4:Inv X pins σ H3 {s3 with heap:=s3.heap.push {cls:= .type "slice",data:= .fields #[vl,vu,.none]}}:=I3.kept (t':=s3.toks) fun b ob q=>q0d _ q
 obtain⟨T,id,hT,ht,hg⟩:=hr pins {s3 with heap:=s3.heap.push {cls:= .type "slice",data:= .fields #[vl,vu,.none]}} σ H3 x v vl vu l u s3.heap.objs.size Q I4 r1 (Heap.IsSliceOf.new ..) pl pu q3
 show wpAny (model X.prog X.w) X.A (subscriptTail e (.Slice lo hi none p2) v (.ref s3.heap.objs.size)) (EP X pins σ Q) X.xe {s3 with heap:=s3.heap.push {cls:= .type "slice",data:= .fields #[vl,vu,.none]}}
 exact tail_any (ops:=[.ref s3.heap.objs.size,v]) ht hT hg (by with_unfolding_all rfl)
def y3i (xs:List V) (lo hi:Option Int):List V:=(xs.drop (HT.sIx xs.length 0 lo)).take (HT.sIx xs.length xs.length hi - HT.sIx xs.length 0 lo)
theorem z4D (xs:List V) (lo hi:Option Int):(y3i xs lo hi).length ≤xs.length:=by
 unfold y3i
 rw[q0w,List.length_drop]
 lia
def rSlT (K:PySem.W.Frag):V→Option Int→Option Int→Hp→VK→Prop:=fun x lo hi H Q=>∃a xs,x= .ref a∧SqT K H a xs∧
 ¬(HT.sIx xs.length 0 lo=0∧HT.sIx xs.length xs.length hi=xs.length)∧∀p,H p=none→Q (.ref p) (upd H p (.tup (y3i xs lo hi)))
theorem y6U:SlR X (rSlT X.K):=by
 intro pins s σ H x v vl vu lo hi sl Q I rx hs pl pu h
 obtain⟨a,xs,rfl,hx,hw,q⟩:=h
 cases rx
 obtain⟨its,r,ht,hz⟩:=I.tuple hx
 have hlen:its.toArray.size=xs.length:=by rw[q0e];exact r.length.symm
 refine⟨"tuple",_,PyProof.Rows.slot_tuple_getitem.lookup,ht.typeIs,?_⟩
 refine HT.getItem_tuple_cut ht hs pl pu (by rw[hlen];exact hw) ?_ (by rw[hlen];exact hz)
 rw[hlen]
 refine⟨.ref s.heap.objs.size,_,I.laid (t':=s.toks) (o:= .tup (y3i xs lo hi)) (fun b ob q=>q0d _ q) (q0i _) ?_,rfl,q _ (I.hok.fresh (q0i _))⟩
 exact⟨q0m (z4D xs lo hi) hz,_,(r.drop (HT.sIx xs.length 0 lo)).take (HT.sIx xs.length xs.length hi - HT.sIx xs.length 0 lo),IsTup.new _ _⟩
def rCatT (K:PySem.W.Frag):R2:=fun x y H Q=>∃a b xs ys,x= .ref a∧y= .ref b∧SqT K H a xs∧SqT K H b ys∧xs≠[]∧xs.length+ys.length≤sizeLine∧
 (ys=[]→Q (.ref a) H)∧(ys≠[]→∀p,H p=none→Q (.ref p) (upd H p (.tup (xs++ys))))
theorem Vals.nil_iff {xs:List V}{us:List Value} (r:Vals xs us):us=[]↔xs=[]:=by
 cases r with
 |nil=>simp
 |cons _ _=>simp
theorem y5R:OpR X (binaryOp .Add) (rCatT X.K):=by
 intro pins s σ H x y v u Q I rx ry h
 obtain⟨a,b,xs,ys,rfl,rfl,ha,hb,hx,hz,q1,q2⟩:=h
 cases rx
 cases ry
 obtain⟨its,r1,p1,_⟩:=I.tuple ha
 obtain⟨its2,r2,p2,_⟩:=I.tuple hb
 refine HT.cat_tup p1 p2 (fun z=>hx (r1.nil_iff.mp z)) (fun z=>⟨.ref a,H,I,rfl,q1 (r2.nil_iff.mp z)⟩) (fun z=>?_) (by rw[←r1.length,←r2.length];exact hz)
 refine⟨.ref s.heap.objs.size,_,I.laid (t':=s.toks) (o:= .tup (xs++ys)) (fun b ob q=>q0d _ q) (q0i _) ?_,rfl,q2 (fun w=>z (r2.nil_iff.mpr w)) _ (I.hok.fresh (q0i _))⟩
 exact⟨by rw[q0k];exact hz,_,r1.append r2,IsTup.new _ _⟩
end
end L2
namespace L2
open PySem PySem.Spec PyProof.Rows
def ixN (n:Nat) (i:Int):Option Nat:=if 0≤i then (if i<n then some i.toNat else none) else if -(n:Int)≤i then some (i+n).toNat else none
def atI {α:Type} (xs:List α) (i:Int):Option α:=(ixN xs.length i).bind fun j=>xs[j]?
theorem y2g {n:Nat}{i:Int}{j:Nat} (h:ixN n i=some j):seqIndex? i n=some j∧j<n∧ -(n:Int)≤i∧i<n:=by
 unfold ixN at h
 by_cases h0:0≤i
 ·rw[if_pos h0] at h
  by_cases h1:i<n
  ·rw[if_pos h1] at h
   have e:i.toNat=j:=Option.some.inj h
   exact⟨by rw[seqIndex_of h0 h1,e],by lia,by lia,h1⟩
  ·rw[if_neg h1] at h;cases h
 ·rw[if_neg h0] at h
  by_cases h1: -(n:Int)≤i
  ·rw[if_pos h1] at h
   have e:(i+n).toNat =j:=Option.some.inj h
   exact⟨by rw[seqIndex_neg (by lia) h1,e],by lia,h1,by lia⟩
  ·rw[if_neg h1] at h;cases h
theorem y2Z {α:Type}{xs:List α}{i:Int}{v:α} (h:atI xs i=some v):∃j,seqIndex? i xs.length=some j∧xs[j]? =some v∧j<xs.length∧ -(xs.length:Int)≤i∧i<xs.length:=by
 unfold atI at h
 cases e:ixN xs.length i with
 |none=>rw[e] at h;cases h
 |some j=>
  rw[e] at h
  obtain⟨h1,h2,h3,h4⟩:=y2g e
  exact⟨j,h1,h,h2,h3,h4⟩
theorem z2a {α:Type}{xs:List α}{j:Nat}{v:α} (h:xs[j]? =some v):atI xs (j:Int)=some v:=by
 have hj:j<xs.length:=(q0H.mp h).1
 have e:ixN xs.length (j:Int)=some j:=by
  unfold ixN
  rw[if_pos (by lia),if_pos (by lia)];simp
 unfold atI;rw[e];exact h
theorem z2v {α:Type} (xs:List α) (v:α):atI (xs++[v]) (-1)=some v:=by
 have hl:(xs++[v]).length =xs.length+1:=by simp
 have e:ixN (xs++[v]).length (-1)=some xs.length:=by
  unfold ixN
  rw[hl,if_neg (by decide),if_pos (by lia)]
  congr 1
  lia
 unfold atI
 rw[e]
 show (xs++[v])[xs.length]? =some v
 simp
def y6G (b:Expr):Prop:=∀o i,subscripted b false o i=operate [o,i] (getItem o i)
def IxR (X:Cx) (r:R2):Prop:=
 ∀(value slice:Expr) (pins:List (Addr×Obj)) (s:Shared) (σ:St) (H:Hp) (x y:V) (v u:Value) (Q:VK),Inv X pins σ H s→RelV x v→RelV y u→r x y H Q→
  subscripted slice false v u=operate [v,u] (getItem v u)→wpAny (model X.prog X.w) X.A (subscriptTail value slice v u) (EP X pins σ Q) X.xe s
def MtR (X:Cx) (id:String) (r:V→List V→Hp→VK→Prop):Prop:=
 ∀(pins:List (Addr×Obj)) (s:Shared) (σ:St) (H:Hp) (x:V) (xs:List V) (v:Value) (us:List Value) (Q:VK),Inv X pins σ H s→RelV x v→Vals xs us→r x xs H Q→
  wpAny (model X.prog X.w) X.A (call (.builtin id) (v::us)) (EP X pins σ Q) X.xe s
section
variable {X:Cx}{a b:Expr}{ta tb:TE}{pos:Pos}
theorem IxR.or {r r':R2} (h:IxR X r) (h':IxR X r'):IxR X (fun x y H Q=>r x y H Q∨r' x y H Q):=by
 intro value slice pins s σ H x y v u Q I rx ry q hs
 rcases q with q|q
 ·exact h value slice pins s σ H x y v u Q I rx ry q hs
 ·exact h' value slice pins s σ H x y v u Q I rx ry q hs
theorem z0N {r:R2} (hr:IxR X r) (ha:PE X a ta) (hb:PE X b tb) (hs:y6G b):PE X (.Subscript a b pos) (tOp r ta tb):=by
 intro pins s σ H Q I h
 exact Subscript_ (binT ha hb I h fun v u s2 x y H2 I2 rx ry q=>hr a b pins s2 σ H2 x y v u Q I2 rx ry q (hs _ _))
def rIxL (K:PySem.W.Frag):R2:=fun x y H Q=>∃p xs i v,x= .ref p∧y= .int i∧SqL K H p xs∧atI xs i=some v∧Q v H
def rIxT (K:PySem.W.Frag):R2:=fun x y H Q=>∃p xs i v,x= .ref p∧y= .int i∧SqT K H p xs∧atI xs i=some v∧Q v H
theorem y2f:IxR X (rIxL X.K):=by
 intro value slice pins s σ H x y v u Q I rx ry h hs
 obtain⟨p,xs,i,z,rfl,rfl,hq,he,q⟩:=h
 cases rx
 obtain⟨t,rfl⟩:=ry
 obtain⟨its,r,pl,hz⟩:=I.list hq
 obtain⟨j,h1,h2,h3,h4,h5⟩:=y2Z he
 obtain⟨w,ew,rw'⟩:=r.get h2
 have hl:=r.length
 have hn:=z8W
 have fin:EP X pins σ Q w s:=⟨z,H,I,rw',q⟩
 by_cases h0:0≤i
 ·have hj:i.toNat=j:=by
   rw[seqIndex_of h0 h5] at h1
   exact Option.some.inj h1
  exact item_listR pl.isList h0 (by lia) (by rw[hj];simpa using ew) fin hs
 ·have hj:(i+(its.toArray.size:Int)).toNat =j:=by
   rw[seqIndex_neg (by lia) h4] at h1
   rw[q0e,←hl]
   exact Option.some.inj h1
  exact subscriptTail_builtinR (x:=w) pl.isList.typeIs slot_list_getitem.lookup
   (wpAny_getItem_list_neg (Q:=fun r s'=>r=w∧EP X pins σ Q r s') pl.isList (by lia) (by rw[q0e]<;>lia) (by lia) (by rw[hj];simpa using ew) ⟨rfl,fin⟩) hs
theorem y4Y:IxR X (rIxT X.K):=by
 intro value slice pins s σ H x y v u Q I rx ry h hs
 obtain⟨p,xs,i,z,rfl,rfl,hq,he,q⟩:=h
 cases rx
 obtain⟨t,rfl⟩:=ry
 obtain⟨its,r,pl,hz⟩:=I.tuple hq
 obtain⟨j,h1,h2,h3,h4,h5⟩:=y2Z he
 obtain⟨w,ew,rw'⟩:=r.get h2
 have hl:=r.length
 have hn:=z8W
 have fin:EP X pins σ Q w s:=⟨z,H,I,rw',q⟩
 exact subscriptTail_builtinR (x:=w) pl.typeIs slot_tuple_getitem.lookup
  (getItem_tuple (j:=j) (Q:=fun r s'=>r=w∧EP X pins σ Q r s') pl (by lia) (by lia) (by rw[q0e,←hl];exact h1) (by simpa using ew) ⟨rfl,fin⟩) hs
theorem y0a (its:List Value) (n j:Nat) (u:Value):Obj.mapSeq (·.setIfInBounds j u) {cls:= .type "list",data:= .seq its.toArray n}={cls:= .type "list",data:= .seq (its.set j u).toArray n}:=by
 simp[Obj.mapSeq]
theorem Inv.lst {pins:List (Addr×Obj)}{σ:St}{H:Hp}{s:Shared}{p:Addr}{xs:List V} (I:Inv X pins σ H s) (h:H p=some (.lst xs)):
 ∃(its:List Value) (n:Nat),Vals xs its∧s.heap.get? p=some {cls:= .type "list",data:= .seq its.toArray n}∧xs.length≤sizeLine:=by
 obtain⟨z,its,n,r,e⟩:=I.hok p _ h
 exact⟨its,n,r,e,z⟩
theorem Inv.lstUpd {pins:List (Addr×Obj)}{σ:St}{H:Hp}{s:Shared}{p:Addr}{xs ys:List V}{its its':List Value}{n n':Nat}{f:Obj→Obj} (I:Inv X pins σ H s) (h:H p=some (.lst xs))
 (ho:s.heap.get? p=some {cls:= .type "list",data:= .seq its.toArray n}) (hf:f {cls:= .type "list",data:= .seq its.toArray n}={cls:= .type "list",data:= .seq its'.toArray n'}) (r:Vals ys its') (hz:ys.length≤sizeLine) (t:Nat):
 Inv X pins σ (upd H p (.lst ys)) {s with heap:=s.heap.update p f,toks:=t}:=by
 have e:(s.heap.update p f).get? p=some {cls:= .type "list",data:= .seq its'.toArray n'}:=by
  rw[Heap.get?_update_self f ho (by rw[hf]<;>rfl),hf]
 refine I.write (x:=p) (e:=p) (by rw[h];trivial) (.inl rfl) (fun b u hb q=>(q1n _ _ (Ne.symm hb)).trans q) ⟨_,e⟩ ?_
 exact⟨hz,its',n',r,e⟩
def rSetL:V→V→V→Hp→(Hp→Prop)→Prop:=fun o i v H Q=>∃p xs k j,o= .ref p∧i= .int k∧H p=some (.lst xs)∧ixN xs.length k=some j∧Q (upd H p (.lst (xs.set j v)))
theorem z2S:PSet X rSetL:=by
 intro pins s σ H o i v ov iv u Q I ro ri rv h
 obtain⟨p,xs,k,j,rfl,rfl,hp,hj,q⟩:=h
 cases ro
 obtain⟨t,rfl⟩:=ri
 obtain⟨its,n,r,ho,hz⟩:=I.lst hp
 obtain⟨h1,h2,h3,h4⟩:=y2g hj
 have hl:=r.length
 have hn:=z8W
 have I':Inv X pins σ (upd H p (.lst (xs.set j v))) {s with heap:=s.heap.update p (Obj.mapSeq (·.setIfInBounds j u))}:=
  I.lstUpd hp ho (y0a its n j u) (r.set rv j) (by rw[List.length_set];exact hz) s.toks
 by_cases h0:0≤k
 ·have hk:k.toNat=j:=by
   rw[seqIndex_of h0 h4] at h1
   exact Option.some.inj h1
  exact PySem.W.ki_setAt ho h0 (by lia) (by rw[q0e,←hl];exact h4) (by rw[hk];exact⟨_,I',q⟩)
 ·have hk:(k+(its.toArray.size:Int)).toNat =j:=by
   rw[seqIndex_neg (by lia) h3] at h1
   rw[q0e,←hl]
   exact Option.some.inj h1
  exact PySem.W.ki_setBack ho (by lia) (by rw[q0e,←hl];exact h3) (by lia) (by rw[hk];exact⟨_,I',q⟩)
theorem z6A (lo hi:Option Int) (n:Nat):(sliceBounds lo hi none n).1 =((HT.sIx n 0 lo:Nat):Int)∧(sliceBounds lo hi none n).2.1 =((HT.sIx n n hi:Nat):Int)∧(sliceBounds lo hi none n).2.2 =1:=by
 refine⟨?_,?_,rfl⟩
 ·cases lo with
  |none=>simp[sliceBounds,HT.sIx]
  |some i=>
   simp only[sliceBounds,HT.sIx,Option.getD_none,show (1:Int)>0 by decide,if_true]
   by_cases h:i<0
   ·simp only[h,if_true]<;>lia
   ·simp only[h,if_false]<;>lia
 ·cases hi with
  |none=>simp[sliceBounds,HT.sIx]
  |some i=>
   simp only[sliceBounds,HT.sIx,Option.getD_none,show (1:Int)>0 by decide,if_true]
   by_cases h:i<0
   ·simp only[h,if_true]<;>lia
   ·simp only[h,if_false]<;>lia
theorem z5z (its:List Value) (lo hi:Option Int):slicePick its.toArray lo hi none=((its.drop (HT.sIx its.length 0 lo)).take (HT.sIx its.length its.length hi - HT.sIx its.length 0 lo)).toArray :=by
 obtain⟨h1,h2,h3⟩:=z6A lo hi its.toArray.size
 unfold slicePick
 rw[h1,h2,h3]
 simp only[sliceRange_one,pick_run,q0e]<;>rfl
def rSlL (K:PySem.W.Frag):V→Option Int→Option Int→Hp→VK→Prop:=fun x lo hi H Q=>∃a xs,x= .ref a∧SqL K H a xs∧∀p,H p=none→Q (.ref p) (upd H p (.lst (y3i xs lo hi)))
theorem y0W:SlR X (rSlL X.K):=by
 intro pins s σ H x v vl vu lo hi sl Q I rx hs pl pu h
 obtain⟨a,xs,rfl,hx,q⟩:=h
 cases rx
 obtain⟨its,r,ht,hz⟩:=I.list hx
 have hlen:=r.length
 refine⟨"list",_,slot_list_getitem.lookup,ht.isList.typeIs,?_⟩
 refine wpAny_getItem_list_slice ht.isList hs pl pu .none (by simp) ?_ (by rw[q0e]<;>lia)
 rw[z5z,←hlen]
 refine⟨.ref s.heap.objs.size,_,I.laid (t':=s.toks) (o:= .lst (y3i xs lo hi)) (fun b ob q=>q0d _ q) (q0i _) ?_,rfl,q _ (I.hok.fresh (q0i _))⟩
 exact⟨q0m (z4D xs lo hi) hz,_,0,(r.drop (HT.sIx xs.length 0 lo)).take (HT.sIx xs.length xs.length hi - HT.sIx xs.length 0 lo),q0s _ rfl⟩
def z4P:V→Bool
 | .non =>true
 | .bl _=>true
 | .int _=>true
 | .str _=>true
 |_=>false
def eqV:V→V→Bool
 | .non,.non =>true
 | .bl a,.bl b=>a==b
 | .bl a,.int b=>(if a then 1 else 0)==b
 | .int a,.bl b=>a==(if b then 1 else 0)
 | .int a,.int b=>a==b
 | .str a,.str b=>a==b
 |_,_=>false
theorem y7L {A:Around}{s:Shared}{y x:V}{u v:Value} (ry:RelV y u) (rx:RelV x v) (fy:z4P y=true) (fx:z4P x=true):SeqAt.EqAt A s u v (eqV y x):=by
 cases y with
 |non=>
  cases ry
  cases x with
  |non=>cases rx;exact SeqAt.EqAt.same _
  |bl b=>cases rx;exact SeqAt.EqAt.none_bool b
  |int b=>obtain⟨t,rfl⟩:=rx;exact SeqAt.EqAt.none_int b t
  |str b=>obtain⟨t,rfl⟩:=rx;exact SeqAt.EqAt.none_str b t
  |_=>exact absurd (show false=true from fx) Bool.false_ne_true
 |bl a=>
  cases ry
  cases x with
  |non=>cases rx;exact SeqAt.EqAt.bool_none a
  |bl b=>cases rx;exact SeqAt.EqAt.bool_bool a b
  |int b=>obtain⟨t,rfl⟩:=rx;exact SeqAt.EqAt.bool_int a b t
  |str b=>obtain⟨t,rfl⟩:=rx;exact SeqAt.EqAt.bool_str a b t
  |_=>exact absurd (show false=true from fx) Bool.false_ne_true
 |int a=>
  obtain⟨t',rfl⟩:=ry
  cases x with
  |non=>cases rx;exact SeqAt.EqAt.int_none a t'
  |bl b=>cases rx;exact SeqAt.EqAt.int_bool a t' b
  |int b=>obtain⟨t,rfl⟩:=rx;exact SeqAt.EqAt.int_int a t' b t
  |str b=>obtain⟨t,rfl⟩:=rx;exact SeqAt.EqAt.int_str a t' b t
  |_=>exact absurd (show false=true from fx) Bool.false_ne_true
 |str a=>
  obtain⟨t',rfl⟩:=ry
  cases x with
  |non=>cases rx;exact SeqAt.EqAt.str_none a t'
  |bl b=>cases rx;exact SeqAt.EqAt.str_bool a t' b
  |int b=>obtain⟨t,rfl⟩:=rx;exact SeqAt.EqAt.str_int a t' b t
  |str b=>obtain⟨t,rfl⟩:=rx;exact SeqAt.EqAt.str_str a t' b t
  |_=>exact absurd (show false=true from fx) Bool.false_ne_true
 |_=>exact absurd (show false=true from fy) Bool.false_ne_true
def eqU (x:V) (u:Value):Bool:=match u with
 | .none =>eqV .non x
 | .bool b=>eqV (.bl b) x
 | .int i _=>eqV (.int i) x
 | .str z _=>eqV (.str z) x
 |_=>false
theorem y5d {x y:V}{u:Value} (r:RelV y u) (f:z4P y=true):eqU x u=eqV y x:=by
 cases y with
 |non=>cases r;rfl
 |bl b=>cases r;rfl
 |int i=>obtain⟨t,rfl⟩:=r;rfl
 |str z=>obtain⟨t,rfl⟩:=r;rfl
 |_=>exact absurd (show false=true from f) Bool.false_ne_true
theorem z4I {x:V}:∀{xs:List V}{us:List Value},Vals xs us→xs.all z4P=true→us.any (eqU x)=xs.any fun y=>eqV y x
 |_,_,.nil,_=>rfl
 |y::xs,u::us,.cons r t,f=>by
  rw[List.all_cons,q1b] at f
  rw[List.any_cons,List.any_cons,y5d r f.1,z4I t f.2]
theorem z2W {A:Around}{s:Shared}{x:V}{v:Value} (rx:RelV x v) (fx:z4P x=true):∀{xs:List V}{us:List Value},Vals xs us→xs.all z4P=true→∀u∈us,SeqAt.EqAt A s u v (eqU x u)
 |_,_,.nil,_=>fun u hu=>by cases hu
 |y::xs,u::us,.cons r t,f=>fun u' hu=>by
  rw[List.all_cons,q1b] at f
  rcases q0n.mp hu with rfl|hu
  ·rw[y5d r f.1];exact y7L r rx f.1 fx
  ·exact z2W rx fx t f.2 u' hu
def inV (x:V) (xs:List V):Bool:=xs.any fun y=>eqV y x
def rIn (K:PySem.W.Frag) (neg:Bool):R2:=fun x y H Q=>∃p xs,y= .ref p∧(SqL K H p xs∨SqT K H p xs)∧z4P x=true∧xs.all z4P=true∧Q (.bl (if neg then !inV x xs else inV x xs)) H
theorem y1B:OpR X (compareOp .In) (rIn X.K false):=by
 intro pins s σ H x y v u Q I rx ry h
 obtain⟨p,xs,rfl,hq,fx,fs,q⟩:=h
 cases ry
 rcases hq with hq|hq
 ·obtain⟨its,r,pl,hz⟩:=I.list hq
  refine SeqAt.in_listAt (eqU x) pl.isList (fun w hw=>z2W rx fx r fs w (by simpa using hw)) ⟨.bl _,H,I,rfl,?_⟩
  rw[show its.toArray.any (eqU x)=its.any (eqU x) by simp,z4I r fs]
  exact q
 ·obtain⟨its,r,pl,hz⟩:=I.tuple hq
  refine SeqAt.in_tupleAt (eqU x) pl (fun w hw=>z2W rx fx r fs w (by simpa using hw)) ⟨.bl _,H,I,rfl,?_⟩
  rw[show its.toArray.any (eqU x)=its.any (eqU x) by simp,z4I r fs]
  exact q
theorem z6L:OpR X (compareOp .NotIn) (rIn X.K true):=by
 intro pins s σ H x y v u Q I rx ry h
 obtain⟨p,xs,rfl,hq,fx,fs,q⟩:=h
 cases ry
 rcases hq with hq|hq
 ·obtain⟨its,r,pl,hz⟩:=I.list hq
  refine SeqAt.notIn_listAt (eqU x) pl.isList (fun w hw=>z2W rx fx r fs w (by simpa using hw)) ⟨.bl _,H,I,rfl,?_⟩
  rw[show its.toArray.any (eqU x)=its.any (eqU x) by simp,z4I r fs]
  exact q
 ·obtain⟨its,r,pl,hz⟩:=I.tuple hq
  refine SeqAt.notIn_tupleAt (eqU x) pl (fun w hw=>z2W rx fx r fs w (by simpa using hw)) ⟨.bl _,H,I,rfl,?_⟩
  rw[show its.toArray.any (eqU x)=its.any (eqU x) by simp,z4I r fs]
  exact q
theorem z7j:z1A X (.builtin "len") (fun xs H Q=>∃p ys,xs=[.ref p]∧(SqL X.K H p ys∨SqT X.K H p ys)∧Q (.int ys.length) H):=by
 intro pins s σ H xs us Q I r h
 obtain⟨p,ys,rfl,hq,q⟩:=h
 obtain⟨u,rfl,rx⟩:=z5o r
 cases rx
 have hn:=z8W
 rcases hq with hq|hq
 ·obtain⟨its,r',pl,hz⟩:=I.list hq
  have hlen:=r'.length
  exact Calls.call_len_list pl.isList (by simp only[q0e]<;>lia) ⟨.int ys.length,H,I.tok _,⟨s.toks+1,by rw[q0e,hlen]⟩,q⟩
 ·obtain⟨its,r',pl,hz⟩:=I.tuple hq
  have hlen:=r'.length
  exact len_tuple pl (by simp only[q0e]<;>lia) ⟨.int ys.length,H,I.tok _,⟨s.toks+1,by rw[q0e,hlen]⟩,q⟩
theorem z7i:z1A X (.type "list") (fun xs H Q=>∃p ys,xs=[.ref p]∧(SqL X.K H p ys∨SqT X.K H p ys)∧∀l,H l=none→Q (.ref l) (upd H l (.lst ys))):=by
 intro pins s σ H xs us Q I r h
 obtain⟨p,ys,rfl,hq,q⟩:=h
 obtain⟨u,rfl,rx⟩:=z5o r
 cases rx
 have fin:∀(its:List Value),Vals ys its→ys.length≤sizeLine→∀(h':Heap) (c':Nat),(∀b o',s.heap.get? b=some o'→h'.get? b=some o')→
  h'.get? s.heap.objs.size=some {cls:= .type "list",dict:=none,data:= .seq its.toArray c',slots:= #[]}→EP X pins σ Q (.ref s.heap.objs.size) {s with heap:=h'}:=fun its r' hz h' c' kp e=>
  ⟨.ref s.heap.objs.size,_,I.laid (t':=s.toks) kp (q0i _) (show ObjOk X.prog X.w _ h' _ (.lst ys) from⟨hz,its,c',r',e⟩),rfl,q _ (I.hok.fresh (q0i _))⟩
 rcases hq with hq|hq
 ·obtain⟨its,r',pl,hz⟩:=I.list hq
  have hlen:=r'.length
  obtain⟨o,ho,hc,n,hd⟩:=pl.isList
  exact call_list_seq p (.inl rfl) ho hc hd (fun h' c' kp e=>fin its r' hz h' c' kp e) (by simp only[q0e]<;>lia)
 ·obtain⟨its,r',pl,hz⟩:=I.tuple hq
  have hlen:=r'.length
  obtain⟨o,ho,hc,n,hd⟩:=pl
  exact call_list_seq p (.inr rfl) ho hc hd (fun h' c' kp e=>fin its r' hz h' c' kp e) (by simp only[q0e]<;>lia)
theorem z6i:z1A X (.type "tuple") (fun xs H Q=>∃p ys,xs=[.ref p]∧((SqL X.K H p ys∧∀l,H l=none→Q (.ref l) (upd H l (.tup ys)))∨(SqT X.K H p ys∧Q (.ref p) H))):=by
 intro pins s σ H xs us Q I r h
 obtain⟨p,ys,rfl,h⟩:=h
 obtain⟨u,rfl,rx⟩:=z5o r
 cases rx
 rcases h with⟨hq,q⟩|⟨hq,q⟩
 ·obtain⟨its,r',pl,hz⟩:=I.list hq
  have hlen:=r'.length
  refine call_tuple_list pl.isList (fun h' kp=>?_) (by simp only[q0e]<;>lia)
  have I1:Inv X pins σ H {s with heap:=h'}:=I.kept (t':=s.toks) kp
  have I2:Inv X pins σ (upd H h'.objs.size (.tup ys)) {s with heap:=h'.push {cls:= .type "tuple",data:= .seq its.toArray}}:=
   I1.laid (t':=s.toks) (fun b o e=>q0d _ e) (q0i _) (show ObjOk X.prog X.w _ _ _ (.tup ys) from⟨hz,its,r',IsTup.new _ _⟩)
  exact⟨.ref h'.objs.size,_,I2,rfl,q _ (I1.hok.fresh (q0i _))⟩
 ·obtain⟨its,r',pl,hz⟩:=I.tuple hq
  exact call_tuple_same pl ⟨.ref p,H,I,rfl,q⟩
def tyV (K:PySem.W.Frag) (T:String) (x:V) (H:Hp):Prop:=match x with
 | .str _=>T="str"
 | .int _=>T="int"
 | .ref p=>(T="list"∧∃xs,SqL K H p xs)∨(T="tuple"∧∃o,K.lookup p=some o∧o.cls= .type "tuple"∧o.dict=none)∨
  (T="dict"∧((∃kvs,H p=some (.dK kvs))∨∃kvs,H p=some (.dT kvs)))∨(T="set"∧∃S n,H p=some (.set S n))
 |_=>False
theorem y6L {pins:List (Addr×Obj)}{σ:St}{H:Hp}{s:Shared}{T:String}{x:V}{v:Value} (I:Inv X pins σ H s) (r:RelV x v) (ty:tyV X.K T x H):
 s.TypeIs v T∧∀a,v= .ref a→∃ob,s.heap.get? a=some ob∧ob.dict=none:=by
 cases x with
 |str z=>
  obtain⟨t,rfl⟩:=r
  cases (show T="str" from ty)
  exact⟨typeIs_str s z t,fun _ e=>nomatch e⟩
 |int i=>
  obtain⟨t,rfl⟩:=r
  cases (show T="int" from ty)
  exact⟨typeIs_int s i t,fun _ e=>nomatch e⟩
 |ref p=>
  cases r
  rcases ty with⟨rfl,xs,hq⟩|⟨rfl,o,hk,hc,hd⟩|⟨rfl,hk⟩|⟨rfl,S,n,hk⟩
  ·obtain⟨its,_,pl,_⟩:=I.list hq
   refine⟨pl.isList.typeIs,fun a e=>?_⟩
   cases e
   obtain⟨o,n,e,c,hd,_⟩:=pl
   exact⟨o,e,hd⟩
  ·refine⟨⟨o,I.kIn p o hk,hc⟩,fun a e=>?_⟩
   cases e
   exact⟨o,I.kIn _ o hk,hd⟩
  ·have z:∃o,s.heap.get? p=some o∧o.ExactDict:=by
      rcases hk with⟨kvs,hk⟩|⟨kvs,hk⟩
      ·obtain⟨_,_,_,_,o,_,_,e,ex,_⟩:=I.hok p _ hk
       exact⟨o,e,ex⟩
      ·obtain⟨_,_,_,_,o,_,_,e,ex,_⟩:=I.hok p _ hk
       exact⟨o,e,ex⟩
   obtain⟨o,e,ex⟩:=z
   refine⟨⟨o,e,ex.1⟩,fun a e2=>?_⟩
   cases e2
   exact⟨o,e,ex.2.1⟩
  ·obtain⟨o,_,_,_,e,ex,_⟩:=I.hok p _ hk
   refine⟨⟨o,e,ex.1⟩,fun a e2=>?_⟩
   cases e2
   exact⟨o,e,ex.2.1⟩
 |_=>exact False.elim ty
def tBM (K:PySem.W.Frag) (T:String) (r:V→List V→Hp→VK→Prop) (to:TE) (t:TA):TE:=fun σ H Q=>to σ H fun x H1=>tyV K T x H1∧t σ H1 fun xs H2=>r x xs H2 Q
variable {o e:Expr}{es:List Expr}{to:TE}{t:TA}{name:Str}{apos cpos:Pos}{T id:String}{r:V→List V→Hp→VK→Prop}
theorem z9M (pa:PlainAttrs T) (slot:Slot T name id) (hty:typeOf (.builtin id)=pure (.type "method_descriptor")) (hm:MtR X id r) (ho:PE X o to) (ha:PA X (e::es) t)
 (hbase:attributeBase o name X.env (eval o X.env)=eval o X.env:=by rfl)
 (hfew:((backTo cpos (starEach (e::es) X.env)).all (fun x=> !x.1)&&(backToKw cpos (keywordEach [] X.env)).all (fun x=>x.1.isSome)
  &&decide ((e::es).length +([]:List Keyword).length +(if ([]:List Keyword).isEmpty then 0 else 1)<30))=true:=by rfl)
 (hline:(apos.endLine==cpos.line)=true:=by rfl) (hs:starEach (e::es) X.env=(false,eval e X.env)::starEach es X.env:=by rfl) (hplain:(backTo cpos (starEach es X.env)).any (·.1)=false:=by rfl):
 PE X (.Call (.Attribute o name apos) (e::es) [] cpos) (tBM X.K T r to t):=by
 intro pins s σ H Q I h
 refine wpAny_Call_method_late hbase hfew hline rfl (thn (ho pins s σ H _ I h) fun v s1 ⟨x,H1,I1,r1,ty,q1⟩=>?_)
 obtain⟨h1,h2⟩:=y6L I1 r1 ty
 refine⟨T,id,pa,slot,hty,h1,h2,?_⟩
 have hA:=ha cpos pins s1 σ H1 _ I1 q1
 rw[hs] at hA ⊢
 refine Calls.callWith_builtin (by show (false || (backTo cpos (starEach es X.env)).any (·.1))=false;rw[hplain]<;>rfl) (Calls.evalArgs_plain ?_)
 exact thn hA fun us s2 ⟨vs,H2,I2,r2,q2⟩=>hm pins s2 σ H2 x vs v us Q I2 r1 r2 q2
end
end L2
namespace L2
open PySem PySem.Spec PyProof.Rows
def MtM (X:Cx) (id:String) (r:V→List V→Hp→VK→Prop):Prop:=
 ∀(pins:List (Addr×Obj)) (s:Shared) (σ:St) (H:Hp) (x:V) (xs:List V) (v:Value) (us:List Value) (Q:VK),Inv X pins σ H s→RelV x v→Vals xs us→r x xs H Q→
  wpAny (model X.prog X.w) X.A (call (.builtin id) (v::us)) (EP X pins σ Q) X.xe s
theorem Vals.one:∀{x:V}{us:List Value},Vals [x] us→∃u,us=[u]∧RelV x u
 |_,_,.cons r .nil =>⟨_,rfl,r⟩
theorem Vals.eraseIdx:∀{xs:List V}{us:List Value} (i:Nat),Vals xs us→Vals (xs.eraseIdx i) (us.eraseIdx i)
 |_,_,_,.nil => .nil
 |_,_,0,.cons _ t=>t
 |_,_,i+1,.cons r t=> .cons r (Vals.eraseIdx i t)
theorem Vals.rep {xs:List V}{us:List Value} (h:Vals xs us):∀k:Nat,Vals (List.replicate k xs).flatten (List.replicate k us).flatten
 |0=> .nil
 |k+1=>by
  rw[q1k,q1k,q1X,q1X]
  exact Vals.append h (Vals.rep h k)
theorem z6T {α:Type}:∀(l:List α) (i:Nat),(l.eraseIdx i).length ≤l.length
 |[],_=>Nat.le_refl _
 |_::_,0=>Nat.le_succ _
 |_::r,i+1=>Nat.succ_le_succ (z6T r i)
theorem z6Y (its:List Value):∀(k:Nat) (acc:List Value),
 List.foldl (fun x1 x2=>x1++x2) acc.toArray (List.replicate k its.toArray)=(acc++(List.replicate k its).flatten).toArray
 |0,acc=>by simp
 |k+1,acc=>by
  have e:acc.toArray++its.toArray=(acc++its).toArray :=by simp
  have e2:(acc++its)++(List.replicate k its).flatten =acc++(List.replicate (k+1) its).flatten :=by
   rw[q1k,q1X,q1A]
  rw[←e2,←z6Y its k (acc++its),←e,q1k,q1W]
section
variable {X:Cx}{pins:List (Addr×Obj)}{σ:St}{H:Hp}{s:Shared}{l b:Addr}{xs ys zs:List V}
theorem Inv.lset {its its':List Value}{n:Nat}{f:Array Value→Array Value}{t':Nat} (I:Inv X pins σ H s) (hH:H l=some (.lst xs))
 (e:s.heap.get? l=some {cls:= .type "list",data:= .seq its.toArray n}) (hf:f its.toArray=its'.toArray) (hv:Vals ys its') (hz:ys.length≤sizeLine):
 Inv X pins σ (upd H l (.lst ys)) {s with heap:=s.heap.update l (Obj.mapSeq f),toks:=t'}:=by
 have q:=PySem.IsL.update e f
 rw[hf] at q
 refine I.write (x:=l) (e:=l) (by rw[hH];exact trivial) (.inl rfl) (fun b' u hb hu=>(q1n s.heap (Obj.mapSeq f) (Ne.symm hb)).trans hu) ⟨_,q⟩ ?_
 exact⟨hz,its',_,hv,q⟩
theorem Inv.lnew {its:List Value}{t':Nat} (I:Inv X pins σ H s) (hv:Vals ys its) (hz:ys.length≤sizeLine):
 Inv X pins σ (upd H s.heap.objs.size (.lst ys)) {s with heap:=s.heap.push {cls:= .type "list",data:= .seq its.toArray},toks:=t'}:=
 I.laid (fun _ _ q=>q0d _ q) (q0i _) ⟨hz,its,0,hv,q0s _ rfl⟩
theorem Inv.fresh (I:Inv X pins σ H s):H s.heap.objs.size=none:=I.hok.fresh (q0i _)
theorem Inv.lstM (I:Inv X pins σ H s) (hH:H l=some (.lst xs)):xs.length≤sizeLine∧∃(its:List Value) (n:Nat),Vals xs its∧xs.length=its.length∧s.heap.get? l=some {cls:= .type "list",data:= .seq its.toArray n}:=by
 obtain⟨z,its,n,r,e⟩:=I.hok l _ hH
 exact⟨z,its,n,r,r.length,e⟩
theorem y3Z {n:Nat} (h:n≤sizeLine):Builtin.List.listTooLong n=false:=by
 unfold Builtin.List.listTooLong
 exact decide_eq_false (by lia)
end
section
variable {X:Cx}
def y5C:V→List V→Hp→VK→Prop:=fun x vs H Q=>∃l xs y,x= .ref l∧vs=[y]∧H l=some (.lst xs)∧xs.length<sizeLine∧Q .non (upd H l (.lst (xs++[y])))
theorem z1n:MtM X "list.append" y5C:=by
 intro pins s σ H x vs v us Q I rx rv h
 obtain⟨l,xs,y,rfl,rfl,hH,hz,q⟩:=h
 cases rx
 obtain⟨u,rfl,ru⟩:=rv.one
 obtain⟨z,its,n,r,hl,e⟩:=I.lstM hH
 refine call_meets F.slot_list_append ⟨_,e,rfl⟩ F.entry_list_append (F.args_list_append_2 _ _) (PySem.list_append l its.toArray n u (by rw[q0e];lia)) ⟨e,?_⟩
 refine⟨.non,_,I.lset (its':=its++[u]) hH e (by simp) (r.append (.cons ru .nil)) ?_,rfl,q⟩
 rw[q0k,q1j]
 lia
def rCat:R2:=fun x y H Q=>∃l b xs zs,x= .ref l∧y= .ref b∧H l=some (.lst xs)∧H b=some (.lst zs)∧xs.length+zs.length≤sizeLine∧∀p,H p=none→Q (.ref p) (upd H p (.lst (xs++zs)))
theorem z2z:OpR X (binaryOp .Add) rCat:=by
 intro pins s σ H x y v u Q I rx ry h
 obtain⟨l,b,xs,zs,rfl,rfl,hH,hB,hz,q⟩:=h
 cases rx
 cases ry
 obtain⟨z,its,n,r,hl,e⟩:=I.lstM hH
 obtain⟨z2,its2,n2,r2,hl2,e2⟩:=I.lstM hB
 refine PySem.P.add_list e e2 ?_ (by rw[q0e,q0e];lia)
 have ea:its.toArray++its2.toArray=(its++its2).toArray :=by simp
 rw[ea]
 exact⟨.ref _,_,I.lnew (t':=s.toks) (r.append r2) (by rw[q0k];lia),rfl,q _ I.fresh⟩
def rRep:R2:=fun x y H Q=>∃l k xs,x= .ref l∧y= .int k∧H l=some (.lst xs)∧ -(2^63)≤k∧k<2^63∧xs.length*k.toNat≤sizeLine∧
 ∀p,H p=none→Q (.ref p) (upd H p (.lst (List.replicate k.toNat xs).flatten))
theorem y6c {α:Type} (xs:List α) (k:Nat):(List.replicate k xs).flatten.length =k*xs.length:=by
 induction k with
 |zero=>simp
 |succ k ih=>rw[List.replicate_succ,List.flatten_cons,List.length_append,ih,Nat.succ_mul,Nat.add_comm]
theorem z6K:OpR X (binaryOp .Mult) rRep:=by
 intro pins s σ H x y v u Q I rx ry h
 obtain⟨l,k,xs,rfl,rfl,hH,h1,h2,hz,q⟩:=h
 cases rx
 obtain⟨t,rfl⟩:=ry
 obtain⟨z,its,n,r,hl,e⟩:=I.lstM hH
 have hlen:its.toArray.size*k.toNat≤sizeLine:=by rw[q0e,←hl];exact hz
 have hcap:¬its.toArray.size*k.toNat>(2^63 - 1)/8:=by
  have:(sizeLine:Nat)≤(2^63 - 1)/8:=by decide
  lia
 have hfit:¬(!Builtin.List.listFitsIndex k)=true:=by
  rw[fitsIndex_both h1 h2]
  exact q0F
 have hlong:¬Builtin.List.listTooLong (its.toArray.size*k.toNat)=true:=by
  rw[y3Z hlen]
  exact q0F
 have hnew:List.foldl (fun x1 x2=>x1++x2) #[] (List.replicate (if its.toArray.isEmpty=true then 0 else k.toNat) its.toArray)=(List.replicate k.toNat its).flatten.toArray :=by
  have f0:∀m:Nat,List.foldl (fun x1 x2=>x1++x2) #[] (List.replicate m its.toArray)=(List.replicate m its).flatten.toArray :=fun m=>by
   have:=z6Y its m []
   rw[List.nil_append] at this
   exact this
  rw[f0]
  cases its with
  |nil=>simp
  |cons a r'=>rw[if_neg (by simp)]
 refine wpAny_binaryOp_repeat_ref (T:="list") (U:="int") (by decide) ⟨_,e,rfl⟩ (fun s'=>typeIs_int s' k t) noFill_list_mul F.fills_int_mul F.slot_int_rmul repeat_list F.slot_int_index.lookup
  (call_meets F.slot_int_rmul (typeIs_int s k t) F.entry_int_rmul (F.args_int_rmul_2 _ _) (int___rmul___int_list k t l its.toArray n)
   ⟨e,rfl,⟨_,e,rfl⟩,call_meets F.slot_list_mul ⟨_,e,rfl⟩ F.entry_list_mul (F.args_list_mul_2 _ _) (AutoListH.list___mul___list_int_3 l its.toArray n k t hfit hcap hlong) ⟨e,?_⟩⟩)
 rw[hnew]
 exact⟨.ref _,_,I.lnew (t':=s.toks) (r.rep k.toNat) (by rw[y6c,Nat.mul_comm];exact hz),rfl,q _ I.fresh⟩
end
section
variable {prog:Program}{w:World}{A:Around}{E:Value→Shared→Prop}{s:Shared}
end
section
variable {X:Cx}
end
end L2
namespace Att
open PySem PySem.W PySem.Calls PyProof.Rows
theorem z4A {P:Params}{h:Heap}:∀(ns:List Int) (vs:List Value),WellAll P h vs (ns.map WData.int)→IntsAre vs ns:=by
 intro ns
 induction ns with
 |nil=>
  intro vs w
  rw[List.map_nil] at w
  cases w
  exact .nil
 |cons n ns ih=>
  intro vs w
  rw[q0q] at w
  cases w with
  |cons a b=>
   cases a
   exact .cons _ _ (ih _ b)
theorem y1b {l:OpenLaw}{n:Nat} (hn:l.most=some n) {P:Params}{h:Heap}{args:List WData}{vals:List Value}
 (hpre:l.row.toRowW.claim.pre args=true) (hwl:WellAll P h vals args):
 ∃a vs ns,vals=[Value.ref a]∧args=[WData.list (ns.map WData.int)]∧h.get? a=some {cls:= .type "list",data:= .seq vs.toArray}∧IntsAre vs ns∧ns.length≤n:=by
 have hsh:WShape.hasAll [] args [.list .int]=true:=(pre_splitW hpre).1
 have hc:l.pre.holds [] {args:=args}=true:=(pre_splitW hpre).2
 obtain⟨d,r,rfl,h1,h2⟩:=hasAllW_cons hsh
 obtain rfl:=hasAllW_nil h2
 obtain⟨xs,rfl,h3⟩:=hasW_list h1
 obtain⟨ns,rfl⟩:=items_int h3
 have hlen:ns.length≤n:=by
  unfold OpenLaw.pre at hc
  have h4:(WTm.not (.lt (.lit (.int (n:Int))) (.len (.arg 0)))).holds [] {args:=[.list (ns.map .int)]}=true:=by
   have h4:=(holds_andW hc).1
   rw[hn] at h4
   exact h4
  have h5:=condW_of h4 (w_not (w_lt w_lit (w_len_list (w_arg rfl))))
  rw[q0a] at h5
  refine Nat.le_of_not_lt fun q=>?_
  have q':(n:Int)<((ns.length:Nat):Int):=by lia
  first
   |(rw[decide_eq_true q'] at h5;exact absurd h5 (by decide))
   |(simp at h5;lia)
 cases hwl with
 |cons w1 w2=>
  cases w2
  cases w1 with
  |list ho hall=>exact⟨_,_,ns,rfl,rfl,ho,z4A ns _ hall,hlen⟩
theorem y1s (l:OpenLaw) (args:List WData):l.row.toRowW.claim.post args (.bool true) args=true:=
 postW_of (r:=l.row.toRowW) (X:=(true==true))
  (show WShape.has [] (.bool true) .bool =true by first|rfl|decide|simp[WShape.has,WShape.arms,WShape.armsAll])
  (show (WTm.eq .res (.lit (.bool true))).value [] {args:=args,res:=some (.bool true),after:=args}=some (.bool (true==true)) from w_eq_bool (w_res rfl) w_lit) rfl
theorem attach_call {l:OpenLaw}{n:Nat}{q:Program}{loose:List Str}{XP:(Str→Option Value)→Heap→Prop}{YP:World→Heap→Prop}{d:DefRec}
 (hn:l.most=some n) (hdf:d.params.defaults=[])
 (call:∀(w:World) (s₀ s₁:Shared) (mg mb:Str→Option Value) (fa:Addr) (o:Obj) (pm cd doc:Value) (a:Addr) (vs:List Value) (ns:List Int),
  Ground q loose [] XP w s₀ mg mb s₁.heap→YP w s₁.heap→
  s₁.heap.get? fa=some o→o.data= .func (docDef d.name d.params d.body d.scope pm cd doc)→s₁.heap.CodeRec cd d.name→mg d.name=some (.ref fa)→
  s₁.heap.get? a=some {cls:= .type "list",data:= .seq vs.toArray}→IntsAre vs ns→ns.length≤n→s₁.gens= #[]→
  codeAny (model l.prog w) callerA (.call (.ref fa) ⟨[.ref a],[]⟩) (fun r s'=>r= .ok (.ret (.bool true))∧OldK s₁.heap s'.heap∧s'.os=s₁.os∧AllBare s'.gens) s₁):
 WalkO q loose XP YP l.row.toRowW d [] (fun f vs=>PySem.call f vs):=by
 intro w s₀ s₁ mg mb G Y fa o pm cd doc dV kV ho hd hcd hD hmg hg args vals as hpre hlay hrd hwl hlo
 obtain rfl:dV= .none :=Dflts.none hD hdf
 obtain rfl:kV= .none :=Dflts.noKw hD
 obtain⟨a,vs,ns,rfl,rfl,hobj,hints,hlen⟩:=y1b hn hpre hwl
 refine enter_call (codeAny_mono (call w s₀ s₁ mg mb fa o pm cd doc a vs ns G Y ho (fd_plain hd) hcd hmg hobj hints hlen hg) fun r s' hq=>?_)
 obtain⟨rfl,h2,h3,h4⟩:=hq
 exact⟨.inl ⟨.bool true,.bool true,[],rfl,fun _=>rfl,.bool true,y1s l _,fun _=>⟨List.Pairwise.nil,fun _ hm=>(nomatch hm)⟩⟩,h2,h3,h4⟩
section
variable {prog:Program}{w:World}{A:Around}{E:Value→Shared→Prop}{s:Shared}{K:Frag}
end
end Att
namespace L2
open PySem PySem.Spec PyProof.Rows
theorem z6p:∀{vs:List Value}{ns:List Int},IntsAre vs ns→Vals (ns.map V.int) vs
 |_,_,.nil => .nil
 |_,_,.cons n t h=> .cons ⟨t,rfl⟩ (z6p h)
def Only (H:Hp):Prop:=∀b,H b=none∨∃o xs,H b=some (.frz o (.lst xs))
theorem y4f {P:Program}{w:World}{K:PySem.W.Frag}{mg mb:Str→Option Value}{CX:CXT}{k:Nat}{fa a:Addr}{fd:FuncData}{x:Str}{sp:Sp}{s₁:Shared}{vs:List Value}{ns:List Int}
 (KX:K.In s₁.heap) (hns:s₁.heap.Ns mainGlobals mg) (hb:s₁.heap.Ns builtinsNs mb) (hbb:∀x:Str,x≠"__name__"→mb x=bootBuiltins x) (hlim:s₁.heap.NoLimit) (hg:s₁.gens= #[])
 (ha:s₁.heap.get? a=some {cls:= .type "list",data:= .seq vs.toArray}) (hi:IntsAre vs ns) (hl:ns.length≤sizeLine) (hr:Room k callerA)
 (F:∀base:Heap,K.In base→base.Ns mainGlobals mg→FnOk P w K mg base CX k fa fd [x] sp) (hbind:∀(s:Shared) (u:Value),BindsTo s fd ⟨[u],[]⟩ [(x,u)])
 (hsp:∀H:Hp,Only H→SqL K H a (ns.map V.int)→sp [.ref a] H (fun v _=>v= .bl true) fun _ _ _=>False)
 (hCX:∀H e s',CX [] H s₁ (fun _ _ _=>False) e s'→False):
 codeAny (model P w) callerA (.call (.ref fa) ⟨[.ref a],[]⟩) (fun r s'=>r= .ok (.ret (.bool true))∧OldK s₁.heap s'.heap∧s'.os=s₁.os∧AllBare s'.gens) s₁:=by
 have rv:=z6p hi
 have lenV:=hi.length
 have core:∀H:Hp,Only H→SqL K H a (ns.map V.int)→HOk P w H s₁.heap→(∀b,H b≠none→b=a)→(H a≠none→K.lookup a=none)→
  codeAny (model P w) callerA (.call (.ref fa) ⟨[.ref a],[]⟩) (fun r s'=>r= .ok (.ret (.bool true))∧OldK s₁.heap s'.heap∧s'.os=s₁.os∧AllBare s'.gens) s₁:=by
  intro H hO hS hok hA hK
  have base_of:∀{b:Addr}{o:Obj},s₁.heap.get? b=some o→H b=none→(y4k s₁.heap H).get? b=some o:=fun e n=>y4j e n
  have noA:∀{b:Addr}{o:Obj}{es:Array DictEntry}{ep:Nat},s₁.heap.get? b=some o→o.data= .dict es ep→H b=none:=fun {b o es ep} e d=>by
   cases q:H b with
   |none=>rfl
   |some u=>
    have e':b=a:=hA b (by rw[q];simp)
    subst e'
    rw[ha] at e;cases e
    have d':Data.seq vs.toArray _=Data.dict es ep:=d
    cases d'
  have nsK:∀{b:Addr}{m:Str→Option Value},s₁.heap.Ns b m→(y4k s₁.heap H).Ns b m:=fun {b m} ⟨o,es,ep,e,d,r⟩=>⟨o,es,ep,base_of e (noA e d),d,r⟩
  have hKb:K.In (y4k s₁.heap H):=fun b o e=>base_of (KX b o e) (by
   cases q:H b with
   |none=>rfl
   |some u=>
    have e':b=a:=hA b (by rw[q];simp)
    subst e'
    rw[hK (by rw[q];simp)] at e;cases e)
  have hM:Mod K mg (y4k s₁.heap H):=⟨hKb,nsK hns,⟨mb,nsK hb,hbb⟩,let ⟨mc,h1,h2⟩:=hlim;⟨mc,nsK h1,h2⟩⟩
  have e0:Env0 P w K mg (y4k s₁.heap H) callerA [] s₁ H:=⟨rfl,hM,fun b o e=>y5W e,Nat.le_of_eq (y2p _ _),trivial,fun b hb=>absurd (show b∈([]:List Addr) from hb) (by simp),hok,.of_eq hg⟩
  refine codeAny_mono ((F _ hKb (nsK hns)).run callerA [] s₁ H ⟨[.ref a],[]⟩ [.ref a] [.ref a] _ _ hr e0 (hbind s₁ (.ref a)) (.cons rfl .nil) (hsp H hO hS)) fun r s' h=>?_
  cases r with
  |error e=>exact (hCX H e s' h).elim
  |ok fl=>
   cases fl with
   |next=>exact False.elim h
   |brk=>exact False.elim h
   |cont=>exact False.elim h
   |ret u=>
    obtain⟨v,H',os,bare,un,hok',r',q⟩:=h
    have q':v= .bl true:=q
    subst q'
    obtain rfl:u=Value.bool true:=r'
    refine⟨rfl,OldK.of_keep fun b o e=>?_,os,bare⟩
    cases q:H b with
    |none=>exact un.keep b o e q (by intro z;exact absurd (show b∈([]:List Addr) from z) (by simp)) (by simp)
    |some u=>
     rcases hO b with z|⟨ob,xs,z⟩
     ·rw[q] at z;cases z
     ·have z2:=un.frzs b ob _ z
      obtain⟨e1,_⟩:=hok b _ z
      obtain⟨e2,_⟩:=hok' b _ z2
      rw[e] at e1;cases e1
      exact e2
 cases hk:K.lookup a with
 |some o=>
  have e:=KX a o hk
  rw[ha] at e
  cases e
  refine core (fun _=>none) (fun _=> .inl rfl) (.inr ⟨_,vs.toArray,_,hk,rfl,rfl,rfl,by rw[q0e,lenV];exact hl,by simpa using rv⟩) (fun b u z=>by have z':(none:Option HO)=some u:=z;cases z') (fun b z=>absurd rfl z) fun z=>absurd rfl z
 |none=>
  refine core (fun b=>if b=a then some (.frz {cls:= .type "list",data:= .seq vs.toArray} (.lst (ns.map V.int))) else none) (fun b=>?_) (.inl (.inr ⟨{cls:= .type "list",data:= .seq vs.toArray},if_pos rfl⟩)) (fun b u z=>?_) (fun b z=>?_) fun _=>hk
  ·by_cases hb:b=a
   ·exact .inr ⟨_,_,if_pos hb⟩
   ·exact .inl (if_neg hb)
  ·by_cases hb:b=a
   ·have z':=(if_pos hb).symm.trans z
    cases z'
    subst hb
    exact⟨ha,by rw[q0a];exact hl,vs,_,rv,ha⟩
   ·have z':=(if_neg hb).symm.trans z
    cases z'
  ·by_cases hb:b=a
   ·exact hb
   ·exact absurd (if_neg hb) z
end L2
namespace L2
open PySem PySem.Spec PyProof.Rows
theorem walk_of {l:PySem.W.OpenLaw}{n k:Nat}{q:Program}{loose:List Str}{XP:(Str→Option Value)→Heap→Prop}{YP:World→Heap→Prop}{d:DefRec}{K:Params→PySem.W.Frag}{CX:World→CXT}{sp:World→Sp}{x:Str}
 (hn:l.most=some n) (hn2:n≤sizeLine) (hdf:d.params.defaults=[]) (hr:Room k callerA)
 (hY:∀(w:World) (h:Heap),YP w h→(K w.params).In h)
 (F:∀(w:World) (mg:Str→Option Value) (fa:Addr) (h:Heap),(K w.params).In h→h.Ns mainGlobals mg→mg d.name=some (.ref fa)→
  ∃fd:FuncData,(∀(s:Shared) (u:Value),BindsTo s fd ⟨[u],[]⟩ [(x,u)])∧
   ∀base:Heap,(K w.params).In base→base.Ns mainGlobals mg→FnOk l.prog w (K w.params) mg base (CX w) k fa fd [x] (sp w))
 (hsp:∀(w:World) (H:Hp) (a:Addr) (ns:List Int),ns.length≤n→Only H→SqL (K w.params) H a (ns.map V.int)→sp w [.ref a] H (fun v _=>v= .bl true) fun _ _ _=>False)
 (hCX:∀(w:World) (H:Hp) (s:Shared) (e:Value) (s':Shared),CX w [] H s (fun _ _ _=>False) e s'→False):
 PySem.W.WalkO q loose XP YP l.row.toRowW d [] (fun f vs=>PySem.call f vs):=by
 refine Att.attach_call hn hdf fun w s₀ s₁ mg mb fa o pm cd doc a vs ns G Y ho hd hcd hmg hobj hints hlen hg=>?_
 have KX:=hY w _ Y
 obtain⟨fd,hb,hF⟩:=F w mg fa _ KX G.T.g hmg
 exact y4f KX G.T.g G.T.b G.T.builtins G.T.nolimit hg hobj hints (q0m hlen hn2) hr hF hb (fun H hO hS=>hsp w H a ns hlen hO hS) fun H e s'=>hCX w H s₁ e s'
end L2
namespace L2
open PySem PySem.Spec PyProof.Rows
def z2I (s:Stmt):Arguments:=match s with
 | .FunctionDef _ a _ _ _ _ _ _ _ _=>a
 |_=>{posonlyargs:=[],args:=[],vararg:=none,kwonlyargs:=[],kw_defaults:=[],kwarg:=none,defaults:=[]}
def z2l (s:Stmt):List Stmt:=match s with
 | .FunctionDef _ _ b _ _ _ _ _ _ _=>b
 |_=>[]
def z0l (s:Stmt):Scope:=match s with
 | .FunctionDef _ _ _ _ _ _ sc _ _ _=>sc
 |_=>{kind:= .function,names:=[],isGenerator:=false,isCoroutine:=false}
abbrev CX0:CXT:=fun _ _ _ _ _ _=>False
abbrev E0:XK:=fun _ _ _=>False
theorem pass0 {X:Cx}:y3e CX0 X E0:=fun _ _ _ _ _ _ _ h=>h.elim
structure Fun (K:PySem.W.Frag) (x qual:Str) (st:Stmt) (f:Addr) (fd:FuncData):Prop where
 ex:∃(oc:Value) (od:Option Addr) (kV doc pm:Value) (an:Option Addr) (cdv ct:Value) (osl:Array (Option Value)),
  fd=PySem.W.fnOf x qual (z2I st) (z2l st) (z0l st) .none kV doc pm an cdv ct∧K.lookup f=some ⟨oc,od,.func fd,osl⟩∧PySem.W.codeIn K cdv qual=true
 kp:PySem.W.keepIn K (.ref f)=true
section
variable {P:Program}{w:World}{K:PySem.W.Frag}{mg:Str→Option Value}{base:Heap}
theorem Fun.ok {x qual:Str}{st:Stmt}{f:Addr}{fd:FuncData}{N ps:List Str}{k:Nat}{sp:Sp} (F:Fun K x qual st f fd) (S:z0u N ps (z0l st)) (len:∀vs H Q E,sp vs H Q E→vs.length=ps.length)
 (hbody:∀(cdv:Value) (A:Around) (outer:List Env) (s:Shared) (H:Hp) (vs:List V) (Q:VK) (E:XK),Room k (A.deeper (envOfC qual (z0l st) s.heap.objs.size f cdv))→sp vs H Q E→
  ∃t,PSs (y6I CX0 P w K mg base N qual (z0l st) f cdv A outer s H E).nox (z2l st) t∧t {nx:=fun _ H'=>Q .non H',rt:=Q} (z6t N vs) H):FnOk P w K mg base CX0 (k+1) f fd ps sp:=by
 obtain⟨oc,od,kV,doc,pm,an,cdv,ct,osl,rfl,lk,hcd⟩:=F.ex
 refine fn_of lk hcd S len fun A outer s H vs Q E hr hsp=>?_
 obtain⟨t,h,q⟩:=hbody cdv A outer s H vs Q E hr hsp
 exact⟨t,h.nox,q⟩
theorem Fun.binds {x qual:Str}{st:Stmt}{f:Addr}{fd:FuncData}{ps:List Str} (F:Fun K x qual st f fd)
 (h:∀(kV doc pm:Value) (an:Option Addr) (cdv ct:Value) (us:List Value),us.length=ps.length→bindArgs (PySem.W.fnOf x qual (z2I st) (z2l st) (z0l st) .none kV doc pm an cdv ct) ⟨us,[]⟩=pure (ps.zip us)):Binds K fd ps []:=by
 obtain⟨oc,od,kV,doc,pm,an,cdv,ct,osl,rfl,lk,hcd⟩:=F.ex
 exact .all (h kV doc pm an cdv ct)
theorem y5c {x qual:Str}{st:Stmt}{f:Addr}{oc:Value}{od an:Option Addr}{osl:Array (Option Value)}{kV doc pm cdv ct:Value} (l:K.lookup f=some ⟨oc,od,.func (PySem.W.fnOf x qual (z2I st) (z2l st) (z0l st) .none kV doc pm an cdv ct),osl⟩)
 (c:PySem.W.codeIn K cdv qual=true) (k:PySem.W.keepIn K (.ref f)=true):Fun K x qual st f (PySem.W.fnOf x qual (z2I st) (z2l st) (z0l st) .none kV doc pm an cdv ct):=⟨⟨oc,od,kV,doc,pm,an,cdv,ct,osl,rfl,l,c⟩,k⟩
end
theorem hu_of {A:Around}{k:Nat} (hr:Room k A):A.units+1<cLine:=Nat.lt_of_le_of_lt (Nat.add_le_add_left (by decide:1≤64) _) hr.units
section
variable {X:Cx}
theorem pv (i:Nat) {x:Str}{pos:Pos} (hN:X.N[i]? =some x:=by rfl) (hv:Vis X.env.scope x:=by first|exact Or.inl rfl|exact Or.inr (Or.inl rfl)|exact Or.inr (Or.inr rfl)) (hd:(x==("__debug__":Str))=false:=by decide)
 (hcd:(x==("__classdict__":Str))=false:=by decide):PE X (.Name x pos) (tVar i):=y7i hN hv hd hcd
end
theorem z5i {A B:Prop} (h:B):if false=true then A else B:=by
 rw[if_neg q0F]
 exact h
theorem z5h {A B:Prop} (h:A):if true=true then A else B:=by
 rw[if_pos rfl]
 exact h
theorem z6c {c A B:Prop} [Decidable c] (h1:c→A) (h2:¬c→B):if c then A else B:=by
 by_cases h:c
 ·rw[if_pos h]
  exact h1 h
 ·rw[if_neg h]
  exact h2 h
def Same (H H':Hp):Prop:=∀b o,H b=some o→H' b=some o
theorem Same.refl (H:Hp):Same H H:=fun _ _ h=>h
theorem Same.trans {H H1 H2:Hp} (a:Same H H1) (b:Same H1 H2):Same H H2:=fun c o h=>b c o (a c o h)
theorem Same.free {H H':Hp} (e:Same H H') {l:Addr} (h:H' l=Option.none):H l=Option.none:=by
 cases q:H l with
 |none=>rfl
 |some o=>
  rw[e l o q] at h
  cases h
end L2
namespace L2
open PySem PySem.Spec PyProof.Rows
section
variable {X:Cx}{pins:List (Addr×Obj)}{σ:St}{H:Hp}{s:Shared}{h':Heap}
theorem Inv.turnedLaid {fp:List Addr}{a:Addr}{o:HO}{t':Nat} (I:Inv X pins σ H s) (hf:∀b∈fp,y0u X pins H b) (k:∀b ob,b∉fp→s.heap.get? b=some ob→h'.get? b=some ob)
 (hp:s.heap.objs.size≤a) (new:ObjOk X.prog X.w (upd H a o) h' a o):Inv X pins σ (upd H a o) {s with heap:=h',toks:=t'}:=by
 have hn:H a=none:=I.hok.fresh hp
 have nit:∀b u,H b=some u→b∉fp:=fun b u e z=>by rw[(hf b z).1] at e;cases e
 refine I.step (g':=s.gens) (d':=s.drawn) (ch:=fp) (fun b hb=>?_) (fun b ob _ _ hc e _=>k b ob hc e) (fun b ob _ _ hc e _=>⟨ob.slots,k b ob hc e⟩) (fun b ob hc e n=>?_)
  (fun b ob hc e=>⟨ob,k b ob hc e⟩) (fun b xs q=>by rw[z0i (z0f q hn)];exact q) (fun b u xs q=>by rw[z0i (z0f q hn)];exact q)
  (fun b ps q=>⟨#[],by rw[z0i (z0f q hn),q];simp⟩) (fun m hm=>?_) (fun b u e=>?_) I.bare
 ·obtain⟨f0,f1,f2,f3,f4,f5⟩:=hf b hb
  exact⟨f3,f1,f4,f5⟩
 ·rw[z0i (q0o (q0y (q0t e) hp))];exact n
 ·obtain⟨ob,es,ep,ho,r⟩:=hm
  exact⟨ob,es,ep,k _ ob (fun z=>(hf _ z).2.1 rfl) ho,r⟩
 ·by_cases hb:b=a
  ·subst hb;rw[z0b] at e;cases e;exact new
  ·rw[z0i hb] at e
   refine (I.hok b u e).stay (fun c v hc q=>k c v ?_ q) (fun c q=>by rw[z0i (z0f q hn)];exact q) fun c xs q=>by rw[z0i (z0f q hn)];exact q
   rcases hc with z|z
   ·rw[z];exact nit b u e
   ·exact nit c _ z
theorem Inv.turnedAll {fp:List Addr}{t':Nat} (I:Inv X pins σ H s) (hf:∀b∈fp,y0u X pins H b) (k:∀b ob,b∉fp→s.heap.get? b=some ob→h'.get? b=some ob):Inv X pins σ H {s with heap:=h',toks:=t'}:=by
 have nit:∀b u,H b=some u→b∉fp:=fun b u e z=>by rw[(hf b z).1] at e;cases e
 refine I.step (g':=s.gens) (d':=s.drawn) (ch:=fp) (fun b hb=>?_) (fun b ob _ _ hc e _=>k b ob hc e) (fun b ob _ _ hc e _=>⟨ob.slots,k b ob hc e⟩) (fun b ob hc e n=>n)
  (fun b ob hc e=>⟨ob,k b ob hc e⟩) (fun b xs q=>q) (fun b u xs q=>q) (fun b ps q=>⟨#[],by rw[q];simp⟩) (fun m hm=>?_) (fun b u e=>?_) I.bare
 ·obtain⟨f0,f1,f2,f3,f4,f5⟩:=hf b hb
  exact⟨f3,f1,f4,f5⟩
 ·obtain⟨ob,es,ep,ho,r⟩:=hm
  exact⟨ob,es,ep,k _ ob (fun z=>(hf _ z).2.1 rfl) ho,r⟩
 ·refine (I.hok b u e).stay (fun c v hc q=>k c v ?_ q) (fun c q=>q) fun c xs q=>q
  rcases hc with z|z
  ·rw[z];exact nit b u e
  ·exact nit c _ z
end
def Ite (K:PySem.W.Frag) (a:Addr):It:=
 ⟨fun i H=>∃xs x,SqL K H a xs∧xs[i]? =some x,
  fun i H x H'=>∃p v,x= .ref p∧H p=none∧(∀xs,SqL K H a xs→xs[i]? =some v)∧H'=upd H p (.tup [.int i,v]),
  fun i H=>∃xs,SqL K H a xs∧xs.length≤i⟩
theorem y0C {P:Program}{w:World}{K:PySem.W.Frag}{elts:List Expr}{k:Nat}{pos:Pos} (a e it:Addr) (hne:e≠it):
 y5k P w K (.Tuple elts k pos) (Ite K a) [e,it] e (fun i h=>(∃old,IsEnum h e it ((i:Nat):Int) old)∧h.IsListIter it a i) where
 mem:=by simp
 obj:=fun i h st b hb=>by
  obtain⟨⟨old,st1⟩,st2⟩:=st
  rcases q0n.mp hb with rfl|hb
  ·exact⟨_,st1,fun v z=>by
        have z':Data.fields _=Data.cell v:=z
        cases z'⟩
  ·have e':=q0g.mp hb
   subst e'
   obtain⟨o,q,c,d⟩:=st2
   exact⟨o,q,fun v z=>by rw[d] at z;cases z⟩
 keep:=fun i h h' st k=>⟨let ⟨old,q⟩:=st.1;⟨old,k e (by simp) _ q⟩,st.2.at fun o q=>k it (by simp) o q⟩
 item:=by
  intro X hP hw hK hc i pins s σ H E I hf st hg
  subst hP hw hK
  obtain⟨xs,x,hq,hx⟩:=hg
  obtain⟨its,rv,p,hz⟩:=I.list hq
  obtain⟨u,hu,ru⟩:=rv.get hx
  obtain⟨⟨old,st1⟩,st2⟩:=st
  have he:=hf e (by simp)
  have hi:=hf it (by simp)
  have hlt:e<s.heap.objs.size:=q0t st1
  have hlt2:it<s.heap.objs.size:=by obtain⟨o,q,_⟩:=st2;exact q0t q
  refine wpAny_pyNext_enum_item st1 st2 p.isList (x:=u) (by simpa using hu) hne fun h' ho' st' hT hsz kk=>?_
  refine⟨_,rfl,wpAny_letOwnedTupleGo_enum ho' fun h2 he2 hs2=>?_⟩
  have hT2:h2.get? s.heap.objs.size=some {cls:= .type "tuple",data:= .seq #[.int i s.toks,u]}:=hs2.extBut _ _ (Nat.ne_of_gt hlt) hT
  have I1:Inv X pins σ (upd H s.heap.objs.size (.tup [.int i,x])) {s with heap:=h2,toks:=s.toks+1}:=by
   refine I.turnedLaid (fp:=[e,it]) hf (fun b ob hb q=>?_) (q0i _) ?_
   ·have hb1:b≠e:=fun z=>hb (by simp[z])
    have hb2:b≠it:=fun z=>hb (by simp[z])
    exact hs2.extBut b ob hb1 (kk b ob hb1 hb2 q)
   ·exact⟨by show 2≤sizeLine;decide,[.int i s.toks,u],.cons ⟨_,rfl⟩ (.cons ru .nil),_,hT2,rfl,_,rfl⟩
  refine⟨.ref s.heap.objs.size,_,I1,rfl,⟨_,x,rfl,I.hok.fresh (q0i _),fun ys hy=>by rw[I.list_inj hy hq];exact hx,rfl⟩,⟨⟨_,by simpa using he2⟩,?_⟩,fun b hb=>?_⟩
  ·exact st'.at fun o q=>hs2.extBut it o (Ne.symm hne) q
  ·rcases q0n.mp hb with rfl|hb
   ·rw[z0i (q0o hlt)];exact he.1
   ·have e':=q0g.mp hb
    subst e'
    rw[z0i (q0o hlt2)];exact hi.1
 done:=by
  intro X hP hw hK hc i pins s σ H E I hf st hg
  subst hP hw hK
  obtain⟨xs,hq,hx⟩:=hg
  obtain⟨its,rv,p,hz⟩:=I.list hq
  obtain⟨⟨old,st1⟩,st2⟩:=st
  have hl:=rv.length
  refine wpAny_pyNext_enum_end (I.ok.hd hc) st1 st2 p.isList (by simp;lia) fun h' eb=>⟨rfl,?_⟩
  exact I.turnedAll (t':=s.toks) (fp:=[e,it]) hf fun b ob hb q=>eb b ob (fun z=>hb (by simp[z])) q
 self:=fun _ _ _ _ _ st h=>let ⟨_,q⟩:=st.1;wpAny_pyIter_enum q h
section
variable {X:Cx}
def iEnum (tl:TA):TI:=fun σ H R=>tl σ H fun vs H1=>∃a xs,vs=[.ref a]∧H1 a=some (.lst xs)∧R (Ite X.K a) H1
theorem y5G {elts:List Expr}{k:Nat}{tpos:Pos}{l:Expr}{tl:TA}{p pos:Pos} (hg:Gl X "enumerate") (hm:X.mg "enumerate"=none) (ha:PA X [l] tl) (hs:starEach [l] X.env=[(false,eval l X.env)]:=by rfl):
 PI X (.Tuple elts k tpos) (.Call (.Name "enumerate" p) [l] [] pos) (iEnum (X:=X) tl):=by
 intro pins s σ H R I h
 refine Call_ (z2X I hg hm boot_enumerate (PyProof.Rows.callWith_type1 (thn (ha pos pins s σ H _ I h) fun us s1 ⟨vs,H1,I1,r1,q1⟩=>?_) hs rfl))
 obtain⟨a,xs,e,hq,q⟩:=q1
 subst e
 cases r1 with
 |cons r rr=>
  cases rr
  cases r
  obtain⟨hz,its,n,rv,hlen,ho⟩:=I1.lstM hq
  refine call_enumerate_1 ho fun h' he hit hsz kk=>wpAny_pyIter_enum he ?_
  have I2:Inv X pins σ H1 {s1 with heap:=h'}:=I1.kept (t':=s1.toks) kk
  refine⟨_,[s1.heap.objs.size+1,s1.heap.objs.size],_,_,H1,rfl,I2,y0C a _ _ (Nat.succ_ne_self _),⟨⟨_,he⟩,hit⟩,fun b hb=>?_,q⟩
  have fr:∀c,s1.heap.objs.size≤c→H1 c=none:=fun c hc=>I1.hok.fresh hc
  rcases q0n.mp hb with rfl|hb
  ·exact I1.fpOk (q1t _) (fr _ (q1t _))
  ·have e':=q0g.mp hb
   subst e'
   exact I1.fpOk (q0i _) (fr _ (q0i _))
end
end L2
namespace L2
open PySem PySem.Spec PyProof.Rows
open Builtin.Int (intBits)
section
variable {X:Cx}{a b c:Expr}{ta tb tc:TE}{pos:Pos}
theorem z0X:OpR X (binaryOp .Mult) (rI IntMulOk fun i j=> .int (i*j)):=opI fun _ _ _ _ _ _ _ hc q=>mul_int q hc
def CFd (_ j:Int):Prop:=j≠0∧intBits j≤9000
theorem noPy {i j:Int} (h:CFd i j):Builtin.divisionGoesByPylong i j=false:=by
 refine PyProof.noPylong_of_log2 ?_
 have h1:=intBits_le_iff.mp h.2
 have h0:j.natAbs≠0:=by have:=h.1;lia
 exact (Nat.log2_lt h0).mpr h1
theorem z4s:OpR X (binaryOp .FloorDiv) (rI CFd fun i j=> .int (i.fdiv j)):=opI fun _ _ _ _ _ _ _ hc q=>floordiv_int hc.1 q (.inl (noPy hc))
def CFp (_ j:Int):Prop:=0<j∧intBits j≤9000
theorem z5Q:OpR X (binaryOp .FloorDiv) (rI CFp fun i j=> .int (i/j)):=opI fun i j _ _ _ _ _ hc q=>by
 have h0:j≠0:=by have:=hc.1;lia
 refine floordiv_int h0 ?_ (.inl (noPy ⟨h0,hc.2⟩))
 rw[Int.fdiv_eq_ediv_of_nonneg i (q1B hc.1)]
 exact q
def CMod (_ j:Int):Prop:=0<j
theorem z1E:OpR X (binaryOp .Mod) (rI CMod fun i j=> .int (i%j)):=y7o
theorem cm {i j:Int} (h:decide (0<j)=true:=by rfl):CMod i j:=(show 0<j from of_decide_eq_true h)
theorem cf {i j:Int} (h:decide (0<j)=true:=by rfl) (h2:decide (intBits j≤9000)=true:=by rfl):CFp i j:=⟨(show 0<j from of_decide_eq_true h),(show intBits j≤9000 from of_decide_eq_true h2)⟩
theorem z4G:z1A X (.builtin "isinstance") (fun xs H Q=>∃x n t k,xs=[x,.ty n]∧y0t X.K H x t∧PySem.W.kitOne X.K t (.type n)=some k∧Q (.bl k) H):=by
 intro pins s σ H xs us Q I r h
 obtain⟨x,n,t,k,rfl,ty,e,q⟩:=h
 obtain⟨u,w',rfl,r1,r2⟩:=y3m r
 cases (show w'=Value.type n from r2)
 exact y2h I r1 ty e fun tk=>⟨.bl k,H,I.tok tk,rfl,q⟩
end
structure Cal (P:Program) (w:World) (K:PySem.W.Frag) (mg:Str→Option Value) (base:Heap) (n:Nat) (x:Str) (ps:List Str) (sp:Sp):Prop where
 ex:∃g gd,FnOk P w K mg base CX0 n g gd ps sp∧Binds K gd ps []∧PySem.W.keepIn K (.ref g)=true∧mg x=some (.ref g)
theorem Cal.mono {P:Program}{w:World}{K:PySem.W.Frag}{mg:Str→Option Value}{base:Heap}{n m:Nat}{x:Str}{ps:List Str}{sp:Sp} (c:Cal P w K mg base n x ps sp) (h:n≤m):Cal P w K mg base m x ps sp:=
 let ⟨g,gd,F,b,k,m⟩:=c.ex
 ⟨g,gd,F.mono h,b,k,m⟩
section
variable {X:Cx}{e:Expr}{es:List Expr}{t:TA}{p pos:Pos}
theorem z0p {n:Nat}{x:Str}{ps:List Str}{sp:Sp} (c:Cal X.prog X.w X.K X.mg X.base n x ps sp) (hr:Room n X.A) (hg:Gl X x) (ha:PA X (e::es) t) (hdb:(x==("__debug__":Str))=false:=by decide)
 (he:starEach (e::es) X.env=(false,eval e X.env)::starEach es X.env:=by rfl) (hpl:(backTo pos (starEach es X.env)).any (·.1)=false:=by rfl):PE X (.Call (.Name x p) (e::es) [] pos) (y6R sp [] E0 t):=by
 obtain⟨g,gd,F,b,k,m⟩:=c.ex
 exact y5I F hr hg m k b .nil pass0 ha hdb he hpl
end
theorem z0e {H:Hp}{p:Addr} (h:H p=none) (o:HO):Same H (upd H p o):=fun b u q=>by rw[z0i (z0f q h)];exact q
theorem Rd.same {H H':Hp}{a:Addr}{u:HO} (g:Same H H') (r:Rd H a u):Rd H' a u:=by
 rcases r with r|⟨o,r⟩
 ·exact .inl (g _ _ r)
 ·exact .inr ⟨o,g _ _ r⟩
theorem SqT.same {K:PySem.W.Frag}{H H':Hp}{a:Addr}{xs:List V} (g:Same H H') (h:SqT K H a xs):SqT K H' a xs:=by
 rcases h with h|h
 ·exact .inl (h.same g)
 ·exact .inr h
theorem SqL.same {K:PySem.W.Frag}{H H':Hp}{a:Addr}{xs:List V} (g:Same H H') (h:SqL K H a xs):SqL K H' a xs:=by
 rcases h with h|h
 ·exact .inl (h.same g)
 ·exact .inr h
def FrA (H:Hp) (v:V) (x y:Int):Prop:=∃p,v= .ref p∧H p=some (.tup [.int x,.int y])
theorem z2x {i j:Int}{m n:Nat} (hi:intBits i≤m) (hj:intBits j≤n) (h:m+n≤134217728:=by lia):IntMulOk i j:=IntMulOk.of_le hi hj h
end L2
namespace L2
open PySem PySem.Spec PySem.W PyProof.Rows
section
variable {prog:Program}{w:World}{A:Around}{E:Value→Shared→Prop}{h:Heap}{gn:Array GenState}{dr:Drawn}{tt:Nat}{os:OsState}{K:Frag}{x D:Addr}{ox:Obj}{odo:Option Obj}{name:Str}
end
theorem z6Q {o:Obj}{vs:Array Value} (hd:o.data= .fields vs) (f:Array Value→Array Value):o.mapFields f={o with data:= .fields (f vs)}:=by
 obtain⟨c,d,dt,sl⟩:=o
 subst hd
 rfl
section
variable {M:Model}{A:Around}{E:Value→Shared→Prop}{s:Shared}{base:Heap}{env:Env}{outer:List Env}{L a:Addr}{oe:Obj}{vs:Array Value}{Q:Unit→Shared→Prop}
end
end L2
namespace L2
open PySem PySem.Spec PySem.W PyProof.Rows
section
variable {X:Cx}{pins:List (Addr×Obj)}{σ:St}{H:Hp}{s:Shared}{a:Addr}{cls:Value}{dx:Option Addr}
end
section
variable {X:Cx}{pins:List (Addr×Obj)}{σ:St}{H:Hp}{s:Shared}{a:Addr}{cls:Value}{dx:Option Addr}{E:XK}
end
end L2
namespace L2
open PySem PySem.Spec PySem.W PyProof.Rows
theorem Cal.imp {P:Program}{w:World}{K:PySem.W.Frag}{mg:Str→Option Value}{base:Heap}{n:Nat}{x:Str}{ps:List Str}{sp sp':Sp} (c:Cal P w K mg base n x ps sp) (h:∀vs H Q E,sp' vs H Q E→sp vs H Q E):Cal P w K mg base n x ps sp':=
 let ⟨g,gd,F,b,k,m⟩:=c.ex
 ⟨g,gd,F.imp h,b,k,m⟩
section
variable {X:Cx}{e:Expr}{es:List Expr}{t:TA}{p pos:Pos}
end
section
variable {P:Program}{w:World}{K:PySem.W.Frag}{mg:Str→Option Value}{base:Heap}
end
section
variable {X:Cx}{E:XK}{C:Addr}{x:Str}{np cpos pos:Pos}{e₀:Expr}{rest:List Expr}{ta:TA}
end
section
variable {X:Cx}{pins:List (Addr×Obj)}{σ:St}{H:Hp}{s:Shared}
end
section
variable {X:Cx}{fx cx n:Str}{fp cpos xpos hp hpos tpos:Pos}{e:Expr}{es:List Expr}{ta:TA}{k j:Nat}{ps:List Str}{sp:Sp}{W:Addr}{st0:Stmt}{ts:TS}
end
section
variable {X:Cx}
end
end L2
namespace L2
open PySem PySem.Spec PyProof.Rows
inductive Dt where
 |i (n:Int)
 |t (l:List Dt)
 |l (l:List Dt)
mutual
inductive IsD (K:PySem.W.Frag) (H:Hp):V→Dt→Prop
 |i (n:Int):IsD K H (.int n) (.i n)
 |t {a:Addr}{xs:List V}{ds:List Dt}:SqT K H a xs→IsDs K H xs ds→IsD K H (.ref a) (.t ds)
 |l {a:Addr}{xs:List V}{ds:List Dt}:SqL K H a xs→IsDs K H xs ds→IsD K H (.ref a) (.l ds)
inductive IsDs (K:PySem.W.Frag) (H:Hp):List V→List Dt→Prop
 |nil:IsDs K H [] []
 |cons {x:V}{d:Dt}{xs:List V}{ds:List Dt}:IsD K H x d→IsDs K H xs ds→IsDs K H (x::xs) (d::ds)
end
mutual
def Dt.eqb:Dt→Dt→Bool
 | .i n,.i m=>n==m
 | .t a,.t b=>Dt.eqs a b
 | .l a,.l b=>Dt.eqs a b
 |_,_=>false
def Dt.eqs:List Dt→List Dt→Bool
 |[],[]=>true
 |x::a,y::b=>Dt.eqb x y&&Dt.eqs a b
 |_,_=>false
end
mutual
theorem Dt.eqb_iff:∀(d e:Dt),Dt.eqb d e=true↔d=e
 | .i n,.i m=>by simp[Dt.eqb]
 | .t a,.t b=>by simp only[Dt.eqb,Dt.t.injEq];exact Dt.eqs_iff a b
 | .l a,.l b=>by simp only[Dt.eqb,Dt.l.injEq];exact Dt.eqs_iff a b
 | .i _,.t _=>by simp[Dt.eqb]
 | .i _,.l _=>by simp[Dt.eqb]
 | .t _,.i _=>by simp[Dt.eqb]
 | .t _,.l _=>by simp[Dt.eqb]
 | .l _,.i _=>by simp[Dt.eqb]
 | .l _,.t _=>by simp[Dt.eqb]
theorem Dt.eqs_iff:∀(a b:List Dt),Dt.eqs a b=true↔a=b
 |[],[]=>by simp[Dt.eqs]
 |x::a,y::b=>by simp only[Dt.eqs,Bool.and_eq_true,List.cons.injEq,Dt.eqb_iff x y,Dt.eqs_iff a b]
 |[],_::_=>by simp[Dt.eqs]
 |_::_,[]=>by simp[Dt.eqs]
end
mutual
def Dt.ok:Nat→Dt→Dt→Bool
 |_,.i _,.i _=>true
 |n+1,.t a,.t b=>Dt.oks n a b
 |n+1,.l a,.l b=>Dt.oks n a b
 |_,_,_=>false
def Dt.oks:Nat→List Dt→List Dt→Bool
 |n,x::a,y::b=>Dt.ok n x y&&Dt.oks n a b
 |_,_,_=>true
end
section
variable {X:Cx}{pins:List (Addr×Obj)}{σ:St}{H:Hp}{s:Shared}{K:PySem.W.Frag}
theorem IsDs.length:∀{xs:List V}{ds:List Dt},IsDs K H xs ds→xs.length=ds.length
 |_,_,.nil =>rfl
 |_,_,.cons _ r=>by rw[List.length_cons,List.length_cons,r.length]
theorem z4R (n:Nat) (e:Nat→Bool):(List.range (n+1)).all e=(e 0&&(List.range n).all fun j=>e (j+1)):=by
 rw[List.range_succ_eq_map,List.all_cons,List.all_map]
 rfl
theorem z6g:∀(ds es:List Dt),(Dt.eqs (ds.take (min ds.length es.length)) (es.take (min ds.length es.length))&&ds.length==es.length)=Dt.eqs ds es
 |[],[]=>by simp[Dt.eqs]
 |[],_::_=>by simp[Dt.eqs]
 |_::_,[]=>by simp[Dt.eqs]
 |d::ds,e::es=>by
  have m:min (d::ds).length (e::es).length =min ds.length es.length+1:=by simp only[q0J];lia
  rw[m,List.take_succ_cons,List.take_succ_cons]
  have ih:=z6g ds es
  have l:((d::ds).length ==(e::es).length)=(ds.length==es.length):=by simp
  rw[l]
  simp only[Dt.eqs,Bool.and_assoc,ih]
mutual
theorem y2L (I:Inv X pins σ H s):∀{v:V}{d e:Dt},IsD X.K H v d→IsD X.K H v e→d=e
 |_,_,_,.i _,.i _=>rfl
 |_,_,_,.t q1 d1,.t q2 d2=>by
  have e1:=I.tuple_inj q1 q2
  subst e1
  rw[z6h I d1 d2]
 |_,_,_,.l q1 d1,.l q2 d2=>by
  have e1:=I.list_inj q1 q2
  subst e1
  rw[z6h I d1 d2]
 |_,_,_,.t q1 _,.l q2 _=>by
  obtain⟨_,_,⟨o,h1,h2,_⟩,_⟩:=I.tuple q1
  obtain⟨_,_,p,_⟩:=I.list q2
  obtain⟨o',h1',h2',_⟩:=p.isList
  rw[h1] at h1';cases h1'
  rw[h2] at h2'
  exact absurd (Value.type.inj h2') (by decide)
 |_,_,_,.l q2 _,.t q1 _=>by
  obtain⟨_,_,⟨o,h1,h2,_⟩,_⟩:=I.tuple q1
  obtain⟨_,_,p,_⟩:=I.list q2
  obtain⟨o',h1',h2',_⟩:=p.isList
  rw[h1] at h1';cases h1'
  rw[h2] at h2'
  exact absurd (Value.type.inj h2') (by decide)
theorem z6h (I:Inv X pins σ H s):∀{xs:List V}{ds es:List Dt},IsDs X.K H xs ds→IsDs X.K H xs es→ds=es
 |_,_,_,.nil,.nil =>rfl
 |_,_,_,.cons h1 r1,.cons h2 r2=>by rw[y2L I h1 h2,z6h I r1 r2]
end
def Told (X:Cx) (H:Hp) (s:Shared) (n:Nat) (A:Around):Prop:=∀(v u:V) (d e:Dt) (x y:Value),IsD X.K H v d→IsD X.K H u e→RelV v x→RelV u y→Dt.ok n d e=true→SeqAt.EqAt A s x y (Dt.eqb d e)
theorem y2x {n:Nat}{A:Around} (P:Told X H s n A):∀{xs ys:List V}{ds es:List Dt}{its its2:List Value},IsDs X.K H xs ds→IsDs X.K H ys es→Vals xs its→Vals ys its2→Dt.oks n ds es=true→
 ∃e:Nat→Bool,(∀j (h1:j<its.length) (h2:j<its2.length),SeqAt.EqAt A s its[j] its2[j] (e j))∧(List.range (min its.length its2.length)).all e=(Dt.eqs (ds.take (min ds.length es.length)) (es.take (min ds.length es.length)))
 :=by
 intro xs
 induction xs with
 |nil=>
  intro ys ds es its its2 h1 _ v1 _ _
  cases h1
  cases v1
  exact⟨fun _=>true,fun j h1 _=>absurd h1 (Nat.not_lt_zero _),by simp[Dt.eqs]⟩
 |cons a xs ih=>
  intro ys ds es its its2 h1 h2 v1 v2 ok
  cases h1 with
  | @cons _ d _ ds h1 r1=>
  cases v1 with
  | @cons _ x _ its v1 w1=>
  cases h2 with
  |nil=>
   cases v2
   exact⟨fun _=>true,fun j _ h2=>absurd h2 (Nat.not_lt_zero _),by simp[Dt.eqs]⟩
  | @cons _ e' _ es h2 r2=>
  cases v2 with
  | @cons _ y _ its2 v2 w2=>
  have ok':Dt.ok n d e'=true∧Dt.oks n ds es=true:=by simpa[Dt.oks] using ok
  have hd:=P _ _ d e' x y h1 h2 v1 v2 ok'.1
  obtain⟨e,he,hall⟩:=ih r1 r2 w1 w2 ok'.2
  refine⟨fun j=>Nat.casesOn j (Dt.eqb d e') e,fun j h1 h2=>?_,?_⟩
  ·cases j with
   |zero=>exact hd
   |succ j=>exact he j (by simpa using h1) (by simpa using h2)
  ·have m1:min (x::its).length (y::its2).length =min its.length its2.length+1:=by simp only[q0J];lia
   have m2:min (d::ds).length (e'::es).length =min ds.length es.length+1:=by simp only[q0J];lia
   rw[m1,m2,z4R,List.take_succ_cons,List.take_succ_cons]
   show (Dt.eqb d e'&&(List.range (min its.length its2.length)).all e)=(Dt.eqb d e'&&Dt.eqs _ _)
   rw[hall]
theorem y3z {ds es:List Dt} (hl:ds.length=es.length):Dt.eqs (ds.take (min ds.length es.length)) (es.take (min ds.length es.length))=Dt.eqs ds es:=by
 have e5:=z6g ds es
 have z:(ds.length==es.length)=true:=by simpa using hl
 rw[z,Bool.and_true] at e5
 exact e5
theorem y4H (I:Inv X pins σ H s) {n:Nat}{A:Around} (P:Told X H s n A.in1) (hu:A.units<cLine) {a b:Addr}{d e:Dt} (hv:IsD X.K H (.ref a) d) (hw:IsD X.K H (.ref b) e) (ok:Dt.ok (n+1) d e=true):
 SeqAt.RcAt A s (.ref a) (.ref b) (Dt.eqb d e)∧SeqAt.RcNeAt A s (.ref a) (.ref b) (!Dt.eqb d e):=by
 cases hv with
 |t q1 d1=>
  cases hw with
  |l _ _=>simp[Dt.ok] at ok
  |t q2 d2=>
   rename_i xs ds ys es
   obtain⟨its,rv,p,hz⟩:=I.tuple q1
   obtain⟨its2,rv2,p2,hz2⟩:=I.tuple q2
   have ok':Dt.oks n ds es=true:=by simpa[Dt.ok] using ok
   obtain⟨f,hf,hall⟩:=y2x P d1 d2 rv rv2 ok'
   have t1:=SeqAt.RcAt.tuples (A:=A) (s:=s) (e:=f) (show s.heap.IsTuple a its.toArray from p) (show s.heap.IsTuple b its2.toArray from p2) hu (fun j h1 h2=>by simpa using hf j (by simpa using h1) (by simpa using h2))
   have t2:=SeqAt.RcNeAt.tuples (A:=A) (s:=s) (e:=f) (show s.heap.IsTuple a its.toArray from p) (show s.heap.IsTuple b its2.toArray from p2) hu (fun j h1 h2=>by simpa using hf j (by simpa using h1) (by simpa using h2))
   rw[q0e,q0e,hall,←rv.length,←rv2.length,d1.length,d2.length,z6g ds es] at t1 t2
   exact⟨t1,t2⟩
 |l q1 d1=>
  cases hw with
  |t _ _=>simp[Dt.ok] at ok
  |l q2 d2=>
   rename_i xs ds ys es
   obtain⟨its,rv,p,hz⟩:=I.list q1
   obtain⟨its2,rv2,p2,hz2⟩:=I.list q2
   have ok':Dt.oks n ds es=true:=by simpa[Dt.ok] using ok
   have l1:its.length=ds.length:=by rw[←rv.length,d1.length]
   have l2:its2.length=es.length:=by rw[←rv2.length,d2.length]
   by_cases hl:ds.length=es.length
   ·obtain⟨f,hf,hall⟩:=y2x P d1 d2 rv rv2 ok'
    have sz:its.toArray.size=its2.toArray.size:=by rw[q0e,q0e];lia
    have t1:=SeqAt.RcAt.lists (A:=A) (s:=s) (e:=f) p.isList p2.isList sz hu (fun j h1 h2=>by simpa using hf j (by simpa using h1) (by simpa using h2))
    have t2:=SeqAt.RcNeAt.lists (A:=A) (s:=s) (e:=f) p.isList p2.isList sz hu (fun j h1 h2=>by simpa using hf j (by simpa using h1) (by simpa using h2))
    have hm:min its.length its2.length=its.length:=by lia
    rw[hm] at hall
    rw[q0e,hall,y3z hl] at t1 t2
    exact⟨t1,t2⟩
   ·have e5:Dt.eqs ds es=false:=by
     have e5:=z6g ds es
     have z:(ds.length==es.length)=false:=by simpa using hl
     rw[z,Bool.and_false] at e5
     exact e5.symm
    have sz:(its.toArray.size != its2.toArray.size)=true:=by rw[q0e,q0e,l1,l2];simpa using hl
    show SeqAt.RcAt A s _ _ (Dt.eqs ds es)∧SeqAt.RcNeAt A s _ _ (!Dt.eqs ds es)
    rw[e5]
    exact⟨SeqAt.RcAt.lists_lengths p.isList p2.isList sz hu,SeqAt.RcNeAt.lists_lengths p.isList p2.isList sz hu⟩
theorem told (I:Inv X pins σ H s):∀(n:Nat) (A:Around),A.units+n<cLine→Told X H s n A:=by
 intro n
 induction n with
 |zero=>
  intro A hu v u d e x y hv hw r1 r2 ok
  cases hv with
  |i k=>
   cases hw with
   |i m=>
    obtain⟨t,rfl⟩:=r1
    obtain⟨t',rfl⟩:=r2
    exact SeqAt.EqAt.int_int k t m t'
   |t _ _=>simp[Dt.ok] at ok
   |l _ _=>simp[Dt.ok] at ok
  |t _ _=>cases hw<;>simp[Dt.ok] at ok
  |l _ _=>cases hw<;>simp[Dt.ok] at ok
 |succ n ih=>
  intro A hu v u d e x y hv hw r1 r2 ok
  have P:=ih A.in1 (by show A.units+1+n<cLine;lia)
  have refs:∀{a b:Addr},v= .ref a→u= .ref b→SeqAt.EqAt A s x y (Dt.eqb d e):=fun {a b} ev eu=>by
   subst ev eu
   cases (show x=Value.ref a from r1)
   cases (show y=Value.ref b from r2)
   by_cases hab:a=b
   ·subst hab
    rw[(Dt.eqb_iff d e).mpr (y2L I hv hw)]
    exact SeqAt.EqAt.same _
   ·exact SeqAt.EqAt.of_refs hab (y4H I P (by lia) hv hw ok).1
  cases hv with
  |i k=>
   cases hw with
   |i m=>
    obtain⟨t,rfl⟩:=r1
    obtain⟨t',rfl⟩:=r2
    exact SeqAt.EqAt.int_int k t m t'
   |t _ _=>simp[Dt.ok] at ok
   |l _ _=>simp[Dt.ok] at ok
  |t _ _=>
   cases hw with
   |i m=>simp[Dt.ok] at ok
   |t _ _=>exact refs rfl rfl
   |l _ _=>simp[Dt.ok] at ok
  |l _ _=>
   cases hw with
   |i m=>simp[Dt.ok] at ok
   |t _ _=>simp[Dt.ok] at ok
   |l _ _=>exact refs rfl rfl
end
section
variable {X:Cx}
def rNeD (K:PySem.W.Frag):R2:=fun x y H Q=>∃(a b:Addr) (d e:Dt),x= .ref a∧y= .ref b∧IsD K H x d∧IsD K H y e∧Dt.ok 9 d e=true∧Q (.bl (!Dt.eqb d e)) H
theorem y7n (hu:X.A.units+64<cLine):OpR X (compareOp .NotEq) (rNeD X.K):=by
 intro pins s σ H x y v u Q I r1 r2 h
 obtain⟨a,b,d,e,rfl,rfl,h1,h2,ok,q⟩:=h
 cases (show v=Value.ref a from r1)
 cases (show u=Value.ref b from r2)
 exact (y4H I (told I 8 X.A.in1 (by show X.A.units+1+8<cLine;lia)) (by lia) h1 h2 ok).2 _ _ _ _ ⟨.bl _,H,I,rfl,q⟩
theorem z6d {K:PySem.W.Frag}{H:Hp}:∀ns:List Int,IsDs K H (ns.map V.int) (ns.map Dt.i)
 |[]=> .nil
 |n::r=> .cons (.i n) (z6d r)
theorem z5S (n:Nat):∀a b:List Int,Dt.oks n (a.map Dt.i) (b.map Dt.i)=true
 |[],_=>by simp[Dt.oks]
 |_::_,[]=>by simp[Dt.oks]
 |x::a,y::b=>by
  have:=z5S n a b
  simp only[q0q,Dt.oks,this,Bool.and_true]
  cases n<;>rfl
end
end L2
set_option maxHeartbeats 1000000
namespace L2
open PySem PySem.Spec PyProof.Rows
def z2d (X:Cx) (Nc:List Str) (scope:Scope) (cl:List (Str×Addr)) (C:Addr) (s2:Shared) (H2:Hp) (fp:List Addr):Cx where
 prog:=X.prog
 w:=X.w
 K:=X.K
 mg:=X.mg
 base:=X.base
 A:=X.A
 N:=Nc
 s₀:=s2
 H₀:=H2
 env:=compEnvC scope cl C X.env
 outer:=X.stack
 stack:=X.stack
 ex:=fp
 fn:=fun _=>false
 calm:=true
 pn:=[]
 xe:=fun _ _=>False
def CapC (env:Env):List (Str×Addr)→Prop
 |[]=>True
 |(x,c)::r=>env.cells.lookup x=some c∧CapC env r
def CapN (X:Cx) (scope:Scope) (cl:List (Str×Addr)):List Str→List (Option Nat)→Prop
 |[],[]=>True
 |_::r,none::q=>CapN X scope cl r q
 |x::r,some k::q=>(X.N[k]? =some x∧X.env.kindOf x=some .cell ∧(cl.lookup x).isSome =true∧(relabel scope X.env).names.lookup x=some .cell)∧CapN X scope cl r q
 |_,_=>False
def z0B (fr:List (Option Nat)) (σ:St):St:=fr.map fun o=>o.bind fun k=>(σ[k]?).join
theorem CapC.mem {env:Env}:∀{cl:List (Str×Addr)},CapC env cl→∀x c,cl.lookup x=some c→env.cells.lookup x=some c
 |[],_,x,c,e=>by simp at e
 |(y,d)::r,h,x,c,e=>by
  rw[q1I] at e
  split at e
  ·rename_i hb
   have:x=y:=by simpa using hb
   subst this
   cases e
   exact h.1
  ·exact h.2.mem x c e
theorem CapN.length {X:Cx}{scope:Scope}{cl:List (Str×Addr)}:∀{Nc:List Str}{fr:List (Option Nat)},CapN X scope cl Nc fr→fr.length=Nc.length
 |[],[],_=>rfl
 |_::r,none::q,h=>by rw[List.length_cons,List.length_cons,CapN.length (show CapN X scope cl r q from h)]
 |_::r,some k::q,h=>by rw[List.length_cons,List.length_cons,CapN.length h.2]
 |[],_::_,h=>h.elim
 |_::_,[],h=>h.elim
theorem CapN.at {X:Cx}{scope:Scope}{cl:List (Str×Addr)}:∀{Nc:List Str}{fr:List (Option Nat)},CapN X scope cl Nc fr→∀(j:Nat) (x:Str) (k:Nat),Nc[j]? =some x→fr[j]? =some (some k)→
 X.N[k]? =some x∧X.env.kindOf x=some .cell ∧(cl.lookup x).isSome =true∧(relabel scope X.env).names.lookup x=some .cell
 |[],[],_,j,x,k,e,_=>by simp at e
 |_::r,none::q,h,0,x,k,_,e=>by simp at e
 |y::r,some k'::q,h,0,x,k,e1,e2=>by
  simp at e1 e2
  subst e1 e2
  exact h.1
 |_::r,none::q,h,j+1,x,k,e1,e2=>CapN.at (show CapN X scope cl r q from h) j x k (by simpa using e1) (by simpa using e2)
 |_::r,some k'::q,h,j+1,x,k,e1,e2=>CapN.at h.2 j x k (by simpa using e1) (by simpa using e2)
 |[],_::_,h,_,_,_,_,_=>h.elim
 |_::_,[],h,_,_,_,_,_=>h.elim
theorem z2y {scope:Scope}{env:Env}{cl:List (Str×Addr)} (hcell:∀y∈scope.names,y.2≠ .cell) (hall:(scope.names.all fun p=>p.2 != .free || (cl.lookup p.1).isSome)=true):
 ∀x,((relabel scope env).names.lookup x=some .cell ∨(relabel scope env).names.lookup x=some .free)→∃c,cl.lookup x=some c:=by
 intro x hx
 unfold relabel at hx
 dsimp only at hx
 revert hcell hall hx
 generalize scope.names=ns
 intro hcell hall hx
 induction ns with
 |nil=>simp at hx
 |cons p r ih=>
  obtain⟨n,k⟩:=p
  have hk:k≠ .cell :=hcell (n,k) q0l
  simp only[List.all_cons,q1b] at hall
  rw[q0q] at hx
  by_cases hxn:x=n
  ·subst hxn
   have kf:k= .free :=by
        by_cases hc:(k==NameKind.free&&env.scope.kind== .function &&env.kindOf x==some .cell)=true
        ·simp only[q1b,beq_iff_eq] at hc
         exact hc.1.1
        ·dsimp only at hx
         rw[if_neg hc] at hx
         simp only[q1I,beq_self_eq_true] at hx
         rcases hx with z|z
         ·exact absurd (Option.some.inj z) hk
         ·exact Option.some.inj z
   have h1:=hall.1
   rw[kf] at h1
   have h2:(cl.lookup x).isSome =true:=by simpa using h1
   exact q1x.mp h2
  ·refine ih (fun y hy=>hcell y (q0j _ hy)) hall.2 ?_
   have hb:(x==n)=false:=by simpa using hxn
   dsimp only at hx
   by_cases hc:(k==NameKind.free&&env.scope.kind== .function &&env.kindOf n==some .cell)=true
   ·rw[if_pos hc] at hx
    simpa only[q1I,hb] using hx
   ·rw[if_neg hc] at hx
    simpa only[q1I,hb] using hx
def PTs (X:Cx) (ifs:List Expr) (t:TT):Prop:=
 ∀(pins:List (Addr×Obj)) (s:Shared) (σ:St) (H:Hp) (Q:Bool→Hp→Prop),Inv X pins σ H s→t σ H Q→
  wpAny (model X.prog X.w) X.A (forIn ifs true fun c r=>if r=true then do let ok ←isTrue c X.env (eval c X.env);pure (ForInStep.yield ok) else pure (ForInStep.yield r)) (TP X pins σ Q) X.xe s
theorem z0I {X:Cx}:PTs X [] (fun _ H Q=>Q true H):=fun _ _ _ H _ I h=>wpAny_tests_nil ⟨H,I,h⟩
theorem z1U {X:Cx}{c:Expr}{t:TT} (h:PT X c t):PTs X [c] t:=fun pins s σ H Q I q=>wpAny_tests_one (h pins s σ H Q I q)
def z3f (J:It) (g:TG) (tt:TT) (te:TE) (Q:VK) (D:Addr) (σ0:St) (H0:Hp):Prop:=∃W:Nat→Nat→St→Hp→Prop,(∃m,W 0 m σ0 H0)∧∀i m σc Hc,W i m σc Hc→
 (J.stop i Hc∧Q (.ref D) Hc)∨(J.go i Hc∧∀x H',J.yld i Hc x H'→g x σc H' fun σ2 H2=>tt σ2 H2 fun b H3=>
    if b=true then te σ2 H3 fun v H4=>∃acc m',H4 D=some (.lst acc)∧acc.length<sizeLine∧m'<m∧W (i+1) m' σ2 (upd H4 D (.lst (acc++[v]))) else ∃m',m'<m∧W (i+1) m' σ2 H3)
def y3r (fr:List (Option Nat)) (wi:TI) (g:TG) (tt:TT) (te:TE):TE:=fun σ H Q=>wi σ H fun J H1=>∀D,H1 D=none→z3f J g tt te Q D (z0B fr σ) (upd H1 D (.lst []))
section
variable {X:Cx}{tg iter elt:Expr}{ifs:List Expr}{scope:Scope}{pos:Pos}{cl:List (Str×Addr)}{Nc:List Str}{fr:List (Option Nat)}{wi:TI}{g:TG}{tt:TT}{te:TE}
theorem z0H (hc:X.calm=true) (hi:PI X tg iter wi) (hcl:closureFor scope X.env=pure cl) (hcell:∀y∈scope.names,y.2≠ .cell) (hk:scope.kind= .function) (hnm:∀y∈scope.names,y.2= .local →scope.names.lookup y.1=some .local)
 (hall:(scope.names.all fun p=>p.2 != .free || (cl.lookup p.1).isSome)=true) (cc:CapC X.env cl) (cn:CapN X scope cl Nc fr)
 (hg:∀C s2 H2 fp,PG (z2d X Nc scope cl C s2 H2 fp) tg g) (ht:∀C s2 H2 fp,PTs (z2d X Nc scope cl C s2 H2 fp) ifs tt) (he:∀C s2 H2 fp,PE (z2d X Nc scope cl C s2 H2 fp) elt te)
 (hs:∀x,foldedSetIterable iter X.env x=pure x:=by intro _;rfl):PE X (.ListComp elt [⟨tg,iter,ifs,0⟩] scope pos) (y3r fr wi g tt te):=by
 intro pins s σ H Q I h
 rw[eval_ListComp]
 refine wpAny_comprehension_free (use:=none) rfl hs hcl hk hnm ?_
 refine wpAny_mono (hi pins s σ H _ I h) (fun xv s1 h1=>wpAny_mono h1 (fun itv s2 h2=>?_) fun _ _ e=>e) fun _ _ e=>e
 obtain⟨it,fp,tn,J,H2,rfl,I2,T,st2,f2,q2⟩:=h2
 obtain⟨W,⟨m0,w0⟩,turn⟩:=q2 s2.heap.objs.size (I2.hok.fresh (q0i _))
 refine wpAny_newObj_type (wpAny_newFunctionEnv hcell (by intro y hy;simp at hy) (fun h4 ns4 sb4=>?_) hk)
 dsimp only at ns4 sb4 ⊢
 generalize hD:s2.heap.objs.size=D at*
 generalize hL:s2.heap.push {cls:= .type "list",dict:=none,data:= .seq ([]:List Value).toArray}=hl at ns4 sb4 ⊢
 have hlsz:hl.objs.size=D+1:=by rw[←hL,q1l,hD]
 rw[hlsz] at ns4 sb4 ⊢
 have DC:D≠D+1:=q0o (Nat.lt_succ_self _)
 have low:∀b o,s2.heap.get? b=some o→b<D:=fun b o e=>by rw[←hD];exact q0t e
 have kp:∀b o,s2.heap.get? b=some o→h4.get? b=some o:=fun b o e=>by
  have z:=low b o e
  refine sb4.extBut b o (q0o (q0M z)) (q0d _ ?_)
  rw[←hL]
  exact q0d _ e
 have hD4:h4.get? D=some {cls:= .type "list",dict:=none,data:= .seq ([]:List Value).toArray}:=by
  refine sb4.extBut D _ DC (q0d _ ?_)
  rw[←hL,←hD]
  exact q0s _ rfl
 have hn:H2 D=none:=by rw[←hD];exact I2.hok.fresh (q0i _)
 have hnC:H2 (D+1)=none:=I2.hok.fresh (by rw[hD];exact q1t _)
 let Y:=z2d X Nc scope cl (D+1) s2 H2 fp
 have ixv:∀b∈fp,b<D:=fun b hb=>by
  obtain⟨o,e,_⟩:=T.obj 0 _ st2 b hb
  exact low b o e
 have okY:Y.Ok:=by
  refine⟨I2.ok.mod,?_,I2.ok.glob,I2.ok.blt,?_,?_,?_,?_,fun _=>I2.ok.hd hc,I2.ok.frames,.inl rfl,?_,I2.bs,?_,?_,?_,I2.stack,I2.stkFree⟩
  ·exact hk
  ·show s2.heap.objs.size≤D+1
   lia
  ·intro x y c e1 e2
   exact I2.ok.inj x y c (cc.mem x c e1) (cc.mem y c e2)
  ·intro x hx
   exact z2y hcell hall x hx
  ·intro x c e
   cases e
  ·intro b hb
   refine⟨fun z=>?_,fun x c e z=>?_⟩
   ·exact absurd z (q0o (q0M (ixv b hb)))
   ·exact (f2 b hb).2.2.2.2.1 x c (cc.mem x c e) z
  ·exact q0m I2.ok.bsz I2.sz
  ·intro b o e hb
   have z:=(f2 b hb).2.2.2.1
   rcases z with z|z
   ·exact I2.ok.noex b o e z
   ·exact absurd (q0y (q0t (I2.ok.bs b o e).1) z) (q1e _)
  ·intro b hb z
   have e2:=q0n.mp (I2.stkSub b z)
   rcases e2 with e2|e2
   ·exact (f2 b hb).2.1 e2
   ·exact (f2 b hb).2.2.1 e2
 have IY:Inv Y [] (z0B fr σ) (upd H2 D (.lst [])) {s2 with heap:=h4,toks:=s2.toks+([]:List (Str×Value)).length}:=by
  refine⟨okY,rfl,I2.bare,⟨fun b o e n _ _=>kp b o e,fun b o e n _ _=>⟨o.slots,kp b o e⟩,fun b o e n _=>?_,fun b o e _=>⟨o,kp b o e⟩,fun b xs e=>?_,fun b o u e=>?_,fun b ps e=>⟨#[],?_⟩⟩,?_,fun x c e=>?_,?_,fun x c e=>?_,fun p hp=>?_,fun b u e=>?_,?_⟩
  ·rw[z0i (q0o (low b o e))];exact n
  ·rw[z0i (z0f e hn)];exact e
  ·rw[z0i (z0f e hn)];exact e
  ·rw[z0i (z0f e hn),show H2 b=_ from e];simp
  ·refine⟨_,ns4,fun j x v e1 e2 e3=>?_⟩
   have e2':(fr.map fun o=>o.bind fun k=>(σ[k]?).join)[j]? =some (some v):=e2
   rw[q0h] at e2'
   obtain⟨o,ho,hv⟩:=q0u.mp e2'
   cases o with
   |none=>cases hv
   |some k=>
    obtain⟨c1,c2,c3,c4⟩:=cn.at j x k e1 ho
    have hσ:σ[k]? =some (some v):=by
        have hv':(σ[k]?).join =some v:=hv
        cases z:σ[k]? with
        |none=>rw[z] at hv';cases hv'
        |some w'=>rw[z] at hv';exact congrArg some hv'
    obtain⟨m,hm,hlk⟩:=I2.loc
    obtain⟨u,r,lk⟩:=hlk k x v c1 hσ (.inr (.inl c2))
    refine⟨u,r,.inr ⟨.inl c4,?_⟩⟩
    rcases lk with⟨z,_⟩|⟨_,c,ec,oc,hoc,dc⟩
    ·rw[c2] at z;cases z
    ·obtain⟨c',ec'⟩:=q1x.mp c3
     have:=cc.mem x c' ec'
     rw[ec] at this;cases this
     exact⟨c,ec',oc,kp c oc hoc,dc⟩
  ·obtain⟨v,oc,hoc,dc⟩:=I2.cell x c (cc.mem x c e)
   exact⟨v,oc,kp c oc hoc,dc⟩
  ·show upd H2 D (.lst []) (D+1)=none
   rw[z0i (Ne.symm DC)];exact hnC
  ·obtain⟨v,oc,hoc,dc⟩:=I2.cell x c (cc.mem x c e)
   rw[z0i (q0o (low c oc hoc))]
   exact I2.freeC x c (cc.mem x c e)
  ·simp[Y,z2d] at hp
  ·by_cases hb:b=D
   ·subst hb
    rw[z0b] at e;cases e
    exact⟨q0N _,[],_,.nil,hD4⟩
   ·rw[z0i hb] at e
    exact (I2.hok b u e).stay (fun c v _ q=>kp c v q) (fun c q=>by rw[z0i (z0f q hn)];exact q) fun c xs q=>by rw[z0i (z0f q hn)];exact q
  ·show (fr.map _).length =Nc.length
   rw[q0a];exact cn.length
 have fY:∀{H':Hp},(∀b∈fp,H' b=none)→∀b∈fp,y0u Y [] H' b:=fun {H'} hn' b hb=>by
  refine⟨hn' b hb,fun z=>?_,fun z=>?_,.inl hb,fun x c e z=>?_,fun p hp=>?_⟩
  ·exact absurd z (q0o (q0M (ixv b hb)))
  ·exact okY.exfs b hb z
  ·exact (f2 b hb).2.2.2.2.1 x c (cc.mem x c e) z
  ·simp[Y,z2d] at hp
 have st4:tn 0 h4:=T.keep _ _ _ st2 fun b hb o e=>kp b o e
 have fr4:∀b∈fp,upd H2 D (.lst []) b=none:=fun b hb=>by
  rw[z0i (q0o (ixv b hb))]
  exact (f2 b hb).1
 have loop:∀s3:Shared,s3={s2 with heap:=h4,toks:=s2.toks+([]:List (Str×Value)).length}→
  codeAny (model X.prog X.w) X.A (.compLoop (.ListComp elt [⟨tg,iter,ifs,0⟩] scope pos) 0 (.ref it) (.ref D) (compEnvC scope cl (D+1) X.env)) (compPost (model X.prog X.w) X.A X.xe none (EP X pins σ Q) (.ref D) (D+1)) s3:=by
  rintro s3 rfl
  refine codeAny_loop rfl (fun n s'=>∃i σ' H',Inv Y [] σ' H' s'∧tn i s'.heap∧(∀b∈fp,H' b=none)∧W i n σ' H') (fun n s5 hI=>?_) m0 ⟨0,_,_,IY,st4,fr4,w0⟩
  obtain⟨i,σ5,H5,I5,st5,fr5,w5⟩:=hI
  show wpAny _ X.A ((compTurn (.ListComp elt [⟨tg,iter,ifs,0⟩] scope pos) 0 (.ref it) (.ref D) (compEnvC scope cl (D+1) X.env)).onRaise (fun x=>do noteFrame x (compEnvC scope cl (D+1) X.env);theTreesLotGoes x)) _ _ s5
  refine wpAny_noted ?_
  rw[compTurn_list]
  refine wpAny_bind (wpAny_standAt (wpAny_bind ?_))
  rcases turn i n σ5 H5 w5 with⟨stop,qn⟩|⟨go,step⟩
  ·refine wpAny_mono (T.done Y rfl rfl rfl rfl i [] s5 σ5 H5 (fun _ _=>False) I5 (fY fr5) st5 stop) (fun r s6 ⟨hr,I6⟩=>?_) fun _ _ z=>z.elim
   subst hr
   refine wpAny_pure ?_
   obtain⟨m6,hm6,_⟩:=id I6.loc
   refine⟨m6,hm6,fun h7 sb7=>?_⟩
   have un:Un (frs X.stack) fp H2 H5 s2.heap h7:=by
        have b6:=I6.base
        have nc:∀b o,s2.heap.get? b=some o→b≠D+1:=fun b o e=>q0o (q0M (low b o e))
        refine⟨fun b o e n1 n2 n3=>(sb7.2 b (nc b o e)).trans (b6.keep b o e n1 n2 n3),fun b o e n1 n2 n3=>?_,b6.free,fun b o e n3=>?_,b6.tups,b6.frzs,b6.tbls⟩
        ·obtain⟨sl,z⟩:=b6.slot b o e n1 n2 n3
         exact⟨sl,(sb7.2 b (nc b o e)).trans z⟩
        ·obtain⟨o',z⟩:=b6.there b o e n3
         exact⟨o',(sb7.2 b (nc b o e)).trans z⟩
   have hok7:HOk X.prog X.w H5 h7:=fun b u e=>by
        refine (I6.hok b u e).stay (fun c v hc' q=>(sb7.2 c fun z=>?_).trans q) (fun _ q=>q) fun _ _ q=>q
        have fC:H5 (D+1)=none:=I6.free
        subst z
        rcases hc' with z|z
        ·rw[←z,fC] at e;cases e
        ·rw[fC] at z;cases z
   have IX:=I2.call' (s':={s6 with heap:=h7}) (ch:=fp) I6.os un hok7 I6.bare fun b hb=>⟨(f2 b hb).2.2.2.1,(f2 b hb).2.1,(f2 b hb).2.2.2.2.1,(f2 b hb).2.2.2.2.2⟩
   exact⟨.ref D,H5,IX,rfl,qn⟩
  ·refine wpAny_mono (T.item Y rfl rfl rfl rfl i [] s5 σ5 H5 (fun _ _=>False) I5 (fY fr5) st5 go) (fun r s6 ⟨u,hr,h6⟩=>?_) fun _ _ z=>z.elim
   subst hr
   refine wpAny_bind (wpAny_mono h6 (fun _ s7 ⟨x,H7,I7,r7,y7,st7,fr7⟩=>?_) fun _ _ z=>z.elim)
   have I7':=I7.pinned (fY fr7) (T.obj _ _ st7)
   refine wpAny_bind (wpAny_mono (hg _ _ _ _ _ s7 σ5 H7 x u _ I7' r7 (step x H7 y7)) (fun _ s8 ⟨σ8,H8,I8,q8⟩=>?_) fun _ _ z=>z.elim)
   have again:∀{σ':St}{H':Hp}{s':Shared}{k:Nat},Inv Y ([]++z3z fp s7.heap) σ' H' s'→W (i+1) k σ' H'→∃i' σ'' H'',Inv Y [] σ'' H'' s'∧tn i' s'.heap∧(∀b∈fp,H'' b=none)∧W i' k σ'' H'':=fun {σ' H' s' k} I' w'=>by
        refine⟨i+1,σ',H',I'.unpinned,T.keep _ _ _ st7 fun b hb o e=>(I'.pin (b,o) (q0C _ (q0C _ (z0S hb e)))).1,fun b hb=>?_,w'⟩
        obtain⟨o,e,d⟩:=T.obj _ _ st7 b hb
        exact (I'.pin (b,o) (q0C _ (q0C _ (z0S hb e)))).2.1
   refine wpAny_bind (wpAny_mono (ht _ _ _ _ _ s8 σ8 H8 _ I8 q8) (fun ok s9 ⟨H9,I9,q9⟩=>?_) fun _ _ z=>z.elim)
   cases ok with
   |false=>
    obtain⟨m',hm',w'⟩:=q9
    exact wpAny_pure ⟨rfl,m',hm',again I9 w'⟩
   |true=>
    refine wpAny_bind (wpAny_bind (wpAny_mono (he _ _ _ _ _ s9 σ8 H9 _ I9 q9) (fun ev s10 ⟨v,H10,I10,r10,acc,m',hacc,hlen,hm',w'⟩=>?_) fun _ _ z=>z.elim))
    refine wpAny_bind (wpAny_mono (z1n (X:=Y) _ s10 σ8 H10 (.ref D) [v] (.ref D) [ev] (fun r H'=>r= .non ∧H'=upd H10 D (.lst (acc++[v]))) I10 rfl (.cons r10 .nil) ⟨D,acc,v,rfl,rfl,hacc,hlen,rfl,rfl⟩) (fun _ s11 ⟨_,H11,I11,_,_,e11⟩=>?_) fun _ _ z=>z.elim)
    subst e11
    exact wpAny_pure (wpAny_pure ⟨rfl,m',hm',again I11 w'⟩)
 exact codeAny_compStart_list (loop _ rfl) (T.self _ _ _ _ _ st4 (loop _ rfl))
end
end L2
namespace L2
open PySem PySem.Spec PyProof.Rows
def SqA (K:PySem.W.Frag) (H:Hp) (a:Addr) (xs:List V):Prop:=SqL K H a xs∨SqT K H a xs
theorem SqA.same {K:PySem.W.Frag}{H H':Hp}{a:Addr}{xs:List V} (g:Same H H') (h:SqA K H a xs):SqA K H' a xs:=by
 rcases h with h|h
 ·exact .inl (h.same g)
 ·exact .inr (h.same g)
def trV:V→Bool
 | .int i=>i != 0
 | .bl b=>b
 |_=>false
def PlV:V→Prop
 | .int _=>True
 | .bl _=>True
 | .non =>True
 |_=>False
section
variable {X:Cx}
theorem y5i {xs:List V} (f:V→Bool):((List.range xs.length).any fun i=>((xs[i]?).map f).getD false)=xs.any f:=by
 rw[q1i,List.any_eq_true,List.any_eq_true]
 constructor
 ·rintro⟨i,hi,h⟩
  have hl:i<xs.length:=q1C.mp hi
  refine⟨xs[i],q0z hl,?_⟩
  simpa[hl] using h
 ·rintro⟨x,hx,h⟩
  obtain⟨i,hl,e⟩:=q0B.mp hx
  exact⟨i,q1C.mpr hl,by simp[hl,e,h]⟩
theorem y5j {xs:List V} (f:V→Bool):((List.range xs.length).all fun i=>((xs[i]?).map f).getD false)=xs.all f:=by
 rw[q1i,q0X,q0X]
 constructor
 ·intro h x hx
  obtain⟨i,hl,e⟩:=q0B.mp hx
  have:=h i (q1C.mpr hl)
  simpa[hl,e] using this
 ·intro h i hi
  have hl:i<xs.length:=q1C.mp hi
  simpa[hl] using h xs[i] (q0z hl)
theorem z1B {prog:Program}{w:World}{A:Around}{ys:List V}{its:List Value} (r:Vals ys its) (hp:∀y∈ys,PlV y):
 TruthOf prog w A (fun i v=>its.toArray[i]? =some v) (fun i=>((ys[i]?).map trV).getD false):=by
 intro i v s Q E hv q
 have hv':its[i]? =some v:=by simpa using hv
 have hi:i<ys.length:=by rw[r.length];exact (q0H.mp hv').1
 obtain⟨u,hu,ru⟩:=r.get (q0c hi)
 rw[hv'] at hu;cases hu
 have p:=hp _ (q0z hi)
 have q':Q (trV ys[i]) s:=by simpa[hi] using q
 generalize ys[i]=y at*
 cases y with
 |int k=>obtain⟨t,rfl⟩:=ru;exact PySem.P.truthy_int q'
 |bl b=>cases ru;exact wpAny_truthy_bool q'
 |non=>cases ru;exact truthy_none q'
 |_=>exact p.elim
theorem y4x (hc:X.calm=true):z1A X (.builtin "any") (fun xs H Q=>∃p ys,xs=[.ref p]∧SqA X.K H p ys∧(∀y∈ys,PlV y)∧Q (.bl (ys.any trV)) H):=by
 intro pins s σ H xs us Q I r h
 obtain⟨p,ys,rfl,hq,hp,q⟩:=h
 obtain⟨u,rfl,rx⟩:=z5o r
 cases rx
 have hh:X.A.in1.handled=none:=I.ok.hd hc
 refine call_any_walk ?_
 rcases hq with hq|hq
 ·obtain⟨its,r',pl,hz⟩:=I.list hq
  have hne:p≠s.heap.objs.size:=by obtain⟨o,e,_⟩:=pl.isList;exact q0o (q0t e)
  refine wpAny_pyIter_list pl.isList ⟨_,_,_,_,_,_,_,rfl,Walks.list hh _ p hne its.toArray,⟨⟨_,q0s _ rfl,rfl,rfl⟩,pl.isList.push _⟩,z1B r' hp,fun h' tk kp=>?_⟩
  have kp':∀b o,s.heap.get? b=some o→h'.get? b=some o:=fun b o e=>kp b o (by have:=q0t e;simp;exact q0o this) (q0d _ e)
  refine⟨.bl (ys.any trV),H,I.kept kp',?_,q⟩
  show Value.bool _=_
  rw[q0e,←r'.length,y5i]
 ·obtain⟨its,r',pl,hz⟩:=I.tuple hq
  have pl':s.heap.IsTuple p its.toArray:=pl
  have hne:p≠s.heap.objs.size:=by obtain⟨o,e,_⟩:=pl';exact q0o (q0t e)
  refine wpAny_pyIter_tuple pl' ⟨_,_,_,_,_,_,_,rfl,Walks.tuple hh _ p hne its.toArray,⟨⟨_,q0s _ rfl,rfl,rfl⟩,pl'.push _⟩,z1B r' hp,fun h' tk kp=>?_⟩
  have kp':∀b o,s.heap.get? b=some o→h'.get? b=some o:=fun b o e=>kp b o (by have:=q0t e;simp;exact q0o this) (q0d _ e)
  refine⟨.bl (ys.any trV),H,I.kept kp',?_,q⟩
  show Value.bool _=_
  rw[q0e,←r'.length,y5i]
theorem y4y (hc:X.calm=true):z1A X (.builtin "all") (fun xs H Q=>∃p ys,xs=[.ref p]∧SqA X.K H p ys∧(∀y∈ys,PlV y)∧Q (.bl (ys.all trV)) H):=by
 intro pins s σ H xs us Q I r h
 obtain⟨p,ys,rfl,hq,hp,q⟩:=h
 obtain⟨u,rfl,rx⟩:=z5o r
 cases rx
 have hh:X.A.in1.handled=none:=I.ok.hd hc
 refine call_all_walk ?_
 rcases hq with hq|hq
 ·obtain⟨its,r',pl,hz⟩:=I.list hq
  have hne:p≠s.heap.objs.size:=by obtain⟨o,e,_⟩:=pl.isList;exact q0o (q0t e)
  refine wpAny_pyIter_list pl.isList ⟨_,_,_,_,_,_,_,rfl,Walks.list hh _ p hne its.toArray,⟨⟨_,q0s _ rfl,rfl,rfl⟩,pl.isList.push _⟩,z1B r' hp,fun h' tk kp=>?_⟩
  have kp':∀b o,s.heap.get? b=some o→h'.get? b=some o:=fun b o e=>kp b o (by have:=q0t e;simp;exact q0o this) (q0d _ e)
  refine⟨.bl (ys.all trV),H,I.kept kp',?_,q⟩
  show Value.bool _=_
  rw[q0e,←r'.length,y5j]
 ·obtain⟨its,r',pl,hz⟩:=I.tuple hq
  have pl':s.heap.IsTuple p its.toArray:=pl
  have hne:p≠s.heap.objs.size:=by obtain⟨o,e,_⟩:=pl';exact q0o (q0t e)
  refine wpAny_pyIter_tuple pl' ⟨_,_,_,_,_,_,_,rfl,Walks.tuple hh _ p hne its.toArray,⟨⟨_,q0s _ rfl,rfl,rfl⟩,pl'.push _⟩,z1B r' hp,fun h' tk kp=>?_⟩
  have kp':∀b o,s.heap.get? b=some o→h'.get? b=some o:=fun b o e=>kp b o (by have:=q0t e;simp;exact q0o this) (q0d _ e)
  refine⟨.bl (ys.all trV),H,I.kept kp',?_,q⟩
  show Value.bool _=_
  rw[q0e,←r'.length,y5j]
end
def SIt (b:Bool) (h:Heap) (it a:Addr) (k:Nat):Prop:=match b with
 |true=>h.IsListIter it a k
 |false=>h.IsTupleIter it a k
def SAt (b:Bool) (h:Heap) (a:Addr) (its:Array Value):Prop:=match b with
 |true=>h.IsList a its
 |false=>h.IsTuple a its
theorem SIt.ob {b:Bool}{h:Heap}{it a:Addr}{k:Nat} (x:SIt b h it a k):∃o n,h.get? it=some o∧o.cls= .type n∧(n="list_iterator"∨n="tuple_iterator")∧o.data= .fields #[.ref a,.int k 0]:=by
 cases b with
 |true=>obtain⟨o,e,c,d⟩:=x;exact⟨o,_,e,c,.inl rfl,d⟩
 |false=>obtain⟨o,e,c,d⟩:=x;exact⟨o,_,e,c,.inr rfl,d⟩
theorem SAt.ob {b:Bool}{h:Heap}{a:Addr}{its:Array Value} (x:SAt b h a its):∃o n,h.get? a=some o∧o.cls= .type n∧(n="list"∨n="tuple"):=by
 cases b with
 |true=>obtain⟨o,e,c,_⟩:=x;exact⟨o,_,e,c,.inl rfl⟩
 |false=>obtain⟨o,e,c,_⟩:=x;exact⟨o,_,e,c,.inr rfl⟩
theorem SIt.keep {b:Bool}{h h':Heap}{it a:Addr}{k:Nat} (x:SIt b h it a k) (f:∀o,h.get? it=some o→h'.get? it=some o):SIt b h' it a k:=by
 cases b with
 |true=>obtain⟨o,e,r⟩:=x;exact⟨o,f o e,r⟩
 |false=>obtain⟨o,e,r⟩:=x;exact⟨o,f o e,r⟩
theorem SAt.keep {b:Bool}{h h':Heap}{a:Addr}{its:Array Value} (x:SAt b h a its) (f:∀o,h.get? a=some o→h'.get? a=some o):SAt b h' a its:=by
 cases b with
 |true=>obtain⟨o,e,r⟩:=x;exact⟨o,f o e,r⟩
 |false=>obtain⟨o,e,r⟩:=x;exact⟨o,f o e,r⟩
theorem SIt.ne_at {b c:Bool}{h:Heap}{it a l:Addr}{k:Nat}{its:Array Value} (x:SIt b h it a k) (y:SAt c h l its):l≠it:=by
 rintro rfl
 obtain⟨o,n,e,c1,hn,_⟩:=x.ob
 obtain⟨o',n',e',c2,hn'⟩:=y.ob
 rw[e] at e';cases e'
 rw[c1] at c2;cases c2
 rcases hn with rfl|rfl<;>rcases hn' with h|h<;>exact absurd h (by decide)
section
variable {prog:Program}{w:World}{A:Around}{E:Value→Shared→Prop}{s:Shared}
theorem z2V {b:Bool}{it a:Addr}{k:Nat}{its:Array Value}{x:Value}{Q:Value→Shared→Prop} (hit:SIt b s.heap it a k) (hl:SAt b s.heap a its) (hx:its[k]? =some x)
 (hQ:∀h',SIt b h' it a (k+1)→Heap.SameBut it s.heap h'→Q x {s with heap:=h'}):wpAny (model prog w) A (Builtin.SmallTypes.nextOf (.ref it)) Q E s:=by
 cases b with
 |true=>exact wpAny_nextOf_list_item hit hl hx hQ
 |false=>
  have hit':s.heap.IsTupleIter it a k:=hit
  obtain⟨ob,e1,c1,d1⟩:=id hit'
  obtain⟨ol,e2,_,nl,d2⟩:=hl
  unfold Builtin.SmallTypes.nextOf
  refine wpAny_bind (wpAny_callSpecial?_slot (name:=Str.ofString "__next__") hit'.typeIs F.slot_tuple_iterator_next (wpAny_call_entry F.slot_tuple_iterator_next hit'.typeIs F.entry_tuple_iterator_next ?_ (F.args_tuple_iterator_next_1 _)))
  show wpAny _ _ (field (.ref it) 0>>= _) _ _ s
  refine wpAny_bind (wpAny_field e1 d1 (x:= .ref a) rfl ?_)
  rw[if_neg (show ¬((Value.ref a==Value.none)=true) from q0F)]
  show wpAny _ _ (field (.ref it) 1>>= _) _ _ s
  refine wpAny_bind (wpAny_field e1 d1 (x:= .int k 0) rfl ?_)
  show wpAny _ _ (seqItems? (.ref a)>>= _) _ _ s
  refine wpAny_bind (wpAny_seqItems e2 d2 ?_)
  simp only[q0E,hx]
  refine wpAny_bind (wpAny_setField e1 d1 (by simp) (wpAny_pure ⟨x,rfl,wpAny_pure (hQ _ ?_ (Heap.SameBut.update ..))⟩))
  exact⟨_,Heap.get?_update_self _ e1 (Obj.isFreed_of_fields (Obj.data_mapFields d1 _)),(Obj.cls_mapFields ..).trans c1,by rw[Obj.data_mapFields d1];simp[rawInt]⟩
theorem z5V {b:Bool}{it a:Addr}{k:Nat}{its:Array Value}{Q:Value→Shared→Prop} (hh:A.handled=none) (hit:SIt b s.heap it a k) (hl:SAt b s.heap a its) (hx:its[k]? =none)
 (hE:∀h' e,Heap.ExtBut it s.heap h'→(∃o,h'.get? e=some o∧o.cls= .type "StopIteration")→E (.ref e) {s with heap:=h'}):wpAny (model prog w) A (Builtin.SmallTypes.nextOf (.ref it)) Q E s:=by
 cases b with
 |true=>exact wpAny_nextOf_list_end hh hit hl hx hE
 |false=>
  have hit':s.heap.IsTupleIter it a k:=hit
  obtain⟨ob,e1,c1,d1⟩:=id hit'
  obtain⟨ol,e2,_,nl,d2⟩:=hl
  unfold Builtin.SmallTypes.nextOf
  refine wpAny_bind (wpAny_callSpecial?_slot (name:=Str.ofString "__next__") hit'.typeIs F.slot_tuple_iterator_next (wpAny_call_entry F.slot_tuple_iterator_next hit'.typeIs F.entry_tuple_iterator_next ?_ (F.args_tuple_iterator_next_1 _)))
  show wpAny _ _ (field (.ref it) 0>>= _) _ _ s
  refine wpAny_bind (wpAny_field e1 d1 (x:= .ref a) rfl ?_)
  rw[if_neg (show ¬((Value.ref a==Value.none)=true) from q0F)]
  show wpAny _ _ (field (.ref it) 1>>= _) _ _ s
  refine wpAny_bind (wpAny_field e1 d1 (x:= .int k 0) rfl ?_)
  show wpAny _ _ (seqItems? (.ref a)>>= _) _ _ s
  refine wpAny_bind (wpAny_seqItems e2 d2 ?_)
  simp only[q0E,hx]
  refine wpAny_bind (wpAny_rule (wpAny_bind (wpAny_setField e1 d1 (by simp) ?_)))
  show wpAny _ _ (newExc (.type "StopIteration") []>>= _) _ _ _
  refine wpAny_bind ?_
  simp only[newExc,newTuple]
  refine wpAny_bind (wpAny_newObj_type ?_ (by size_fits))
  refine wpAny_bind (m:=firstArgMember _ _) (wpAny_of_eq (a:=Value.none) (by first|rfl|(simp only[firstArgMember];rfl)) ?_)
  refine wpAny_newObj_type ?_ (by size_fits)
  simp only[raiseNew]
  refine wpAny_bind (wpAny_handled ?_)
  first|rw[show A.in1.handled=none from hh]|rw[hh]
  refine wpAny_bind (wpAny_pure (wpAny_throw ?_))
  exact hE _ _ (((Heap.SameBut.update ..).extBut.push _).push _) ⟨_,q0s _ rfl,rfl⟩
end
end L2
namespace L2
open PySem PySem.Spec PyProof.Rows
structure ZAp (z TI TO i j:Addr):Prop where
 a1:TI≠z
 a2:TO≠z
 a3:i≠z
 a4:j≠z
 a5:TI≠TO
 a6:TI≠i
 a7:TI≠j
 a8:TO≠i
 a9:TO≠j
 a10:i≠j
section
variable {prog:Program}{w:World}{A:Around}{E:Value→Shared→Prop}{s:Shared}
theorem y3j {b c:Bool}{z TI TO i j l m:Addr}{k n:Nat}{xs ys:Array Value}{x y u v:Value}{Q:Value→Shared→Prop} (D:ZAp z TI TO i j) (lz:m≠z) (lT:m≠TO) (lz':l≠z)
 (hz:IsZip s.heap z TI TO .none) (hTI:IsPair s.heap TI (.ref i) (.ref j)) (hTO:IsPair s.heap TO u v)
 (h1:SIt b s.heap i l k) (h2:SIt c s.heap j m n) (hl:SAt b s.heap l xs) (hm:SAt c s.heap m ys) (hx:xs[k]? =some x) (hy:ys[n]? =some y)
 (hQ:∀h',IsZip h' z TI TO (rawInt s.heap.objs.size)→IsPair h' TO x y→SIt b h' i l (k+1)→SIt c h' j m (n+1)→IsPair h' s.heap.objs.size x y→h'.objs.size=s.heap.objs.size+1→
  (∀p o,p≠z→p≠TO→p≠i→p≠j→s.heap.get? p=some o→h'.get? p=some o)→Q (.ref s.heap.objs.size) {s with heap:=h'}):
 wpAny (model prog w) A (Builtin.«zip.__next__» ⟨[.ref z],[]⟩) (fun fin s'=>∃v,fin= .done (.ret v)∧Q v s') E s:=by
 have mi:m≠i:=h1.ne_at hm
 show wpAny _ _ (field (.ref z) 2>>= _) _ _ _
 refine wpAny_bind (wpAny_field hz rfl (x:= .bool false) rfl ?_)
 show wpAny _ _ (field (.ref z) 3>>= _) _ _ _
 refine wpAny_bind (wpAny_field hz rfl (x:= .ref TI) rfl (wpAny_bind (wpAny_seqItems hTI rfl ?_)))
 show wpAny _ _ (Builtin.SmallTypes.ownedTupleIsFree (.ref z)>>= _) _ _ _
 refine wpAny_bind ?_
 unfold Builtin.SmallTypes.ownedTupleIsFree
 refine wpAny_bind (wpAny_field hz rfl (x:= .none) rfl (wpAny_pure ?_))
 simp only[if_true]
 refine wpAny_bind (wpAny_rule (wpAny_bind (wpAny_field hz rfl (x:= .ref TO) rfl (wpAny_bind (wpAny_setField_rec hz (by simp) fun g1 z1 d1=>?_)))))
 replace z1:IsZip g1 z TI TO .ellipsis :=z1
 refine wpAny_bind ?_
 simp only[List.zipIdx_cons,List.zipIdx_nil,List.forIn_cons,List.forIn_nil]
 refine wpAny_bind (wpAny_bind (wpAny_onRaise ?_))
 show wpAny _ _ (Builtin.SmallTypes.nextOf (.ref i)>>= _) _ _ _
 refine wpAny_bind (z2V (h1.keep fun o e=>d1.extBut _ o D.a3 e) (hl.keep fun o e=>d1.extBut _ o lz' e) hx fun g2 i2 d2=>wpAny_pure ?_)
 have TO2:IsPair g2 TO u v:=d2.extBut _ _ D.a8 (d1.extBut _ _ D.a2 hTO)
 refine wpAny_bind (wpAny_seqItems TO2 rfl (wpAny_bind (wpAny_updateSeq_pair TO2 fun g3 TO3 d3=>?_)))
 replace TO3:IsPair g3 TO x v:=TO3
 refine wpAny_bind (wpAny_letGo (wpAny_pure ?_))
 refine wpAny_bind (wpAny_bind (wpAny_onRaise ?_))
 show wpAny _ _ (Builtin.SmallTypes.nextOf (.ref j)>>= _) _ _ _
 refine wpAny_bind (z2V (h2.keep fun o e=>d3.extBut _ o D.a9.symm (d2.extBut _ o D.a10.symm (d1.extBut _ o D.a4 e))) (hm.keep fun o e=>d3.extBut _ o lT (d2.extBut _ o mi (d1.extBut _ o lz e))) hy fun g4 j4 d4=>wpAny_pure ?_)
 have TO4:IsPair g4 TO x v:=d4.extBut _ _ D.a9 TO3
 refine wpAny_bind (wpAny_seqItems TO4 rfl (wpAny_bind (wpAny_updateSeq_pair TO4 fun g5 TO5 d5=>?_)))
 replace TO5:IsPair g5 TO x y:=TO5
 refine wpAny_bind (wpAny_letGo (wpAny_pure (wpAny_pure ?_)))
 refine wpAny_bind (wpAny_seqItems TO5 rfl (wpAny_bind (wpAny_newTuple ?_)))
 have sz:g5.objs.size=s.heap.objs.size:=by rw[d5.1,d4.1,d3.1,d2.1,d1.1]
 have z5:IsZip g5 z TI TO .ellipsis :=d5.extBut _ _ D.a2.symm (d4.extBut _ _ D.a4.symm (d3.extBut _ _ D.a2.symm (d2.extBut _ _ D.a3.symm z1)))
 have k5:∀p o,p≠z→p≠TO→p≠i→p≠j→s.heap.get? p=some o→g5.get? p=some o:=fun p o c1 c2 c3 c4 e=>d5.extBut _ _ c2 (d4.extBut _ _ c4 (d3.extBut _ _ c2 (d2.extBut _ _ c3 (d1.extBut _ _ c1 e))))
 have i5:SIt b g5 i l (k+1):=i2.keep fun o e=>d5.extBut _ o D.a8.symm (d4.extBut _ o D.a10 (d3.extBut _ o D.a8.symm e))
 have j5:SIt c g5 j m (n+1):=j4.keep fun o e=>d5.extBut _ o D.a9.symm e
 have zl:z<g5.objs.size:=q0t z5
 show wpAny _ _ (Builtin.SmallTypes.ownedTupleHandOut (.ref z) (.ref g5.objs.size)>>= _) _ _ _
 refine wpAny_bind ?_
 unfold Builtin.SmallTypes.ownedTupleHandOut
 have z6:IsZip (g5.push {cls:= .type "tuple",data:= .seq #[x,y]}) z TI TO .ellipsis :=q0d _ z5
 refine wpAny_bind (wpAny_setField_rec z6 (by simp) fun g7 z7 d7=>?_)
 replace z7:IsZip g7 z TI TO (rawInt g5.objs.size):=z7
 refine wpAny_setField_rec z7 (by simp) fun g8 z8 d8=>?_
 replace z8:IsZip g8 z TI TO (rawInt g5.objs.size):=z8
 have up:∀p o,p≠z→g5.get? p=some o→g8.get? p=some o:=fun p o c1 e=>d8.extBut _ _ c1 (d7.extBut _ _ c1 (q0d _ e))
 have T8:IsPair g8 g5.objs.size x y:=d8.extBut _ _ (Nat.ne_of_gt zl) (d7.extBut _ _ (Nat.ne_of_gt zl) (q0s _ rfl))
 have s8:g8.objs.size=g5.objs.size+1:=by rw[d8.1,d7.1,q1l]
 rw[sz] at z8 T8 s8
 refine wpAny_pure ⟨_,rfl,?_⟩
 show Q (.ref g5.objs.size) _
 rw[sz]
 exact hQ g8 z8 (up _ _ D.a2 TO5) (i5.keep fun o e=>up _ o D.a3 e) (j5.keep fun o e=>up _ o D.a4 e) T8 s8 fun p o c1 c2 c3 c4 e=>up p o c1 (k5 p o c1 c2 c3 c4 e)
theorem y5n {b c:Bool}{z TI TO i j l m:Addr}{k n:Nat}{xs ys:Array Value}{u v:Value}{Q:Fin→Shared→Prop} (hh:A.handled=none) (D:ZAp z TI TO i j) (lz:m≠z) (lT:m≠TO) (lz':l≠z)
 (hz:IsZip s.heap z TI TO .none) (hTI:IsPair s.heap TI (.ref i) (.ref j)) (hTO:IsPair s.heap TO u v)
 (h1:SIt b s.heap i l k) (h2:SIt c s.heap j m n) (hl:SAt b s.heap l xs) (hm:SAt c s.heap m ys) (hend:xs[k]? =none∨ys[n]? =none)
 (hE:∀h' e,(∀p o,p≠z→p≠TO→p≠i→p≠j→s.heap.get? p=some o→h'.get? p=some o)→(∃o,h'.get? e=some o∧o.cls= .type "StopIteration")→E (.ref e) {s with heap:=h'}):
 wpAny (model prog w) A (Builtin.«zip.__next__» ⟨[.ref z],[]⟩) Q E s:=by
 have mi:m≠i:=h1.ne_at hm
 show wpAny _ _ (field (.ref z) 2>>= _) _ _ _
 refine wpAny_bind (wpAny_field hz rfl (x:= .bool false) rfl ?_)
 show wpAny _ _ (field (.ref z) 3>>= _) _ _ _
 refine wpAny_bind (wpAny_field hz rfl (x:= .ref TI) rfl (wpAny_bind (wpAny_seqItems hTI rfl ?_)))
 show wpAny _ _ (Builtin.SmallTypes.ownedTupleIsFree (.ref z)>>= _) _ _ _
 refine wpAny_bind ?_
 unfold Builtin.SmallTypes.ownedTupleIsFree
 refine wpAny_bind (wpAny_field hz rfl (x:= .none) rfl (wpAny_pure ?_))
 simp only[if_true]
 refine wpAny_bind (wpAny_rule (wpAny_bind (wpAny_field hz rfl (x:= .ref TO) rfl (wpAny_bind (wpAny_setField_rec hz (by simp) fun g1 z1 d1=>?_)))))
 replace z1:IsZip g1 z TI TO .ellipsis :=z1
 refine wpAny_bind ?_
 simp only[List.zipIdx_cons,List.zipIdx_nil,List.forIn_cons,List.forIn_nil]
 refine wpAny_bind (wpAny_bind (wpAny_onRaise ?_))
 show wpAny _ _ (Builtin.SmallTypes.nextOf (.ref i)>>= _) _ _ _
 cases hx:xs[k]? with
 |none=>
  refine wpAny_bind (z5V hh (h1.keep fun o e=>d1.extBut _ o D.a3 e) (hl.keep fun o e=>d1.extBut _ o lz' e) hx fun g2 e d2 he=>?_)
  obtain⟨oe,hoe,hce⟩:=he
  have z2:IsZip g2 z TI TO .ellipsis :=d2 _ _ D.a3.symm z1
  have hez:e≠z:=fun q=>by subst q;rw[z2] at hoe;cases hoe;simp at hce
  exact wpAny_setField_rec z2 (by simp) fun g3 _ d3=>hE g3 e (fun p o c1 _ c3 _ q=>d3.extBut _ _ c1 (d2 _ _ c3 (d1.extBut _ _ c1 q))) ⟨oe,d3.extBut _ _ hez hoe,hce⟩
 |some x=>
  have hy:ys[n]? =none:=hend.elim (fun h=>by rw[hx] at h;cases h) id
  refine wpAny_bind (z2V (h1.keep fun o e=>d1.extBut _ o D.a3 e) (hl.keep fun o e=>d1.extBut _ o lz' e) hx fun g2 i2 d2=>wpAny_pure ?_)
  have TO2:IsPair g2 TO u v:=d2.extBut _ _ D.a8 (d1.extBut _ _ D.a2 hTO)
  refine wpAny_bind (wpAny_seqItems TO2 rfl (wpAny_bind (wpAny_updateSeq_pair TO2 fun g3 TO3 d3=>?_)))
  refine wpAny_bind (wpAny_letGo (wpAny_pure ?_))
  refine wpAny_bind (wpAny_bind (wpAny_onRaise ?_))
  show wpAny _ _ (Builtin.SmallTypes.nextOf (.ref j)>>= _) _ _ _
  refine wpAny_bind (z5V hh (h2.keep fun o e=>d3.extBut _ o D.a9.symm (d2.extBut _ o D.a10.symm (d1.extBut _ o D.a4 e))) (hm.keep fun o e=>d3.extBut _ o lT (d2.extBut _ o mi (d1.extBut _ o lz e))) hy fun g4 e d4 he=>?_)
  obtain⟨oe,hoe,hce⟩:=he
  have z4:IsZip g4 z TI TO .ellipsis :=d4 _ _ D.a4.symm (d3.extBut _ _ D.a2.symm (d2.extBut _ _ D.a3.symm z1))
  have hez:e≠z:=fun q=>by subst q;rw[z4] at hoe;cases hoe;simp at hce
  exact wpAny_setField_rec z4 (by simp) fun g5 _ d5=>hE g5 e (fun p o c1 c2 c3 c4 q=>d5.extBut _ _ c1 (d4 _ _ c4 (d3.extBut _ _ c2 (d2.extBut _ _ c3 (d1.extBut _ _ c1 q))))) ⟨oe,d5.extBut _ _ hez hoe,hce⟩
theorem z8N {z TI TO:Addr}{f0:Value}{Q:Option Value→Shared→Prop} (hz:IsZip s.heap z TI TO f0)
 (h:wpAny (model prog w) A.in1 (Builtin.«zip.__next__» ⟨[.ref z],[]⟩) (fun fin s'=>∃v,fin= .done (.ret v)∧Q (some v) s') (fun e s'=>(∃a o,e= .ref a∧s'.heap.get? a=some o∧o.cls= .type "StopIteration")∧Q none s') s):wpAny (model prog w) A (pyNext (.ref z)) Q E s:=by
 have hT:s.TypeIs (.ref z) "zip":=⟨_,hz,rfl⟩
 unfold pyNext
 refine wpAny_bind (wpAny_attempt (wpAny_callSpecial?_slot (name:=Str.ofString "__next__") hT F.slot_zip_next (wpAny_call_entry F.slot_zip_next hT F.entry_zip_next ?_ (F.args_zip_next_1 _))))
 refine wpAny_mono h (fun fin s' ⟨v,e,q⟩=>⟨v,e,wpAny_pure q⟩) fun e s' ⟨⟨a,o,e1,e2,e3⟩,q⟩=>?_
 subst e1
 exact wpAny_bind (wpAny_isInstance (T:="StopIteration") (b:=true) ⟨o,e2,e3⟩ isSubtype_stop (wpAny_pure q))
end
end L2
namespace L2
open PySem PySem.Spec PyProof.Rows
def itN (b:Bool):String:=match b with
 |true=>"list_iterator"
 |false=>"tuple_iterator"
abbrev itO (b:Bool) (a:Addr):Obj:={cls:= .type (itN b),data:= .fields #[.ref a,.int 0 0]}
theorem SAt.push {b:Bool}{h:Heap}{a:Addr}{its:Array Value} (x:SAt b h a its) (o:Obj):SAt b (h.push o) a its:=x.keep fun _ e=>q0d _ e
theorem SIt.new {b:Bool}{h:Heap}{a:Addr}:SIt b (h.push (itO b a)) h.objs.size a 0:=by
 cases b with
 |true=>exact⟨_,Heap.get?_push_size _ rfl,rfl,rfl⟩
 |false=>exact⟨_,Heap.get?_push_size _ rfl,rfl,rfl⟩
section
variable {prog:Program}{w:World}{A:Around}{E:Value→Shared→Prop}{s:Shared}
theorem z4y {b:Bool}{a:Addr}{its:Array Value}{Q:Value→Shared→Prop} (h:SAt b s.heap a its) (q:Q (.ref s.heap.objs.size) {s with heap:=s.heap.push (itO b a)}):wpAny (model prog w) A (pyIter (.ref a)) Q E s:=by
 cases b with
 |true=>exact wpAny_pyIter_list (show s.heap.IsList a its from h) q
 |false=>exact wpAny_pyIter_tuple (show s.heap.IsTuple a its from h) q
end
abbrev zA (h:Heap) (b:Bool) (l:Addr):Heap:=h.push (itO b l)
abbrev zB (h:Heap) (b c:Bool) (l m:Addr):Heap:=(zA h b l).push (itO c m)
abbrev zC (h:Heap) (b c:Bool) (l m:Addr):Heap:=(zB h b c l m).push {cls:= .type "tuple",data:= .seq #[.ref h.objs.size,.ref (zA h b l).objs.size]}
abbrev zD (h:Heap) (b c:Bool) (l m:Addr):Heap:=(zC h b c l m).push {cls:= .type "tuple",data:= .seq #[.none,.none]}
abbrev zE (h:Heap) (b c:Bool) (l m:Addr):Heap:=(zD h b c l m).push {cls:= .type "zip",data:= .fields #[.none,.bool false,.bool false,.ref (zB h b c l m).objs.size,.ref (zC h b c l m).objs.size]}
theorem y1T (b c:Bool) (l m:Addr) (xs ys:Array Value):
 Meets (Builtin.«zip.__new__» ⟨[.type "zip",.ref l,.ref m],[]⟩) (fun _ R s=>SAt b s.heap l xs∧SAt c s.heap m ys∧R (.ok (.ret (.ref (zD s.heap b c l m).objs.size))) {s with heap:=zE s.heap b c l m}):=
 .of_wp fun prog w A R s h=>by
  obtain⟨hp,g,d,tk,os⟩:=s;obtain⟨h1,h2,h⟩:=h
  have hsub:=sub_zip
  have k1:SAt b (Shared.heap ⟨hp,g,d,tk,os⟩) l xs:=h1
  have k2:SAt c (Shared.heap ⟨hp.push (itO b l),g,d,tk,os⟩) m ys:=SAt.push h2 _
  wp_walk using z4y k1,z4y k2
  exact⟨_,rfl,h⟩
section
variable {prog:Program}{w:World}{A:Around}{E:Value→Shared→Prop}{s:Shared}
theorem y4w {b c:Bool}{l m:Addr}{xs ys:Array Value}{Q:Value→Shared→Prop} (hl:SAt b s.heap l xs) (hm:SAt c s.heap m ys)
 (h:∀h',IsZip h' (s.heap.objs.size+4) (s.heap.objs.size+2) (s.heap.objs.size+3) .none →IsPair h' (s.heap.objs.size+2) (.ref s.heap.objs.size) (.ref (s.heap.objs.size+1))→IsPair h' (s.heap.objs.size+3) .none .none →
  SIt b h' s.heap.objs.size l 0→SIt c h' (s.heap.objs.size+1) m 0→(∀p o,s.heap.get? p=some o→h'.get? p=some o)→Q (.ref (s.heap.objs.size+4)) {s with heap:=h'}):
 wpAny (model prog w) A (call (.type "zip") [.ref l,.ref m]) Q E s:=by
 refine callType_new F.called_zip (by decide) (F.typeCall_zip_2 _ _) (F.newCall_zip_2 _ _) (fun obj=>F.args_object_init_3 obj _ _) F.entry_zip_new (y1T b c l m xs ys) ⟨hl,hm,?_⟩
 have z1:(zA s.heap b l).objs.size =s.heap.objs.size+1:=q1l ..
 have z2:(zB s.heap b c l m).objs.size =s.heap.objs.size+2:=by rw[q1l,z1]
 have z3:(zC s.heap b c l m).objs.size =s.heap.objs.size+3:=by rw[q1l,z2]
 have z4:(zD s.heap b c l m).objs.size =s.heap.objs.size+4:=by rw[q1l,z3]
 have g5:(zE s.heap b c l m).get? (zD s.heap b c l m).objs.size =some _:=q0s _ rfl
 have g4:(zE s.heap b c l m).get? (zC s.heap b c l m).objs.size =some _:=q0d _ (q0s _ rfl)
 have g3:(zE s.heap b c l m).get? (zB s.heap b c l m).objs.size =some _:=q0d _ (q0d _ (q0s _ rfl))
 have g2:SIt c (zE s.heap b c l m) (zA s.heap b l).objs.size m 0:=SIt.new.keep fun o e=>q0d _ (q0d _ (q0d _ e))
 have g1:SIt b (zE s.heap b c l m) s.heap.objs.size l 0:=SIt.new.keep fun o e=>q0d _ (q0d _ (q0d _ (q0d _ e)))
 show _∧_
 rw[z2,z3,z4] at g5
 rw[z1,z2] at g3
 rw[z3] at g4
 rw[z1] at g2
 rw[z4]
 exact⟨⟨_,g5,rfl⟩,h _ g5 g3 g4 g1 g2 fun p o e=>q0d _ (q0d _ (q0d _ (q0d _ (q0d _ e))))⟩
end
def SqB (b:Bool) (K:PySem.W.Frag) (H:Hp) (a:Addr) (xs:List V):Prop:=match b with
 |true=>SqL K H a xs
 |false=>SqT K H a xs
section
variable {X:Cx}{pins:List (Addr×Obj)}{σ:St}{H:Hp}{s:Shared}{a:Addr}{xs ys:List V}{b:Bool}
theorem SqA.toB {K:PySem.W.Frag} (h:SqA K H a xs):∃b,SqB b K H a xs:=by
 rcases h with h|h
 ·exact⟨true,h⟩
 ·exact⟨false,h⟩
theorem Inv.sq (I:Inv X pins σ H s) (h:SqB b X.K H a xs):∃its:List Value,Vals xs its∧SAt b s.heap a its.toArray∧xs.length≤sizeLine:=by
 cases b with
 |true=>obtain⟨its,r,p,z⟩:=I.list h;exact⟨its,r,p.isList,z⟩
 |false=>obtain⟨its,r,p,z⟩:=I.tuple h;exact⟨its,r,p,z⟩
theorem Inv.sq_inj (I:Inv X pins σ H s) (h:SqB b X.K H a xs) (h':SqB b X.K H a ys):xs=ys:=by
 cases b with
 |true=>exact I.list_inj h h'
 |false=>exact I.tuple_inj h h'
theorem Inv.sq_ne (I:Inv X pins σ H s) (h:SqB b X.K H a xs) {c:Addr} (f:y0u X pins H c):a≠c:=by
 have tr:∀u,Rd H a u→a≠c:=fun u r z=>by
  subst z
  rcases r with r|⟨o,r⟩
  ·rw[f.1] at r;cases r
  ·rw[f.1] at r;cases r
 have kn:∀o,X.K.lookup a=some o→a≠c:=fun o e z=>by
  subst z
  have eb:=I.ok.mod.kin a o e
  rcases f.2.2.2.1 with q|q
  ·exact I.ok.noex a o eb q
  ·exact absurd (q0y (q0t (I.ok.bs a o eb).1) q) (q1e _)
 cases b with
 |true=>
  rcases h with h|⟨o,_,_,e,_⟩
  ·exact tr _ h
  ·exact kn o e
 |false=>
  rcases h with h|⟨o,_,_,e,_⟩
  ·exact tr _ h
  ·exact kn o e
end
def Itz (K:PySem.W.Frag) (b c:Bool) (l m:Addr):It:=
 ⟨fun i H=>∃xs ys x y,SqB b K H l xs∧SqB c K H m ys∧xs[i]? =some x∧ys[i]? =some y,
  fun i H x H'=>∃p u v,x= .ref p∧H p=none∧(∀xs,SqB b K H l xs→xs[i]? =some u)∧(∀ys,SqB c K H m ys→ys[i]? =some v)∧H'=upd H p (.tup [u,v]),
  fun i H=>∃xs ys,SqB b K H l xs∧SqB c K H m ys∧(xs.length≤i∨ys.length≤i)⟩
theorem y3o {P:Program}{w:World}{K:PySem.W.Frag}{elts:List Expr}{kk:Nat}{pos:Pos} (b c:Bool) (l m z TI TO i j:Addr) (D:ZAp z TI TO i j):
 y5k P w K (.Tuple elts kk pos) (Itz K b c l m) [z,TI,TO,i,j] z (fun k h=>IsZip h z TI TO .none ∧IsPair h TI (.ref i) (.ref j)∧(∃u v,IsPair h TO u v)∧SIt b h i l k∧SIt c h j m k) where
 mem:=by simp
 obj:=fun k h st q hq=>by
  obtain⟨t1,t2,⟨u,v,t3⟩,t4,t5⟩:=st
  have fin:∀(o:Obj),(∃v,o.data= .fields v)∨(∃a n,o.data= .seq a n)→∀v,o.data≠ .cell v:=fun o h v e=>by
    rcases h with⟨w',h⟩|⟨a,n,h⟩<;> ·rw[h] at e;cases e
  simp only[q0n,q2e,or_false] at hq
  rcases hq with rfl|rfl|rfl|rfl|rfl
  ·exact⟨_,t1,fin _ (.inl ⟨_,rfl⟩)⟩
  ·exact⟨_,t2,fin _ (.inr ⟨_,_,rfl⟩)⟩
  ·exact⟨_,t3,fin _ (.inr ⟨_,_,rfl⟩)⟩
  ·obtain⟨o,_,e,_,_,d⟩:=t4.ob;exact⟨o,e,fin _ (.inl ⟨_,d⟩)⟩
  ·obtain⟨o,_,e,_,_,d⟩:=t5.ob;exact⟨o,e,fin _ (.inl ⟨_,d⟩)⟩
 keep:=fun k h h' st f=>by
  obtain⟨t1,t2,⟨u,v,t3⟩,t4,t5⟩:=st
  exact⟨f z (by simp) _ t1,f TI (by simp) _ t2,⟨u,v,f TO (by simp) _ t3⟩,t4.keep fun o e=>f i (by simp) o e,t5.keep fun o e=>f j (by simp) o e⟩
 item:=by
  intro X hP hw hK hc k pins s σ H E I hf st hg
  subst hP hw hK
  obtain⟨xs,ys,x,y,q1,q2,hx,hy⟩:=hg
  obtain⟨its,r1,p1,s1⟩:=I.sq q1
  obtain⟨jts,r2,p2,s2⟩:=I.sq q2
  obtain⟨u,hu,ru⟩:=r1.get hx
  obtain⟨v,hv,rv⟩:=r2.get hy
  obtain⟨t1,t2,⟨u0,v0,t3⟩,t4,t5⟩:=st
  have fz:=hf z (by simp)
  have fO:=hf TO (by simp)
  refine z8N t1 (y3j D (I.sq_ne q2 fz) (I.sq_ne q2 fO) (I.sq_ne q1 fz) t1 t2 t3 t4 t5 p1 p2 (x:=u) (y:=v) (by simpa using hu) (by simpa using hv) fun h' a1 a2 a3 a4 a5 a6 a7=>?_)
  refine⟨_,rfl,wpAny_letOwnedTupleGo_zip a1 fun h2 e2 d2=>?_⟩
  have lt:∀{p o},s.heap.get? p=some o→s.heap.objs.size≠p:=fun e=>Nat.ne_of_gt (q0t e)
  have hT2:h2.get? s.heap.objs.size=some {cls:= .type "tuple",data:= .seq #[u,v]}:=d2.extBut _ _ (lt t1) a5
  have t2':IsPair h2 TI (.ref i) (.ref j):=d2.extBut _ _ D.a1 (a7 _ _ D.a1 D.a5 D.a6 D.a7 t2)
  have I1:Inv X pins σ (upd H s.heap.objs.size (.tup [x,y])) {s with heap:=h2}:=by
   refine I.turnedLaid (t':=s.toks) (fp:=[z,TI,TO,i,j]) hf (fun p ob hp q=>?_) (q0i _) ?_
   ·simp only[q0n,q2e,or_false,not_or] at hp
    exact d2.extBut p ob hp.1 (a7 p ob hp.1 hp.2.2.1 hp.2.2.2.1 hp.2.2.2.2 q)
   ·exact⟨by show 2≤sizeLine;decide,[u,v],.cons ru (.cons rv .nil),_,hT2,rfl,_,rfl⟩
  refine⟨.ref s.heap.objs.size,_,I1,rfl,⟨_,x,y,rfl,I.hok.fresh (q0i _),fun zs hz=>by rw[I.sq_inj hz q1];exact hx,fun zs hz=>by rw[I.sq_inj hz q2];exact hy,rfl⟩,
   ⟨e2,t2',⟨_,_,d2.extBut _ _ D.a2 a2⟩,a3.keep fun o e=>d2.extBut _ o D.a3 e,a4.keep fun o e=>d2.extBut _ o D.a4 e⟩,fun p hp=>?_⟩
  have hlt:p<s.heap.objs.size:=by
   simp only[q0n,q2e,or_false] at hp
   rcases hp with rfl|rfl|rfl|rfl|rfl
   ·exact q0t t1
   ·exact q0t t2
   ·exact q0t t3
   ·obtain⟨o,_,e,_⟩:=t4.ob;exact q0t e
   ·obtain⟨o,_,e,_⟩:=t5.ob;exact q0t e
  rw[z0i (q0o hlt)]
  exact (hf p hp).1
 done:=by
  intro X hP hw hK hc k pins s σ H E I hf st hg
  subst hP hw hK
  obtain⟨xs,ys,q1,q2,hend⟩:=hg
  obtain⟨its,r1,p1,s1⟩:=I.sq q1
  obtain⟨jts,r2,p2,s2⟩:=I.sq q2
  obtain⟨t1,t2,⟨u0,v0,t3⟩,t4,t5⟩:=st
  have fz:=hf z (by simp)
  have fO:=hf TO (by simp)
  have l1:=r1.length
  have l2:=r2.length
  refine z8N t1 (y5n (I.ok.hd hc) D (I.sq_ne q2 fz) (I.sq_ne q2 fO) (I.sq_ne q1 fz) t1 t2 t3 t4 t5 p1 p2 (by simp;lia) fun h' e a7 he=>⟨let ⟨o,e1,e2⟩:=he;⟨e,o,rfl,e1,e2⟩,rfl,?_⟩)
  refine I.turnedAll (t':=s.toks) (fp:=[z,TI,TO,i,j]) hf fun p ob hp q=>?_
  simp only[q0n,q2e,or_false,not_or] at hp
  exact a7 p ob hp.1 hp.2.2.1 hp.2.2.2.1 hp.2.2.2.2 q
 self:=fun _ _ _ _ _ st h=>wpAny_pyIter_zip st.1 h
section
variable {X:Cx}
def iZip (tl:TA):TI:=fun σ H R=>tl σ H fun vs H1=>∃l m b c xs ys,vs=[.ref l,.ref m]∧SqB b X.K H1 l xs∧SqB c X.K H1 m ys∧R (Itz X.K b c l m) H1
theorem y7e {elts:List Expr}{k:Nat}{tpos:Pos}{l m:Expr}{tl:TA}{p pos:Pos} (hg:Gl X "zip") (hm:X.mg "zip"=none) (ha:PA X [l,m] tl) (hs:starEach [l,m] X.env=[(false,eval l X.env),(false,eval m X.env)]:=by rfl) (hs2:starEach [m] X.env=[(false,eval m X.env)]:=by rfl):
 PI X (.Tuple elts k tpos) (.Call (.Name "zip" p) [l,m] [] pos) (iZip (X:=X) tl):=by
 intro pins s σ H R I h
 refine Call_ (z2X I hg hm boot_zip (PyProof.Rows.callWith_type1 (thn (ha pos pins s σ H _ I h) fun us s1 ⟨vs,H1,I1,r1,q1⟩=>?_) (by rw[hs,hs2]) (by rw[hs2];rfl)))
 obtain⟨a,b,bb,bc,xs,ys,e,q1,q2,q⟩:=q1
 subst e
 cases r1 with
 |cons r rr=>
  cases rr with
  |cons r' rr=>
   cases rr
   cases r
   cases r'
   obtain⟨its,v1,p1,_⟩:=I1.sq q1
   obtain⟨jts,v2,p2,_⟩:=I1.sq q2
   refine y4w p1 p2 fun h' z1 z2 z3 z4 z5 kp=>wpAny_pyIter_zip z1 ?_
   have I2:Inv X pins σ H1 {s1 with heap:=h'}:=I1.kept (t':=s1.toks) kp
   have ne:∀x y:Nat,x≠y→s1.heap.objs.size+x≠s1.heap.objs.size+y:=fun x y h e=>h (Nat.add_left_cancel e)
   have D:ZAp (s1.heap.objs.size+4) (s1.heap.objs.size+2) (s1.heap.objs.size+3) s1.heap.objs.size (s1.heap.objs.size+1):=
        ⟨ne 2 4 (by decide),ne 3 4 (by decide),ne 0 4 (by decide),ne 1 4 (by decide),ne 2 3 (by decide),ne 2 0 (by decide),ne 2 1 (by decide),ne 3 0 (by decide),ne 3 1 (by decide),ne 0 1 (by decide)⟩
   refine⟨_,[s1.heap.objs.size+4,s1.heap.objs.size+2,s1.heap.objs.size+3,s1.heap.objs.size,s1.heap.objs.size+1],_,_,H1,rfl,I2,y3o bb bc a b _ _ _ _ _ D,⟨z1,z2,⟨_,_,z3⟩,z4,z5⟩,fun c hc=>?_,q⟩
   have le:s1.heap.objs.size≤c:=by
        simp only[q0n,q2e,or_false] at hc
        rcases hc with rfl|rfl|rfl|rfl|rfl
        ·exact q1d _ _
        ·exact q1d _ _
        ·exact q1d _ _
        ·exact q0i _
        ·exact q1d _ _
   exact I1.fpOk le (I1.hok.fresh le)
end
end L2
namespace L2
open PySem PySem.Spec PyProof.Rows
structure z6l (J:It) (n:Nat) (Ok:Hp→Prop) (yl:Nat→Hp→V→Hp→Prop):Prop where
 go:∀i H,Ok H→i<n→J.go i H
 stop:∀H,Ok H→J.stop n H
 yld:∀i H x H',Ok H→i<n→J.yld i H x H'→yl i H x H'
theorem z0r (K:PySem.W.Frag) (a:Addr) (xs:List V):z6l (Itl K a) xs.length (fun H=>SqL K H a xs) (fun i H x H'=>H'=H∧xs[i]? =some x) where
 go:=fun i H h hi=>⟨xs,xs[i],h,by simp[hi]⟩
 stop:=fun H h=>⟨xs,h,q0i _⟩
 yld:=fun i H x H' h hi y=>⟨y.1,y.2 xs h⟩
theorem z5J (K:PySem.W.Frag) (a:Addr) (xs:List V):z6l (Itt K a) xs.length (fun H=>SqT K H a xs) (fun i H x H'=>H'=H∧xs[i]? =some x) where
 go:=fun i H h hi=>⟨xs,xs[i],h,by simp[hi]⟩
 stop:=fun H h=>⟨xs,h,q0i _⟩
 yld:=fun i H x H' h hi y=>⟨y.1,y.2 xs h⟩
theorem z1j (lo:Int) (n:Nat):z6l (Itr lo n) n (fun _=>True) (fun i H x H'=>H'=H∧x= .int (lo+i)) where
 go:=fun i H h hi=>hi
 stop:=fun H h=>q0i _
 yld:=fun i H x H' h hi y=>y
theorem z4l (K:PySem.W.Frag) (a:Addr) (xs:List V):z6l (Ite K a) xs.length (fun H=>SqL K H a xs) (fun i H x H'=>∃p v,x= .ref p∧H p=none∧xs[i]? =some v∧H'=upd H p (.tup [.int i,v])) where
 go:=fun i H h hi=>⟨xs,xs[i],h,by simp[hi]⟩
 stop:=fun H h=>⟨xs,h,q0i _⟩
 yld:=fun i H x H' h hi y=>let ⟨p,v,e,hn,hv,e2⟩:=y;⟨p,v,e,hn,hv xs h,e2⟩
theorem y3A (K:PySem.W.Frag) (b c:Bool) (l m:Addr) (xs ys:List V):z6l (Itz K b c l m) (min xs.length ys.length) (fun H=>SqB b K H l xs∧SqB c K H m ys)
 (fun i H x H'=>∃p u v,x= .ref p∧H p=none∧xs[i]? =some u∧ys[i]? =some v∧H'=upd H p (.tup [u,v])) where
 go:=fun i H h hi=>⟨xs,ys,xs[i]'(by lia),ys[i]'(by lia),h.1,h.2,by simp,by simp⟩
 stop:=fun H h=>⟨xs,ys,h.1,h.2,by lia⟩
 yld:=fun i H x H' h hi y=>let ⟨p,u,v,e,hn,hu,hv,e2⟩:=y;⟨p,u,v,e,hn,hu xs h.1,hv ys h.2,e2⟩
theorem z0C {J:It}{n:Nat}{Ok:Hp→Prop}{yl:Nat→Hp→V→Hp→Prop} (R:z6l J n Ok yl) {g:TG}{tb:TS}{D:y5l}{σ:St}{H:Hp} (Pv:Nat→St→Hp→Prop) (h0:Pv 0 σ H) (hl:∀i σ H,i≤n→Pv i σ H→Ok H)
 (hs:∀i x σ H H',i<n→Pv i σ H→yl i H x H'→g x σ H' fun σ2 H2=>tb {D with nx:=Pv (i+1),ct:=Pv (i+1),bk:=D.nx} σ2 H2) (hd:∀σ H,Pv n σ H→D.nx σ H):
 ∃W:Nat→Nat→St→Hp→Prop,(∃m,W 0 m σ H)∧∀i m σ H,W i m σ H→
  (J.stop i H∧D.nx σ H)∨(J.go i H∧∃N:St→Hp→Prop,(∀σ' H',N σ' H'→∃m',m'<m∧W (i+1) m' σ' H')∧∀x H',J.yld i H x H'→g x σ H' fun σ2 H2=>tb {D with nx:=N,ct:=N,bk:=D.nx} σ2 H2):=by
 refine⟨fun i m σ H=>m=n - i∧i≤n∧Pv i σ H,⟨n,by simp,q0N _,h0⟩,?_⟩
 rintro i m σ H ⟨rfl,hi,p⟩
 have q:=hl i σ H hi p
 by_cases hlt:i<n
 ·exact .inr ⟨R.go i H q hlt,Pv (i+1),fun σ' H' p'=>⟨n - (i+1),by lia,rfl,hlt,p'⟩,fun x H' y=>hs i x σ H H' hlt p (R.yld i H x H' q hlt y)⟩
 ·have e:i=n:=by lia
  subst e
  exact .inl ⟨R.stop H q,hd σ H p⟩
theorem z4E {J:It}{n:Nat}{Ok:Hp→Prop}{yl:Nat→Hp→V→Hp→Prop} (R:z6l J n Ok yl) {fr:List (Option Nat)}{g:TG}{tt:TT}{te:TE}{σ:St}{H1:Hp}{Q:VK}{D:Addr} (Pv:Nat→List V→St→Hp→Prop)
 (h0:Pv 0 [] (z0B fr σ) (upd H1 D (.lst []))) (hl:∀i acc σ H,i≤n→Pv i acc σ H→Ok H∧acc.length≤i) (hn:n≤sizeLine)
 (hs:∀(N:Bool→V→St→Hp→Prop) (i:Nat) (x:V) (acc:List V) (σ:St) (H H':Hp),i<n→Pv i acc σ H→yl i H x H'→
  (∀v σ2 H4,H4 D=some (.lst acc)→Pv (i+1) (acc++[v]) σ2 (upd H4 D (.lst (acc++[v])))→N true v σ2 H4)→(∀σ2 H3,Pv (i+1) acc σ2 H3→N false .non σ2 H3)→
  g x σ H' fun σ2 H2=>tt σ2 H2 fun b H3=>if b=true then te σ2 H3 fun v H4=>N true v σ2 H4 else N false .non σ2 H3)
 (hd:∀acc σ H,Pv n acc σ H→Q (.ref D) H):
 z3f J g tt te Q D (z0B fr σ) (upd H1 D (.lst [])):=by
 refine⟨fun i m σ H=>m=n - i∧i≤n∧∃acc,Pv i acc σ H,⟨n,by simp,q0N _,[],h0⟩,?_⟩
 rintro i m σ H ⟨em,hi,acc,p⟩
 obtain⟨q,ha⟩:=hl i acc σ H hi p
 by_cases hlt:i<n
 ·refine .inr ⟨R.go i H q hlt,fun x H' y=>?_⟩
  exact hs (fun b v σ2 H4=>match b with|true=>∃acc' m',H4 D=some (.lst acc')∧acc'.length<sizeLine∧m'<m∧(m'=n - (i+1)∧i+1≤n∧∃acc2,Pv (i+1) acc2 σ2 (upd H4 D (.lst (acc'++[v]))))|false=>∃m',m'<m∧(m'=n - (i+1)∧i+1≤n∧∃acc2,Pv (i+1) acc2 σ2 H4))
   i x acc σ H H' hlt p (R.yld i H x H' q hlt y) (fun v σ2 H4 e pv=>⟨acc,n - (i+1),e,by lia,by lia,rfl,hlt,_,pv⟩) (fun σ2 H3 pv=>⟨n - (i+1),by lia,rfl,hlt,_,pv⟩)
 ·have e:i=n:=by lia
  subst e
  exact .inl ⟨R.stop H q,hd acc σ H p⟩
theorem z0z {α:Type} (xs:List α):xs.filter (fun _=>true)=xs:=List.filter_eq_self.mpr fun _ _=>rfl
theorem z1L {J:It}{n:Nat}{Ok:Hp→Prop}{xs:List V} (hx:n=xs.length) (R:z6l J n Ok (fun i H x H'=>H'=H∧xs[i]? =some x)) {fr:List (Option Nat)}{tt:TT}{te:TE}{σ:St}{H1:Hp}{Q:VK}{D:Addr} (hD:H1 D=none) (tst:V→Bool) (val:V→V)
 (hok:∀H,Same H1 H→Ok H) (hn:n≤sizeLine)
 (ht:∀x∈xs,∀Hc,Same H1 Hc→∀S:Bool→Hp→Prop,S (tst x) Hc→tt ((z0B fr σ).set 0 (some x)) Hc S)
 (hv:∀x∈xs,tst x=true→∀Hc,Same H1 Hc→∀S:VK,S (val x) Hc→te ((z0B fr σ).set 0 (some x)) Hc S)
 (q:Q (.ref D) (upd H1 D (.lst ((xs.filter tst).map val)))):
 z3f J (z6X 0) tt te Q D (z0B fr σ) (upd H1 D (.lst [])):=by
 subst hx
 have st:∀acc,Same H1 (upd H1 D (.lst acc)):=fun acc=>z0e hD _
 refine z4E R (fun i acc σ' H'=>(∃o,σ'=(z0B fr σ).set 0 o∨σ'=z0B fr σ)∧H'=upd H1 D (.lst acc)∧acc=((xs.take i).filter tst).map val) ⟨⟨none,.inr rfl⟩,rfl,by simp⟩ ?_ hn ?_ ?_
 ·rintro i acc σ' H' hi ⟨_,rfl,rfl⟩
  refine⟨hok _ (st _),?_⟩
  rw[q0a]
  refine q0m (q1o _ _) ?_
  rw[q0w];lia
 ·rintro N i x acc σ' H' H'' hi ⟨hσ,rfl,ha⟩ ⟨rfl,hx⟩ n1 n2
  have hm:x∈xs:=q0A hx
  have es:σ'.set 0 (some x)=(z0B fr σ).set 0 (some x):=by
   obtain⟨o,e|e⟩:=hσ
   ·rw[e,q1Z]
   ·rw[e]
  show tt (σ'.set 0 (some x)) _ _
  rw[es]
  have tk:xs.take (i+1)=xs.take i++[x]:=by rw[q0R,hx];rfl
  refine ht x hm _ (st _) _ ?_
  cases hb:tst x with
  |true=>
   refine z5h (hv x hm hb _ (st _) _ (n1 _ _ _ z0b ⟨⟨_,.inl rfl⟩,z5r,?_⟩))
   rw[tk,q1f,q0r,←ha]
   simp[hb]
  |false=>
   refine z5i (n2 _ _ ⟨⟨_,.inl rfl⟩,rfl,?_⟩)
   rw[tk,q1f,q0r,←ha]
   simp[hb]
 ·rintro acc σ' H' ⟨_,rfl,rfl⟩
  rw[q0T]
  exact q
section
variable {X:Cx}{K:PySem.W.Frag}{tg:Expr}
theorem z0F (h:X.K=K):IxR X (rIxL K):=by subst h;exact y2f
theorem z0V (h:X.K=K):IxR X (rIxT K):=by subst h;exact y4Y
theorem z1P (h:X.K=K):SlR X (rSlL K):=by subst h;exact y0W
def cLen (K:PySem.W.Frag):List V→Hp→VK→Prop:=fun xs H Q=>∃p ys,xs=[.ref p]∧SqA K H p ys∧Q (.int ys.length) H
theorem z1b (h:X.K=K):z1A X (.builtin "len") (cLen K):=by subst h;exact z7j
def cAny (K:PySem.W.Frag):List V→Hp→VK→Prop:=fun xs H Q=>∃p ys,xs=[.ref p]∧SqA K H p ys∧(∀y∈ys,PlV y)∧Q (.bl (ys.any trV)) H
theorem z3c (h:X.K=K) (hc:X.calm=true):z1A X (.builtin "any") (cAny K):=by subst h;exact y4x hc
def cAll (K:PySem.W.Frag):List V→Hp→VK→Prop:=fun xs H Q=>∃p ys,xs=[.ref p]∧SqA K H p ys∧(∀y∈ys,PlV y)∧Q (.bl (ys.all trV)) H
theorem y2W (h:X.K=K) (hc:X.calm=true):z1A X (.builtin "all") (cAll K):=by subst h;exact y4y hc
def cList (K:PySem.W.Frag):List V→Hp→VK→Prop:=fun xs H Q=>∃p ys,xs=[.ref p]∧SqA K H p ys∧∀l,H l=none→Q (.ref l) (upd H l (.lst ys))
theorem z2u (h:X.K=K):z1A X (.type "list") (cList K):=by subst h;exact z7i
def y7Q (K:PySem.W.Frag):List V→Hp→VK→Prop:=fun xs H Q=>∃p ys,xs=[.ref p]∧((SqL K H p ys∧∀l,H l=none→Q (.ref l) (upd H l (.tup ys)))∨(SqT K H p ys∧Q (.ref p) H))
theorem z2J (h:X.K=K):z1A X (.type "tuple") (y7Q K):=by subst h;exact z6i
theorem y4O (h:X.K=K):OpR X (compareOp .In) (rIn K false):=by subst h;exact y1B
theorem y1z (h:X.K=K):OpR X (compareOp .NotIn) (rIn K true):=by subst h;exact z6L
theorem z0w (h:X.K=K) {l:Expr}{tl:TE} (hl:PE X l tl):PI X tg l (y7G K tl):=by subst h;exact y5F hl
theorem y1u (h:X.K=K) {l:Expr}{tl:TE} (hl:PE X l tl):PI X tg l (iTup K tl):=by subst h;exact y7f hl
def y7H (K:PySem.W.Frag) (tl:TA):TI:=fun σ H R=>tl σ H fun vs H1=>∃a xs,vs=[.ref a]∧H1 a=some (.lst xs)∧R (Ite K a) H1
theorem z5O (h:X.K=K) {elts:List Expr}{k:Nat}{tpos:Pos}{l:Expr}{tl:TA}{p pos:Pos} (hg:Gl X "enumerate") (hm:X.mg "enumerate"=none) (ha:PA X [l] tl) (hs:starEach [l] X.env=[(false,eval l X.env)]:=by rfl):
 PI X (.Tuple elts k tpos) (.Call (.Name "enumerate" p) [l] [] pos) (y7H K tl):=by subst h;exact y5G hg hm ha hs
def iZipK (K:PySem.W.Frag) (tl:TA):TI:=fun σ H R=>tl σ H fun vs H1=>∃l m b c xs ys,vs=[.ref l,.ref m]∧SqB b K H1 l xs∧SqB c K H1 m ys∧R (Itz K b c l m) H1
theorem z7N (h:X.K=K) {elts:List Expr}{k:Nat}{tpos:Pos}{l m:Expr}{tl:TA}{p pos:Pos} (hg:Gl X "zip") (hm:X.mg "zip"=none) (ha:PA X [l,m] tl) (hs:starEach [l,m] X.env=[(false,eval l X.env),(false,eval m X.env)]:=by rfl) (hs2:starEach [m] X.env=[(false,eval m X.env)]:=by rfl):
 PI X (.Tuple elts k tpos) (.Call (.Name "zip" p) [l,m] [] pos) (iZipK K tl):=by subst h;exact y7e hg hm ha hs hs2
theorem z0Q (h:X.K=K) {es:List Expr}{k:Nat}{pos:Pos}{t:TGs} (n:Nat) (hc:X.calm=true) (hp:PGs X es t) (hn:(assignEach es X.env).length =n:=by rfl) (hst:(assignEach es X.env).findIdx? (·.1)=none:=by rfl):PG X (.Tuple es k pos) (gTup K n t):=by
 subst h;exact y7h hc hp hn hst
end
end L2
namespace L2
open PySem PySem.Spec PySem.W PyProof.Rows
section
variable {X:Cx}{e:Expr}{te:TE}{a:Str}{j:Nat}{p1 p2 pos:Pos}
end
section
variable {X:Cx}{C W fI:Addr}{x:Str}{np apos cpos:Pos}{e1 e2:Expr}{ta:TA}
end
section
variable {X:Cx}{pins:List (Addr×Obj)}{σ:St}{H:Hp}{s:Shared}{h':Heap}
end
section
variable {X:Cx}{pins:List (Addr×Obj)}{σ:St}{H:Hp}{s:Shared}{C a:Addr}{f:Str}{v:Value}{y:V}
variable {o value:Expr}{ta tv:TE}{pos pos':Pos}
end
end L2
namespace L2
open PySem PySem.Spec PySem.W PyProof.Rows
section
variable {prog:Program}{w:World}{A:Around}{E:Value→Shared→Prop}{h:Heap}{g:Array GenState}{d:Drawn}{t:Nat}{os:OsState}
variable {nm q:Str}{C N:Addr}{bs bm:List Value}{hdct:Bool}{sn:List Str}{sub:List Value}{ab:Bool}{col:Option Bool}{dd:Option Addr}{k0 k1 k2 k3 k5:Option Value}{mN:Str→Option Value}{fI:Addr}{oI:Obj}
end
section
variable {X:Cx}{pins:List (Addr×Obj)}{σ:St}{H:Hp}{s:Shared}
variable {CX:CXT}{k:Nat}{C W fI:Addr}{fd:FuncData}{ps:List Str}{sp:Sp}{E:XK}{x:Str}{np pos:Pos}{e:Expr}{es:List Expr}{t:TA}
end
section
variable {X:Cx}{fx cx n:Str}{fp cpos xpos hp hpos tpos:Pos}{e:Expr}{es:List Expr}{ta:TA}{k j:Nat}{ps:List Str}{sp:Sp}{W:Addr}{st0:Stmt}{ts:TS}
end
section
variable {X:Cx}{K:Frag}
end
section
variable {prog:Program}{w:World}{A:Around}{E:Value→Shared→Prop}{h:Heap}{gn:Array GenState}{dr:Drawn}{tt:Nat}{os:OsState}{K:Frag}{x D:Addr}{ox od:Obj}{name:Str}
end
section
variable {X:Cx}{e:Expr}{f:Str}{pos:Pos}{ta:TE}{K:Frag}
end
end L2
namespace L2
open PySem PySem.Spec PyProof.Rows
section
variable {prog:Program}{w:World}{A:Around}{E:Value→Shared→Prop}{s:Shared}
end
section
variable {X:Cx}{K:PySem.W.Frag}
def Itq (K:PySem.W.Frag) (b:Bool) (a:Addr):It:=match b with
 |true=>Itl K a
 |false=>Itt K a
theorem z5K (K:PySem.W.Frag) (b:Bool) (a:Addr) (xs:List V):z6l (Itq K b a) xs.length (fun H=>SqB b K H a xs) (fun i H x H'=>H'=H∧xs[i]? =some x):=by
 cases b with
 |true=>exact z0r K a xs
 |false=>exact z5J K a xs
def iSq (K:PySem.W.Frag) (tl:TE):TI:=fun σ H R=>tl σ H fun x H1=>∃a b xs,x= .ref a∧SqB b K H1 a xs∧R (Itq K b a) H1
theorem z8H {tg l:Expr}{tl:TE} (h:X.K=K) (hl:PE X l tl):PI X tg l (iSq K tl):=by
 subst h
 intro pins s σ H R I q
 refine thn (hl pins s σ H _ I q) fun v s1 ⟨x,H1,I1,r1,a,b,xs,e,hq,q1⟩=>?_
 subst e
 cases r1
 cases b with
 |true=>
  obtain⟨its,rv,p,hz⟩:=I1.list hq
  refine wpAny_pyIter_list p.isList ⟨s1.heap.objs.size,[s1.heap.objs.size],_,_,H1,rfl,I1.kept (t':=s1.toks) fun b o e=>q0d _ e,z6r a _,⟨_,q0s _ rfl,rfl,rfl⟩,fun b hb=>?_,q1⟩
  have e:b=s1.heap.objs.size:=by simpa using hb
  subst e
  exact I1.fpOk (q0i _) (I1.hok.fresh (q0i _))
 |false=>
  obtain⟨its,rv,p,hz⟩:=I1.tuple hq
  refine wpAny_pyIter_tuple (show s1.heap.IsTuple a its.toArray from p) ⟨s1.heap.objs.size,[s1.heap.objs.size],_,_,H1,rfl,I1.kept (t':=s1.toks) fun b o e=>q0d _ e,z4T a _,⟨_,q0s _ rfl,rfl,rfl⟩,fun b hb=>?_,q1⟩
  have e:b=s1.heap.objs.size:=by simpa using hb
  subst e
  exact I1.fpOk (q0i _) (I1.hok.fresh (q0i _))
def rSlA (K:PySem.W.Frag):V→Option Int→Option Int→Hp→VK→Prop:=fun x lo hi H Q=>rSlL K x lo hi H Q∨rSlT K x lo hi H Q
theorem y0Y (h:X.K=K):SlR X (rSlA K):=by subst h;exact SlR.or y0W y6U
def rIxA (K:PySem.W.Frag):R2:=fun x y H Q=>rIxL K x y H Q∨rIxT K x y H Q
theorem z6b (h:X.K=K):IxR X (rIxA K):=by subst h;exact IxR.or y2f y4Y
theorem y5P (h:X.K=K) (hu:X.A.units+64<cLine):OpR X (compareOp .NotEq) (rNeD K):=by subst h;exact y7n hu
end
theorem SqB.same {b:Bool}{K:PySem.W.Frag}{H H':Hp}{a:Addr}{xs:List V} (g:Same H H') (h:SqB b K H a xs):SqB b K H' a xs:=by
 cases b with
 |true=>exact SqL.same g h
 |false=>exact SqT.same g h
theorem z0h {n:Nat} (h:n≤16777216):n≤sizeLine:=by rw[sizeLine_eq];exact h
theorem z3q {n:Nat} (h:n<16777216):n<sizeLine:=by rw[sizeLine_eq];exact h
end L2
namespace L2
open PySem PySem.Spec PyProof.Rows
section
variable {X:Cx}{tg iter elt:Expr}{ifs:List Expr}{scope:Scope}{pos:Pos}{cl:List (Str×Addr)}{Nc:List Str}{fr:List (Option Nat)}{wi:TI}{g:TG}{tt:TT}{te:TE}
theorem z3m {y:Str}{py spos:Pos}{jj:Nat} (hsw:swapsWith (.ListComp elt [⟨tg,iter,ifs,0⟩] scope pos) (some (.Name y py)) spos.line X.env=pure true) (hN:X.N.Nodup) (hj:X.N[jj]? =some y) (hx:Loc X.env.scope y) (hf:X.fn y=true∨X.env.scope.names.lookup y=some .local)
 (hc:X.calm=true) (hi:PI X tg iter wi) (hcl:closureFor scope X.env=pure cl) (hcell:∀y∈scope.names,y.2≠ .cell) (hk:scope.kind= .function) (hnm:∀y∈scope.names,y.2= .local →scope.names.lookup y.1=some .local)
 (hall:(scope.names.all fun p=>p.2 != .free || (cl.lookup p.1).isSome)=true) (cc:CapC X.env cl) (cn:CapN X scope cl Nc fr)
 (hg:∀C s2 H2 fp,PG (z2d X Nc scope cl C s2 H2 fp) tg g) (ht:∀C s2 H2 fp,PTs (z2d X Nc scope cl C s2 H2 fp) ifs tt) (he:∀C s2 H2 fp,PE (z2d X Nc scope cl C s2 H2 fp) elt te)
 (hs:∀x,foldedSetIterable iter X.env x=pure x:=by intro _;rfl):PS X (.Assign [.Name y py] (.ListComp elt [⟨tg,iter,ifs,0⟩] scope pos) spos) (tAsg (y3r fr wi g tt te) (z6X jj)):=by
 intro pins s σ H Ds I h
 rw[exec_Assign_Name_used _ _ _ _ hsw]
 refine wpAny_bind (wpAny_standAt (wpAny_bind ?_))
 show wpAny _ X.A (do let _ ←comprehension (.ListComp elt [⟨tg,iter,ifs,0⟩] scope pos) scope X.env _ (newList []) false (eval iter X.env) (some (assign (.Name y py) X.env))) _ _ s
 refine wpAny_bind (wpAny_mono (wpAny_comprehension_free (use:=some (assign (.Name y py) X.env)) (Q:=fun _ s'=>SP X pins Ds .next s') rfl hs hcl hk hnm ?_) (fun _ s' hq=>wpAny_pure (wpAny_pure hq)) fun _ _ e=>e)
 refine wpAny_mono (hi pins s σ H _ I h) (fun xv s1 h1=>wpAny_mono h1 (fun itv s2 h2=>?_) fun _ _ e=>e) fun _ _ e=>e
 obtain⟨it,fp,tn,J,H2,rfl,I2,T,st2,f2,q2⟩:=h2
 obtain⟨W,⟨m0,w0⟩,turn⟩:=q2 s2.heap.objs.size (I2.hok.fresh (q0i _))
 refine wpAny_newObj_type (wpAny_newFunctionEnv hcell (by intro y hy;simp at hy) (fun h4 ns4 sb4=>?_) hk)
 dsimp only at ns4 sb4 ⊢
 generalize hD:s2.heap.objs.size=D at*
 generalize hL:s2.heap.push {cls:= .type "list",dict:=none,data:= .seq ([]:List Value).toArray}=hl at ns4 sb4 ⊢
 have hlsz:hl.objs.size=D+1:=by rw[←hL,q1l,hD]
 rw[hlsz] at ns4 sb4 ⊢
 have DC:D≠D+1:=q0o (Nat.lt_succ_self _)
 have low:∀b o,s2.heap.get? b=some o→b<D:=fun b o e=>by rw[←hD];exact q0t e
 have kp:∀b o,s2.heap.get? b=some o→h4.get? b=some o:=fun b o e=>by
  have z:=low b o e
  refine sb4.extBut b o (q0o (q0M z)) (q0d _ ?_)
  rw[←hL]
  exact q0d _ e
 have hD4:h4.get? D=some {cls:= .type "list",dict:=none,data:= .seq ([]:List Value).toArray}:=by
  refine sb4.extBut D _ DC (q0d _ ?_)
  rw[←hL,←hD]
  exact q0s _ rfl
 have hn:H2 D=none:=by rw[←hD];exact I2.hok.fresh (q0i _)
 have hnC:H2 (D+1)=none:=I2.hok.fresh (by rw[hD];exact q1t _)
 let Y:=z2d X Nc scope cl (D+1) s2 H2 fp
 have ixv:∀b∈fp,b<D:=fun b hb=>by
  obtain⟨o,e,_⟩:=T.obj 0 _ st2 b hb
  exact low b o e
 have okY:Y.Ok:=by
  refine⟨I2.ok.mod,?_,I2.ok.glob,I2.ok.blt,?_,?_,?_,?_,fun _=>I2.ok.hd hc,I2.ok.frames,.inl rfl,?_,I2.bs,?_,?_,?_,I2.stack,I2.stkFree⟩
  ·exact hk
  ·show s2.heap.objs.size≤D+1
   lia
  ·intro x y c e1 e2
   exact I2.ok.inj x y c (cc.mem x c e1) (cc.mem y c e2)
  ·intro x hx
   exact z2y hcell hall x hx
  ·intro x c e
   cases e
  ·intro b hb
   refine⟨fun z=>?_,fun x c e z=>?_⟩
   ·exact absurd z (q0o (q0M (ixv b hb)))
   ·exact (f2 b hb).2.2.2.2.1 x c (cc.mem x c e) z
  ·exact q0m I2.ok.bsz I2.sz
  ·intro b o e hb
   have z:=(f2 b hb).2.2.2.1
   rcases z with z|z
   ·exact I2.ok.noex b o e z
   ·exact absurd (q0y (q0t (I2.ok.bs b o e).1) z) (q1e _)
  ·intro b hb z
   have e2:=q0n.mp (I2.stkSub b z)
   rcases e2 with e2|e2
   ·exact (f2 b hb).2.1 e2
   ·exact (f2 b hb).2.2.1 e2
 have IY:Inv Y [] (z0B fr σ) (upd H2 D (.lst [])) {s2 with heap:=h4,toks:=s2.toks+([]:List (Str×Value)).length}:=by
  refine⟨okY,rfl,I2.bare,⟨fun b o e n _ _=>kp b o e,fun b o e n _ _=>⟨o.slots,kp b o e⟩,fun b o e n _=>?_,fun b o e _=>⟨o,kp b o e⟩,fun b xs e=>?_,fun b o u e=>?_,fun b ps e=>⟨#[],?_⟩⟩,?_,fun x c e=>?_,?_,fun x c e=>?_,fun p hp=>?_,fun b u e=>?_,?_⟩
  ·rw[z0i (q0o (low b o e))];exact n
  ·rw[z0i (z0f e hn)];exact e
  ·rw[z0i (z0f e hn)];exact e
  ·rw[z0i (z0f e hn),show H2 b=_ from e];simp
  ·refine⟨_,ns4,fun j x v e1 e2 e3=>?_⟩
   have e2':(fr.map fun o=>o.bind fun k=>(σ[k]?).join)[j]? =some (some v):=e2
   rw[q0h] at e2'
   obtain⟨o,ho,hv⟩:=q0u.mp e2'
   cases o with
   |none=>cases hv
   |some k=>
    obtain⟨c1,c2,c3,c4⟩:=cn.at j x k e1 ho
    have hσ:σ[k]? =some (some v):=by
        have hv':(σ[k]?).join =some v:=hv
        cases z:σ[k]? with
        |none=>rw[z] at hv';cases hv'
        |some w'=>rw[z] at hv';exact congrArg some hv'
    obtain⟨m,hm,hlk⟩:=I2.loc
    obtain⟨u,r,lk⟩:=hlk k x v c1 hσ (.inr (.inl c2))
    refine⟨u,r,.inr ⟨.inl c4,?_⟩⟩
    rcases lk with⟨z,_⟩|⟨_,c,ec,oc,hoc,dc⟩
    ·rw[c2] at z;cases z
    ·obtain⟨c',ec'⟩:=q1x.mp c3
     have:=cc.mem x c' ec'
     rw[ec] at this;cases this
     exact⟨c,ec',oc,kp c oc hoc,dc⟩
  ·obtain⟨v,oc,hoc,dc⟩:=I2.cell x c (cc.mem x c e)
   exact⟨v,oc,kp c oc hoc,dc⟩
  ·show upd H2 D (.lst []) (D+1)=none
   rw[z0i (Ne.symm DC)];exact hnC
  ·obtain⟨v,oc,hoc,dc⟩:=I2.cell x c (cc.mem x c e)
   rw[z0i (q0o (low c oc hoc))]
   exact I2.freeC x c (cc.mem x c e)
  ·simp[Y,z2d] at hp
  ·by_cases hb:b=D
   ·subst hb
    rw[z0b] at e;cases e
    exact⟨q0N _,[],_,.nil,hD4⟩
   ·rw[z0i hb] at e
    exact (I2.hok b u e).stay (fun c v _ q=>kp c v q) (fun c q=>by rw[z0i (z0f q hn)];exact q) fun c xs q=>by rw[z0i (z0f q hn)];exact q
  ·show (fr.map _).length =Nc.length
   rw[q0a];exact cn.length
 have fY:∀{H':Hp},(∀b∈fp,H' b=none)→∀b∈fp,y0u Y [] H' b:=fun {H'} hn' b hb=>by
  refine⟨hn' b hb,fun z=>?_,fun z=>?_,.inl hb,fun x c e z=>?_,fun p hp=>?_⟩
  ·exact absurd z (q0o (q0M (ixv b hb)))
  ·exact okY.exfs b hb z
  ·exact (f2 b hb).2.2.2.2.1 x c (cc.mem x c e) z
  ·simp[Y,z2d] at hp
 have st4:tn 0 h4:=T.keep _ _ _ st2 fun b hb o e=>kp b o e
 have fr4:∀b∈fp,upd H2 D (.lst []) b=none:=fun b hb=>by
  rw[z0i (q0o (ixv b hb))]
  exact (f2 b hb).1
 have loop:∀s3:Shared,s3={s2 with heap:=h4,toks:=s2.toks+([]:List (Str×Value)).length}→
  codeAny (model X.prog X.w) X.A (.compLoop (.ListComp elt [⟨tg,iter,ifs,0⟩] scope pos) 0 (.ref it) (.ref D) (compEnvC scope cl (D+1) X.env)) (compPost (model X.prog X.w) X.A X.xe (some (assign (.Name y py) X.env)) (fun _ s'=>SP X pins Ds .next s') (.ref D) (D+1)) s3:=by
  rintro s3 rfl
  refine codeAny_loop rfl (fun n s'=>∃i σ' H',Inv Y [] σ' H' s'∧tn i s'.heap∧(∀b∈fp,H' b=none)∧W i n σ' H') (fun n s5 hI=>?_) m0 ⟨0,_,_,IY,st4,fr4,w0⟩
  obtain⟨i,σ5,H5,I5,st5,fr5,w5⟩:=hI
  show wpAny _ X.A ((compTurn (.ListComp elt [⟨tg,iter,ifs,0⟩] scope pos) 0 (.ref it) (.ref D) (compEnvC scope cl (D+1) X.env)).onRaise (fun x=>do noteFrame x (compEnvC scope cl (D+1) X.env);theTreesLotGoes x)) _ _ s5
  refine wpAny_noted ?_
  rw[compTurn_list]
  refine wpAny_bind (wpAny_standAt (wpAny_bind ?_))
  rcases turn i n σ5 H5 w5 with⟨stop,qn⟩|⟨go,step⟩
  ·refine wpAny_mono (T.done Y rfl rfl rfl rfl i [] s5 σ5 H5 (fun _ _=>False) I5 (fY fr5) st5 stop) (fun r s6 ⟨hr,I6⟩=>?_) fun _ _ z=>z.elim
   subst hr
   refine wpAny_pure ?_
   obtain⟨m6,hm6,_⟩:=id I6.loc
   have sb7:Heap.SameBut (D+1) s6.heap s6.heap:=Heap.SameBut.refl ..
   have un:Un (frs X.stack) fp H2 H5 s2.heap s6.heap:=by
        have b6:=I6.base
        have nc:∀b o,s2.heap.get? b=some o→b≠D+1:=fun b o e=>q0o (q0M (low b o e))
        refine⟨fun b o e n1 n2 n3=>(sb7.2 b (nc b o e)).trans (b6.keep b o e n1 n2 n3),fun b o e n1 n2 n3=>?_,b6.free,fun b o e n3=>?_,b6.tups,b6.frzs,b6.tbls⟩
        ·obtain⟨sl,z⟩:=b6.slot b o e n1 n2 n3
         exact⟨sl,(sb7.2 b (nc b o e)).trans z⟩
        ·obtain⟨o',z⟩:=b6.there b o e n3
         exact⟨o',(sb7.2 b (nc b o e)).trans z⟩
   have hok7:HOk X.prog X.w H5 s6.heap:=fun b u e=>by
        refine (I6.hok b u e).stay (fun c v hc' q=>(sb7.2 c fun z=>?_).trans q) (fun _ q=>q) fun _ _ q=>q
        have fC:H5 (D+1)=none:=I6.free
        subst z
        rcases hc' with z|z
        ·rw[←z,fC] at e;cases e
        ·rw[fC] at z;cases z
   have IX:=I2.call' (s':={s6 with heap:=s6.heap}) (ch:=fp) I6.os un hok7 I6.bare fun b hb=>⟨(f2 b hb).2.2.2.1,(f2 b hb).2.1,(f2 b hb).2.2.2.2.1,(f2 b hb).2.2.2.2.2⟩
   have lx:X.env.locals<D:=by
        obtain⟨m,⟨o,_,_,ho,_⟩,_⟩:=I2.loc
        exact low _ o ho
   refine wpAny_assign_Name (z3T IX hN hj hx (show RelV (.ref D) (.ref D) from rfl) (fun s7 I7 ⟨a7,sa7,ha7⟩=>?_) hf)
   have al:a7<D:=by
        rcases ha7 with z|z
        ·rw[z];exact lx
        ·obtain⟨v,o,ho,_⟩:=I2.cell y a7 z
         exact low _ o ho
   refine⟨m6,hm6.sameBut sa7 (Ne.symm (q0o (q0M al))),fun h8 sb8=>?_⟩
   have I8:Inv X pins (σ.set jj (some (.ref D))) H5 {s7 with heap:=h8}:=I7.turned (t':=s7.toks) (it:=D+1) (fun b o hb e=>(sb8.2 b hb).trans e) I6.free (Ne.symm (q0o (q0M lx))) (.inr (by
    have:=I2.sz
    rw[hD] at this
    exact q1U this)) (fun x c e z=>by
    obtain⟨v,o,ho,_⟩:=I2.cell x c e
    have:=low _ o ho
    rw[z] at this
    exact absurd this (Nat.not_lt.mpr (q1t _))) (fun p hp z=>by
    have:=low _ _ (I2.pin p hp).1
    rw[z] at this
    exact absurd this (Nat.not_lt.mpr (q1t _)))
   exact⟨_,H5,I8,qn⟩
  ·refine wpAny_mono (T.item Y rfl rfl rfl rfl i [] s5 σ5 H5 (fun _ _=>False) I5 (fY fr5) st5 go) (fun r s6 ⟨u,hr,h6⟩=>?_) fun _ _ z=>z.elim
   subst hr
   refine wpAny_bind (wpAny_mono h6 (fun _ s7 ⟨x,H7,I7,r7,y7,st7,fr7⟩=>?_) fun _ _ z=>z.elim)
   have I7':=I7.pinned (fY fr7) (T.obj _ _ st7)
   refine wpAny_bind (wpAny_mono (hg _ _ _ _ _ s7 σ5 H7 x u _ I7' r7 (step x H7 y7)) (fun _ s8 ⟨σ8,H8,I8,q8⟩=>?_) fun _ _ z=>z.elim)
   have again:∀{σ':St}{H':Hp}{s':Shared}{k:Nat},Inv Y ([]++z3z fp s7.heap) σ' H' s'→W (i+1) k σ' H'→∃i' σ'' H'',Inv Y [] σ'' H'' s'∧tn i' s'.heap∧(∀b∈fp,H'' b=none)∧W i' k σ'' H'':=fun {σ' H' s' k} I' w'=>by
        refine⟨i+1,σ',H',I'.unpinned,T.keep _ _ _ st7 fun b hb o e=>(I'.pin (b,o) (q0C _ (q0C _ (z0S hb e)))).1,fun b hb=>?_,w'⟩
        obtain⟨o,e,d⟩:=T.obj _ _ st7 b hb
        exact (I'.pin (b,o) (q0C _ (q0C _ (z0S hb e)))).2.1
   refine wpAny_bind (wpAny_mono (ht _ _ _ _ _ s8 σ8 H8 _ I8 q8) (fun ok s9 ⟨H9,I9,q9⟩=>?_) fun _ _ z=>z.elim)
   cases ok with
   |false=>
    obtain⟨m',hm',w'⟩:=q9
    exact wpAny_pure ⟨rfl,m',hm',again I9 w'⟩
   |true=>
    refine wpAny_bind (wpAny_bind (wpAny_mono (he _ _ _ _ _ s9 σ8 H9 _ I9 q9) (fun ev s10 ⟨v,H10,I10,r10,acc,m',hacc,hlen,hm',w'⟩=>?_) fun _ _ z=>z.elim))
    refine wpAny_bind (wpAny_mono (z1n (X:=Y) _ s10 σ8 H10 (.ref D) [v] (.ref D) [ev] (fun r H'=>r= .non ∧H'=upd H10 D (.lst (acc++[v]))) I10 rfl (.cons r10 .nil) ⟨D,acc,v,rfl,rfl,hacc,hlen,rfl,rfl⟩) (fun _ s11 ⟨_,H11,I11,_,_,e11⟩=>?_) fun _ _ z=>z.elim)
    subst e11
    exact wpAny_pure (wpAny_pure ⟨rfl,m',hm',again I11 w'⟩)
 exact codeAny_compStart_list (loop _ rfl) (T.self _ _ _ _ _ st4 (loop _ rfl))
end
end L2
namespace L2
open PySem PySem.Spec PySem.W PyProof.Rows
section
variable {X:Cx}{K:Frag}
def y5B:V→List V→Hp→VK→Prop:=fun x vs H Q=>∃(l:Addr) (xs:List V) (y:V) (k:Int),x= .ref l∧vs=[.int k,y]∧H l=some (.lst xs)∧0≤k∧k≤xs.length∧xs.length<sizeLine∧Q .non (upd H l (.lst (xs.take k.toNat++y::xs.drop k.toNat)))
theorem y2k (l:Addr) (its:Array Value) (n:Nat) (k:Int) (t:Tok) (u:Value) (hfit:¬(!Builtin.List.listFitsIndex k)=true) (hsz:its.size≤sizeLine):
 Meets (Builtin.«list.insert» ⟨[.ref l,.int k t,u],[]⟩) (fun _ R s=>s.heap.get? l=some {cls:= .type "list",dict:=none,data:= .seq its n,slots:= #[]}∧R (.ok (.ret Value.none)) {s with heap:=s.heap.update l (Obj.mapSeq fun xs=>(xs.extract 0 (if k<0 then (k+(xs.size:Int)).toNat else min k.toNat xs.size)).push u++xs.extract (if k<0 then (k+(xs.size:Int)).toNat else min k.toNat xs.size)),toks:=s.toks}):=
 AutoListH.list_insert_list_int_val_1 l its n k t u hfit hsz
theorem y1R:MtM X "list.insert" y5B:=by
 intro pins s σ H x vs v us Q I rx rv h
 obtain⟨l,xs,y,k,rfl,rfl,hH,k0,hk,hz,q⟩:=h
 cases rx
 obtain⟨u1,u,rfl,r1,ru⟩:=y3m rv
 obtain⟨t,rfl⟩:=r1
 obtain⟨z,its,n,r,hl,e⟩:=I.lstM hH
 have hs:sizeLine=16777216:=sizeLine_eq
 have hfit:¬(!Builtin.List.listFitsIndex k)=true:=by
  rw[fitsIndex_both (show -(2^63)≤k by lia) (show k<2^63 by lia)]
  exact q0F
 have hsz:its.toArray.size≤sizeLine:=by rw[q0e];lia
 refine call_meets F.slot_list_insert ⟨_,e,rfl⟩ F.entry_list_insert (F.args_list_insert_3 _ _ _) (y2k l its.toArray n k t u hfit hsz) ⟨e,?_⟩
 have ek:(if k<0 then (k+(its.toArray.size:Int)).toNat else min k.toNat its.toArray.size)=k.toNat:=by
  rw[if_neg (by lia),q0e];lia
 refine⟨.non,_,I.lset (t':=s.toks) (f:=fun xs=>(xs.extract 0 (if k<0 then (k+(xs.size:Int)).toNat else min k.toNat xs.size)).push u++xs.extract (if k<0 then (k+(xs.size:Int)).toNat else min k.toNat xs.size)) (its':=its.take k.toNat++u::its.drop k.toNat) hH e ?_ ((r.take k.toNat).append (.cons ru (r.drop k.toNat))) ?_,rfl,q⟩
 ·rw[ek]
  apply Array.toList_inj.mp
  simp
  exact List.take_of_length_le (by rw[List.length_drop];lia)
 ·rw[q0k,q0J,q0w,List.length_drop];lia
end
end L2
namespace L2
open PySem PySem.Spec PySem.W PyProof.Rows
section
variable {X:Cx}{K:Frag}
def rCatA (K:Frag):R2:=fun x y H Q=>∃(a b:Addr) (xs ys:List V),x= .ref a∧y= .ref b∧SqT K H a xs∧H b=some (.tup ys)∧ys≠[]∧xs.length+ys.length≤sizeLine∧∀p H',Same H H'→H' p=some (.tup (xs++ys))→Q (.ref p) H'
theorem y3Q (h:X.K=K):OpR X (binaryOp .Add) (rCatA K):=by
 subst h
 intro pins s σ H x y v u Q I rx ry h
 obtain⟨a,b,xs,ys,rfl,rfl,ha,hb,hy,hz,q⟩:=h
 by_cases hx:xs=[]
 ·subst hx
  cases rx
  cases ry
  obtain⟨its,r1,p1,_⟩:=I.tuple ha
  obtain⟨its2,r2,p2,_⟩:=I.tuple (SqT.of hb)
  have e1:its=[]:=r1.nil_iff.mpr rfl
  obtain⟨⟨cls,dd,data,sl⟩,ho,hc,n,hd⟩:=id p1
  obtain⟨⟨cls2,dd2,data2,sl2⟩,ho2,hc2,n2,hd2⟩:=id p2
  simp only at hc hd hc2 hd2
  subst hc hd hc2 hd2
  exact concat_meets ⟨_,ho,rfl⟩ ⟨_,ho2,rfl⟩ noFill_tuple_add seq_tuple_add PySem.F.slot_tuple_add PySem.F.entry_tuple_add (PySem.F.args_tuple_add_2 _ _)
   (tuple_addW0 a b its.toArray its2.toArray n n2 dd dd2 sl sl2 (by simp[e1])) ⟨ho,ho2,⟨.ref b,H,I,rfl,q b H (Same.refl _) hb⟩⟩
 ·exact y5R pins s σ H _ _ v u Q I rx ry ⟨a,b,xs,ys,rfl,rfl,ha,SqT.of hb,hx,hz,fun z=>absurd z hy,fun _ p hp=>q p _ (z0e hp _) z0b⟩
end
end L2
namespace L2
open PySem PySem.Spec PyProof.Rows
theorem z9k {prog:Program}{w:World}{A:Around} (hh:A.handled=none) (b:Bool) (it a:Addr) (hne:a≠it) (its:Array Value):
 Draws prog w A it [it,a] its.size (fun i v=>its[i]? =some v) (fun i h=>SIt b h it a i∧SAt b h a its) where
 live:=fun _ _ st=>let ⟨o,_,ho,_⟩:=st.1.ob;⟨o,ho⟩
 frame:=fun _ _ _ st hk=>⟨st.1.keep fun o e=>hk it (by simp) o e,st.2.keep fun o e=>hk a (by simp) o e⟩
 item:=fun i s Q E hi st hQ=>by
  refine z2V st.1 st.2 (x:=its[i]) (by simp[hi]) fun h' hit' hs'=>?_
  exact hQ _ h' s.toks (by simp[hi]) ⟨hit',st.2.keep fun o e=>hs'.extBut _ o hne e⟩ hs'
 done:=fun s Q E st hE=>z5V hh st.1 st.2 (by simp) hE
abbrev eA (h:Heap) (b:Bool) (a:Addr):Heap:=h.push (itO b a)
abbrev eB (h:Heap) (b:Bool) (a:Addr):Heap:=(eA h b a).push {cls:= .type "enumerate",data:= .fields #[.none,.bool false,.ref h.objs.size,rawInt 0,.none,.none]}
theorem z9Z (b:Bool) (l:Addr) (xs:Array Value):
 Meets (Builtin.«enumerate.__new__» ⟨[.type "enumerate",.ref l],[]⟩) (fun _ R s=>SAt b s.heap l xs∧R (.ok (.ret (.ref (eA s.heap b l).objs.size))) {s with heap:=eB s.heap b l}):=
 .of_wp fun prog w A R s h=>by
  obtain⟨hp,g,d,tk,os⟩:=s;obtain⟨h1,h⟩:=h
  have hsub:=sub_enumerate
  have k1:SAt b (Shared.heap ⟨hp,g,d,tk,os⟩) l xs:=h1
  wp_walk
  refine wpAny_stack_any fun st=>wpAny_pure ?_
  split
  ·rename_i c _ _ _ _ _
   cases (c==Value.type "enumerate")
   ·wp_walk using z4y k1
    exact⟨_,rfl,h⟩
   ·wp_walk using z4y k1
    exact⟨_,rfl,h⟩
  ·wp_walk using z4y k1
   exact⟨_,rfl,h⟩
section
variable {prog:Program}{w:World}{A:Around}{E:Value→Shared→Prop}{s:Shared}
theorem y0n {b:Bool}{l:Addr}{xs:Array Value}{Q:Value→Shared→Prop} (hl:SAt b s.heap l xs)
 (h:∀h',IsEnum h' (s.heap.objs.size+1) s.heap.objs.size 0 .none →SIt b h' s.heap.objs.size l 0→(∀p o,s.heap.get? p=some o→h'.get? p=some o)→Q (.ref (s.heap.objs.size+1)) {s with heap:=h'}):
 wpAny (model prog w) A (call (.type "enumerate") [.ref l]) Q E s:=by
 refine callType_new F.called_enumerate (by decide) (F.typeCall_enumerate_1 _) (F.newCall_enumerate_1 _) (fun obj=>F.args_object_init_2 obj _) F.entry_enumerate_new (z9Z b l xs) ⟨hl,?_⟩
 have z1:(eA s.heap b l).objs.size =s.heap.objs.size+1:=q1l ..
 have g2:(eB s.heap b l).get? (eA s.heap b l).objs.size =some _:=q0s _ rfl
 have g1:SIt b (eB s.heap b l) s.heap.objs.size l 0:=SIt.new.keep fun o e=>q0d _ e
 show _∧_
 rw[z1] at g2
 rw[z1]
 exact⟨⟨_,g2,rfl⟩,h _ g2 g1 fun p o e=>q0d _ (q0d _ e)⟩
end
def Iteb (K:PySem.W.Frag) (b:Bool) (a:Addr):It:=
 ⟨fun i H=>∃xs x,SqB b K H a xs∧xs[i]? =some x,
  fun i H x H'=>∃p v,x= .ref p∧H p=none∧(∀xs,SqB b K H a xs→xs[i]? =some v)∧H'=upd H p (.tup [.int i,v]),
  fun i H=>∃xs,SqB b K H a xs∧xs.length=i⟩
theorem z9A {P:Program}{w:World}{K:PySem.W.Frag}{elts:List Expr}{k:Nat}{pos:Pos} (b:Bool) (a e it:Addr) (hne:e≠it):
 y5k P w K (.Tuple elts k pos) (Iteb K b a) [e,it] e (fun i h=>(∃old,IsEnum h e it ((i:Nat):Int) old)∧SIt b h it a i) where
 mem:=by simp
 obj:=fun i h st c hb=>by
  obtain⟨⟨old,st1⟩,st2⟩:=st
  rcases q0n.mp hb with rfl|hb
  ·exact⟨_,st1,fun v z=>by
        have z':Data.fields _=Data.cell v:=z
        cases z'⟩
  ·have e':=q0g.mp hb
   subst e'
   obtain⟨o,_,q,_,_,d⟩:=st2.ob
   exact⟨o,q,fun v z=>by rw[d] at z;cases z⟩
 keep:=fun i h h' st k=>⟨let ⟨old,q⟩:=st.1;⟨old,k e (by simp) _ q⟩,st.2.keep fun o q=>k it (by simp) o q⟩
 item:=by
  intro X hP hw hK hc i pins s σ H E I hf st hg
  subst hP hw hK
  obtain⟨xs,x,hq,hx⟩:=hg
  obtain⟨its,rv,p,hz⟩:=I.sq hq
  obtain⟨u,hu,ru⟩:=rv.get hx
  obtain⟨⟨old,st1⟩,st2⟩:=st
  have he:=hf e (by simp)
  have hi:=hf it (by simp)
  have hlt:e<s.heap.objs.size:=q0t st1
  have hlt2:it<s.heap.objs.size:=by obtain⟨o,_,q,_⟩:=st2.ob;exact q0t q
  have ane:a≠it:=I.sq_ne hq hi
  have aee:a≠e:=I.sq_ne hq he
  have hlt3:i<its.toArray.size:=by
   rw[q0e]
   exact (q0H.mp hu).1
  refine wpAny_pyNext_enum_itemD (z9k (prog:=X.prog) (w:=X.w) (A:=X.A.in1) (I.ok.hd hc) b it a ane its.toArray) st1 ⟨st2,p⟩ hlt3 hne (by simp[hne,Ne.symm aee]) fun x2 h' tk hP ho' st' hT hsz kk=>?_
  have ex:x2=u:=by
   have:its[i]? =some x2:=by simpa using hP
   rw[hu] at this
   exact (Option.some.inj this).symm
  subst ex
  refine⟨_,rfl,wpAny_letOwnedTupleGo_enum ho' fun h2 he2 hs2=>?_⟩
  have hT2:h2.get? s.heap.objs.size=some {cls:= .type "tuple",data:= .seq #[.int i tk,x2]}:=hs2.extBut _ _ (Nat.ne_of_gt hlt) hT
  have I1:Inv X pins σ (upd H s.heap.objs.size (.tup [.int i,x])) {s with heap:=h2,toks:=tk+1}:=by
   refine I.turnedLaid (fp:=[e,it]) hf (fun c ob hb q=>?_) (q0i _) ?_
   ·have hb1:c≠e:=fun z=>hb (by simp[z])
    have hb2:c≠it:=fun z=>hb (by simp[z])
    exact hs2.extBut c ob hb1 (kk c ob hb1 hb2 q)
   ·exact⟨by show 2≤sizeLine;decide,[.int i tk,x2],.cons ⟨_,rfl⟩ (.cons ru .nil),_,hT2,rfl,_,rfl⟩
  refine⟨.ref s.heap.objs.size,_,I1,rfl,⟨_,x,rfl,I.hok.fresh (q0i _),fun ys hy=>by rw[I.sq_inj hy hq];exact hx,rfl⟩,⟨⟨_,by simpa using he2⟩,?_⟩,fun c hb=>?_⟩
  ·exact st'.1.keep fun o q=>hs2.extBut it o (Ne.symm hne) q
  ·rcases q0n.mp hb with rfl|hb
   ·rw[z0i (q0o hlt)];exact he.1
   ·have e':=q0g.mp hb
    subst e'
    rw[z0i (q0o hlt2)];exact hi.1
 done:=by
  intro X hP hw hK hc i pins s σ H E I hf st hg
  subst hP hw hK
  obtain⟨xs,hq,hx⟩:=hg
  obtain⟨its,rv,p,hz⟩:=I.sq hq
  obtain⟨⟨old,st1⟩,st2⟩:=st
  have hl:=rv.length
  have ane:a≠it:=I.sq_ne hq (hf it (by simp))
  have en:i=its.toArray.size:=by rw[q0e];lia
  subst en
  refine wpAny_pyNext_enum_endD (z9k (prog:=X.prog) (w:=X.w) (A:=X.A.in1) (I.ok.hd hc) b it a ane its.toArray) st1 ⟨st2,p⟩ fun h' eb=>⟨rfl,?_⟩
  exact I.turnedAll (t':=s.toks) (fp:=[e,it]) hf fun c ob hb q=>eb c ob (fun z=>hb (by simp[z])) q
 self:=fun _ _ _ _ _ st h=>let ⟨_,q⟩:=st.1;wpAny_pyIter_enum q h
section
variable {X:Cx}{K:PySem.W.Frag}
def y7I (K:PySem.W.Frag) (tl:TA):TI:=fun σ H R=>tl σ H fun vs H1=>∃a b xs,vs=[.ref a]∧SqB b K H1 a xs∧R (Iteb K b a) H1
theorem z8I (h:X.K=K) {elts:List Expr}{k:Nat}{tpos:Pos}{l:Expr}{tl:TA}{p pos:Pos} (hg:Gl X "enumerate") (hm:X.mg "enumerate"=none) (ha:PA X [l] tl) (hs:starEach [l] X.env=[(false,eval l X.env)]:=by rfl):
 PI X (.Tuple elts k tpos) (.Call (.Name "enumerate" p) [l] [] pos) (y7I K tl):=by
 subst h
 intro pins s σ H R I h
 refine Call_ (z2X I hg hm boot_enumerate (PyProof.Rows.callWith_type1 (thn (ha pos pins s σ H _ I h) fun us s1 ⟨vs,H1,I1,r1,q1⟩=>?_) hs rfl))
 obtain⟨a,b,xs,e,hq,q⟩:=q1
 subst e
 cases r1 with
 |cons r rr=>
  cases rr
  cases r
  obtain⟨its,rv,p1,_⟩:=I1.sq hq
  refine y0n p1 fun h' he hit kk=>wpAny_pyIter_enum he ?_
  have I2:Inv X pins σ H1 {s1 with heap:=h'}:=I1.kept (t':=s1.toks) kk
  refine⟨_,[s1.heap.objs.size+1,s1.heap.objs.size],_,_,H1,rfl,I2,z9A b a _ _ (Nat.succ_ne_self _),⟨⟨_,he⟩,hit⟩,fun c hb=>?_,q⟩
  have fr:∀c,s1.heap.objs.size≤c→H1 c=none:=fun c hc=>I1.hok.fresh hc
  rcases q0n.mp hb with rfl|hb
  ·exact I1.fpOk (q1t _) (fr _ (q1t _))
  ·have e':=q0g.mp hb
   subst e'
   exact I1.fpOk (q0i _) (fr _ (q0i _))
theorem z9G (K:PySem.W.Frag) (b:Bool) (a:Addr) (xs:List V):z6l (Iteb K b a) xs.length (fun H=>SqB b K H a xs) (fun i H x H'=>∃p v,x= .ref p∧H p=none∧xs[i]? =some v∧H'=upd H p (.tup [.int i,v])) where
 go:=fun i H h hi=>⟨xs,xs[i],h,by simp[hi]⟩
 stop:=fun H h=>⟨xs,h,rfl⟩
 yld:=fun i H x H' h hi y=>let ⟨p,v,e,hn,hv,e2⟩:=y;⟨p,v,e,hn,hv xs h,e2⟩
end
end L2
namespace L2
open PySem PySem.Spec PyProof.Rows
theorem y5v {α:Type} (L:List α) (a b c d:α):((((L.set 0 a).set 1 b).set 0 c).set 1 d)=(L.set 0 c).set 1 d:=by
 match L with
 |[]=>rfl
 |[_]=>rfl
 |_::_::_=>rfl
theorem z3a {J:It}{n:Nat}{Ok:Hp→Prop}{ps:List (V×V)} (hx:n=ps.length) (R:z6l J n Ok (fun i H x H'=>∃p u v,x= .ref p∧H p=none∧ps[i]? =some (u,v)∧H'=upd H p (.tup [u,v]))) {fr:List (Option Nat)}{g:TG}{tt:TT}{te:TE}{σ:St}{H1:Hp}{Q:VK}{D:Addr} (hD:H1 D=none) (tst:V×V→Bool) (val:V×V→V)
 (hg:∀p u v σ H,H p=some (.tup [u,v])→∀S:St→Hp→Prop,S ((σ.set 0 (some u)).set 1 (some v)) H→g (.ref p) σ H S)
 (hok:∀H,Same H1 H→Ok H) (hn:n≤sizeLine)
 (ht:∀c∈ps,∀Hc,Same H1 Hc→∀S:Bool→Hp→Prop,S (tst c) Hc→tt (((z0B fr σ).set 0 (some c.1)).set 1 (some c.2)) Hc S)
 (hv:∀c∈ps,tst c=true→∀Hc,Same H1 Hc→∀S:VK,S (val c) Hc→te (((z0B fr σ).set 0 (some c.1)).set 1 (some c.2)) Hc S)
 (q:∀H',Same H1 H'→H' D=some (.lst ((ps.filter tst).map val))→Q (.ref D) H'):
 z3f J g tt te Q D (z0B fr σ) (upd H1 D (.lst [])):=by
 subst hx
 refine z4E R (fun i acc σ' H'=>((∃o1 o2,σ'=((z0B fr σ).set 0 o1).set 1 o2)∨σ'=z0B fr σ)∧Same H1 H'∧H' D=some (.lst acc)∧acc=((ps.take i).filter tst).map val) ⟨.inr rfl,z0e hD _,z0b,by simp⟩ ?_ hn ?_ ?_
 ·rintro i acc σ' H' hi ⟨_,hs,_,rfl⟩
  refine⟨hok _ hs,?_⟩
  rw[q0a]
  refine q0m (q1o _ _) ?_
  rw[q0w];lia
 ·rintro N i x acc σ' H' H'' hi ⟨hσ,hs,hd,ha⟩ ⟨p,u,v,rfl,hp,hc,rfl⟩ n1 n2
  have g2:=z0e hp (.tup [u,v])
  have hs2:=hs.trans g2
  have hd2:=g2 _ _ hd
  have e2:upd H' p (.tup [u,v]) p=some (.tup [u,v]):=z0b
  generalize upd H' p (.tup [u,v])=H2 at*
  have hm:(u,v)∈ps:=q0A hc
  have tk:ps.take (i+1)=ps.take i++[(u,v)]:=by rw[q0R,hc];rfl
  have eσ:(σ'.set 0 (some u)).set 1 (some v)=((z0B fr σ).set 0 (some u)).set 1 (some v):=by
   rcases hσ with⟨o1,o2,rfl⟩|rfl
   ·exact y5v _ _ _ _ _
   ·rfl
  refine hg p u v σ' H2 e2 _ ?_
  rw[eσ]
  refine ht (u,v) hm H2 hs2 _ ?_
  cases hb:tst (u,v) with
  |true=>
   refine z5h ?_
   refine hv (u,v) hm hb H2 hs2 _ ?_
   refine n1 _ _ _ hd2 ⟨.inl ⟨_,_,rfl⟩,fun b o e=>?_,z0b,?_⟩
   ·rw[z0i (z0f e hD)];exact hs2 _ _ e
   ·rw[tk,ha,q1f,q0r,q0O hb];rfl
  |false=>
   refine z5i ?_
   refine n2 _ _ ⟨.inl ⟨_,_,rfl⟩,hs2,hd2,?_⟩
   rw[tk,ha,q1f,q0r,q0V (by simp[hb])];simp
 ·rintro acc σ' H' ⟨_,hs,hd,ha⟩
  rw[q0T] at ha
  exact q H' hs (by rw[hd,ha])
def z4Q (xs:List V):List (V×V):=xs.mapIdx fun i x=>(.int (i:Nat),x)
theorem z5a (K:PySem.W.Frag) (b:Bool) (a:Addr) (xs:List V):z6l (Iteb K b a) (z4Q xs).length (fun H=>SqB b K H a xs) (fun i H x H'=>∃p u v,x= .ref p∧H p=none∧(z4Q xs)[i]? =some (u,v)∧H'=upd H p (.tup [u,v])):=by
 have r:=z9G K b a xs
 have el:(z4Q xs).length =xs.length:=List.length_mapIdx
 rw[el]
 exact⟨r.go,r.stop,fun i H x H' h hi y=>by
  obtain⟨p,v,e,hn,hv,e2⟩:=r.yld i H x H' h hi y
  exact⟨p,_,v,e,hn,by unfold z4Q;rw[List.getElem?_mapIdx,hv];rfl,e2⟩⟩
theorem z4k (K:PySem.W.Frag) (b c:Bool) (l m:Addr) (xs ys:List V):z6l (Itz K b c l m) (xs.zip ys).length (fun H=>SqB b K H l xs∧SqB c K H m ys) (fun i H x H'=>∃p u v,x= .ref p∧H p=none∧(xs.zip ys)[i]? =some (u,v)∧H'=upd H p (.tup [u,v])):=by
 have r:=y3A K b c l m xs ys
 have el:(xs.zip ys).length =min xs.length ys.length:=q1h
 rw[el]
 exact⟨r.go,r.stop,fun i H x H' h hi y=>by
  obtain⟨p,u,v,e,hn,hu,hv,e2⟩:=r.yld i H x H' h hi y
  exact⟨p,u,v,e,hn,by rw[q0Z];exact⟨hu,hv⟩,e2⟩⟩
end L2
namespace L2
open PySem PySem.Spec PyProof.Rows
inductive Each {α β:Type} (R:α→β→Prop):List α→List β→Prop
 |nil:Each R [] []
 |cons {a:α}{b:β}{as:List α}{bs:List β}:R a b→Each R as bs→Each R (a::as) (b::bs)
theorem Each.snoc {α β:Type}{R:α→β→Prop}{as:List α}{bs:List β}{a:α}{b:β} (h:Each R as bs) (e:R a b):Each R (as++[a]) (bs++[b]):=by
 induction h with
 |nil=>exact .cons e .nil
 |cons h1 _ ih=>exact .cons h1 ih
theorem Each.imp {α β:Type}{R S:α→β→Prop}{as:List α}{bs:List β} (f:∀a b,R a b→S a b) (h:Each R as bs):Each S as bs:=by
 induction h with
 |nil=>exact .nil
 |cons h1 _ ih=>exact .cons (f _ _ h1) ih
theorem Each.length {α β:Type}{R:α→β→Prop}{as:List α}{bs:List β} (h:Each R as bs):as.length=bs.length:=by
 induction h with
 |nil=>rfl
 |cons _ _ ih=>rw[List.length_cons,List.length_cons,ih]
theorem Each.get {α β:Type}{R:α→β→Prop}{as:List α}{bs:List β} (h:Each R as bs):∀{i:Nat}{a:α}{b:β},as[i]? =some a→bs[i]? =some b→R a b:=by
 induction h with
 |nil=>intro i a b e;simp at e
 |cons h1 _ ih=>
  intro i a b e1 e2
  cases i with
  |zero=>cases e1;cases e2;exact h1
  |succ i=>exact ih (by simpa using e1) (by simpa using e2)
theorem z3t {J:It}{n:Nat}{Ok:Hp→Prop}{xs:List V} (hx:n=xs.length) (R:z6l J n Ok (fun i H x H'=>H'=H∧xs[i]? =some x)) {fr:List (Option Nat)}{tt:TT}{te:TE}{σ:St}{H1:Hp}{Q:VK}{D:Addr} (hD:H1 D=none) (tst:V→Bool) (Rel:Hp→V→V→Prop)
 (hrel:∀H H' x u,(∀b o,b≠D→H b=some o→H' b=some o)→(∃acc,H D=some (.lst acc))→Rel H x u→Rel H' x u)
 (hok:∀H,Same H1 H→Ok H) (hn:n≤sizeLine)
 (ht:∀x∈xs,∀Hc,Same H1 Hc→∀S:Bool→Hp→Prop,(∀H',Same Hc H'→S (tst x) H')→tt ((z0B fr σ).set 0 (some x)) Hc S)
 (hv:∀x∈xs,tst x=true→∀Hc,Same H1 Hc→(∃acc,Hc D=some (.lst acc))→∀S:VK,(∀u H',Same Hc H'→Rel H' x u→S u H')→te ((z0B fr σ).set 0 (some x)) Hc S)
 (q:∀us H',Same H1 H'→H' D=some (.lst us)→Each (Rel H') (xs.filter tst) us→Q (.ref D) H'):
 z3f J (z6X 0) tt te Q D (z0B fr σ) (upd H1 D (.lst [])):=by
 subst hx
 refine z4E R (fun i acc σ' H'=>(∃o,σ'=(z0B fr σ).set 0 o∨σ'=z0B fr σ)∧Same H1 H'∧H' D=some (.lst acc)∧Each (Rel H') ((xs.take i).filter tst) acc) ⟨⟨none,.inr rfl⟩,z0e hD _,z0b,.nil⟩ ?_ hn ?_ ?_
 ·rintro i acc σ' H' hi ⟨_,hs,_,he⟩
  refine⟨hok _ hs,?_⟩
  rw[←he.length]
  refine q0m (q1o _ _) ?_
  rw[q0w];lia
 ·rintro N i x acc σ' H' H'' hi ⟨hσ,hs,hd,he⟩ ⟨rfl,hx⟩ n1 n2
  have hm:x∈xs:=q0A hx
  have es:σ'.set 0 (some x)=(z0B fr σ).set 0 (some x):=by
   obtain⟨o,e|e⟩:=hσ
   ·rw[e,q1Z]
   ·rw[e]
  show tt (σ'.set 0 (some x)) _ _
  rw[es]
  have tk:xs.take (i+1)=xs.take i++[x]:=by rw[q0R,hx];rfl
  refine ht x hm _ hs _ fun H3 g3=>?_
  have hs3:=hs.trans g3
  have hd3:=g3 _ _ hd
  have he3:Each (Rel H3) ((xs.take i).filter tst) acc:=he.imp fun a b h=>hrel _ _ _ _ (fun c o _ e=>g3 _ _ e) ⟨_,hd⟩ h
  cases hb:tst x with
  |true=>
   refine z5h ?_
   refine hv x hm hb _ hs3 ⟨_,hd3⟩ _ fun u H4 g4 hr=>?_
   have hd4:=g4 _ _ hd3
   refine n1 _ _ _ hd4 ⟨⟨_,.inl rfl⟩,fun c o e=>?_,z0b,?_⟩
   ·rw[z0i (z0f e hD)];exact g4 _ _ (hs3 _ _ e)
   ·have up:∀a b,Rel H4 a b→Rel (upd H4 D (.lst (acc++[u]))) a b:=fun a b h=>hrel _ _ _ _ (fun c o hc e=>by rw[z0i hc];exact e) ⟨_,hd4⟩ h
    rw[tk,q1f,q0O hb]
    exact ((he3.imp fun a b h=>up a b (hrel _ _ _ _ (fun c o _ e=>g4 _ _ e) ⟨_,hd3⟩ h)).snoc (up _ _ hr))
  |false=>
   refine z5i ?_
   refine n2 _ _ ⟨⟨_,.inl rfl⟩,hs3,hd3,?_⟩
   rw[tk,q1f,q0V (by simp[hb])]
   simpa using he3
 ·rintro acc σ' H' ⟨_,hs,hd,he⟩
  rw[q0T] at he
  exact q acc H' hs hd he
theorem z2n {J:It}{n:Nat}{Ok:Hp→Prop}{xs:List V} (hx:n=xs.length) (R:z6l J n Ok (fun i H x H'=>H'=H∧xs[i]? =some x)) {fr:List (Option Nat)}{tt:TT}{te:TE}{σ:St}{H1:Hp}{Q:VK}{D:Addr} (hD:H1 D=none) (tst:V→Bool) (Rel:Hp→V→V→Prop)
 (hrel:∀H H' x u,(∀b o,b≠D→H b=some o→H' b=some o)→(∃acc,H D=some (.lst acc))→Rel H x u→Rel H' x u)
 (hok:∀H,Same H1 H→Ok H) (hn:n≤sizeLine)
 (ht:∀x∈xs,∀Hc,Same H1 Hc→∀S:Bool→Hp→Prop,(∀H',Same Hc H'→S (tst x) H')→tt ((z0B fr σ).set 0 (some x)) Hc S)
 (hv:∀x∈xs,tst x=true→∀Hc,Same H1 Hc→∀S:VK,(∀u H',Same Hc H'→Rel H' x u→S u H')→te ((z0B fr σ).set 0 (some x)) Hc S)
 (q:∀us H',Same H1 H'→H' D=some (.lst us)→Each (Rel H') (xs.filter tst) us→Q (.ref D) H'):
 z3f J (z6X 0) tt te Q D (z0B fr σ) (upd H1 D (.lst [])):=
 z3t hx R hD tst Rel hrel hok hn ht (fun x hx1 ht1 Hc g1 _=>hv x hx1 ht1 Hc g1) q
end L2
namespace L2
open PySem PySem.Spec PyProof.Rows
theorem z4o {α β:Type}{R:α→β→Prop}{l2 l2':List β} (h:l2'.Perm l2):∀{l1:List α},Paired R l1 l2→∃l1',l1'.Perm l1∧Paired R l1' l2':=by
 induction h with
 |nil=>intro l1 p;cases p;exact⟨[],.nil,.nil⟩
 |cons x _ ih=>
  intro l1 p
  cases p with
  |cons r t=>
   obtain⟨l,h1,h2⟩:=ih t
   exact⟨_::l,h1.cons _,.cons r h2⟩
 |swap x y l=>
  intro l1 p
  cases p with
  |cons r t=>
   cases t with
   |cons r2 t=>exact⟨_,.swap ..,.cons r2 (.cons r t)⟩
 |trans _ _ ih1 ih2=>
  intro l1 p
  obtain⟨l,a,b⟩:=ih2 p
  obtain⟨l',c,d⟩:=ih1 b
  exact⟨l',c.trans a,d⟩
abbrev KR (p:Int×V) (q:Int×Value):Prop:=p.1=q.1∧RelV p.2 q.2
theorem y4U:∀{xs:List V}{us:List Value} (kz:List Int),Vals xs us→Paired KR (kz.zip xs) (kz.zip us)
 |_,_,[],_=>by simp;exact .nil
 |_,_,_::_,.nil =>by simp;exact .nil
 |_,_,k::kz,.cons r t=> .cons ⟨rfl,r⟩ (y4U kz t)
theorem y4V:∀{qs:List (Int×V)}{ps:List (Int×Value)},Paired KR qs ps→Vals (qs.map Prod.snd) (ps.map Prod.snd)
 |_,_,.nil => .nil
 |_,_,.cons r t=> .cons r.2 (y4V t)
theorem y4W:∀{qs:List (Int×V)}{ps:List (Int×Value)},Paired KR qs ps→qs.map Prod.fst=ps.map Prod.fst
 |_,_,.nil =>rfl
 |_,_,.cons r t=>by rw[List.map_cons,List.map_cons,r.1,y4W t]
def EL (a:Addr) (e1:Nat):HO:= .ext fun h=>h.get? a=some (seqObj "list" #[] e1)
theorem EL.ok {P:Program}{w:World}{H:Hp}{h:Heap}{a:Addr}{e1:Nat} (e:h.get? a=some (seqObj "list" #[] e1)):ObjOk P w H h a (EL a e1):=⟨e,⟨_,e⟩,fun h1 h2 q k=>k _ q⟩
theorem z4z:∀{kz:List Int}{us:List Value},Vals (kz.map V.int) us→IntsAre us kz
 |[],_,.nil => .nil
 |k::kz,_,.cons r t=>by
  obtain⟨tk,rfl⟩:=r
  exact .cons k tk (z4z t)
section
variable {X:Cx}{pins:List (Addr×Obj)}{σ:St}{H:Hp}{s:Shared}{A:Around}{E:Value→Shared→Prop}{kS a:Addr}{e1:Nat}{xs:List V}{us:List Value}{kz:List Int}{W:PySem.Fin→Shared→Prop}
theorem z6y {keys:Array Value}{st:SortSt} (I:Inv X pins σ H s) (hK:H kS=some (.lst (kz.map V.int))) (hA:H a=some (EL a e1)) (hk:IntsAre keys.toList kz) (hlen:kz.length=us.length) (h64:us.length<64) (hV:Vals xs us)
 (hp:(arrOf st).Perm (keys.zip us.toArray)) (hs:SortedTo (arrOf st) (arrOf st).size) (hfl:failedOf st=none)
 (q:∀(qs:List (Int×V)) (s':Shared),Inv X pins σ (upd (upd H kS (.lst [])) a (.lst (qs.map Prod.snd))) s'→qs.Perm (kz.zip xs)→qs.Pairwise (fun x y=>x.1≤y.1)→W (.done (.ret .none)) s'):
 wpAny (model X.prog X.w) A (ksk_tail a false e1 (.ref kS) st) W E s:=by
 obtain⟨z,its,n,r,hl,ek⟩:=I.lstM hK
 have nA:s.heap.get? a=some (seqObj "list" #[] e1):=(I.hok a _ hA).1
 have hka:kS≠a:=fun z=>by rw[z,hA] at hK;cases hK
 have I1:=I.lset (its':=[]) (ys:=[]) (f:=fun _=> #[]) (t':=s.toks) hK ek rfl .nil (q0N _)
 have nA1:(s.heap.update kS (Obj.mapSeq fun _=>(#[]:Array Value))).get? a=some (seqObj "list" #[] e1):=(q1n s.heap _ hka).trans nA
 have hu1:(upd H kS (.lst [])) a=some (EL a e1):=by rw[z0i hka.symm];exact hA
 have hsz:keys.size=us.length:=by
  have:=hk.length
  rw[q1w] at this
  lia
 have hsz2:(arrOf st).size =us.length:=by rw[hp.size_eq,Array.size_zip,hsz,q0e,Nat.min_self]
 obtain⟨ps,hp2,ho,hw⟩:=ksk_out (b:=false) hk hp hs
 obtain⟨qs,hq1,hq2⟩:=z4o hp2 (y4U kz hV)
 have out:((arrOf st).map (·.2)).toList =ps.map Prod.snd:=ho
 obtain⟨c2,hc2⟩:∃c2,((s.heap.update kS (Obj.mapSeq fun _=>(#[]:Array Value))).update a (Obj.mapSeq fun _=>(arrOf st).map (·.2))).get? a=some (seqObj "list" ((arrOf st).map (·.2)) c2):=⟨_,get?_update_seq nA1 fun _=>(arrOf st).map (·.2)⟩
 have hle:qs.length=us.length:=by
  rw[hq1.length_eq,q1h,hV.length];lia
 unfold ksk_tail
 dsimp only
 refine wpAny_bind (listUpdate_at ek rfl ?_ (by rw[q0e,←hl];exact z) (q0N _))
 refine wpAny_bind (wpAny_letGo ?_)
 refine wpAny_bind (seqEpoch_at nA1 rfl ?_)
 refine wpAny_bind (listUpdate_at nA1 rfl ?_ (q0N _) (q0m (Nat.le_of_eq (by show (Array.map _ (arrOf st)).size =us.length;rw[Array.size_map];exact hsz2)) (by rw[sizeLine_eq];lia)))
 rw[hfl]
 simp only[bne_self_eq_false,Bool.false_eq_true,if_false]
 refine wpAny_pure (q qs _ ?_ hq1 ?_)
 ·refine I1.write (x:=a) (e:=a) (t':=s.toks) (by rw[hu1];exact trivial) (.inl rfl) (fun b u hb hu=>(q1n _ _ (Ne.symm hb)).trans hu) ⟨_,hc2⟩ ?_
  refine⟨by rw[q0a,hle,sizeLine_eq];lia,ps.map Prod.snd,c2,y4V hq2,?_⟩
  rw[hc2,←out,Array.toArray_toList]
 ·have e1:=y4W hq2
  have hw':ps.Pairwise fun x y=>x.1≤y.1:=hw
  have w1:(ps.map Prod.fst).Pairwise (· ≤ ·):=by rw[q1a];exact hw'
  rw[←e1,q1a] at w1
  exact w1
theorem y3v {keys:Array Value} (I:Inv X pins σ H s) (hK:H kS=some (.lst (kz.map V.int))) (hA:H a=some (EL a e1)) (hk:IntsAre keys.toList kz) (hlen:kz.length=us.length) (h64:us.length<64) (hV:Vals xs us)
 (q:∀(qs:List (Int×V)) (s':Shared),Inv X pins σ (upd (upd H kS (.lst [])) a (.lst (qs.map Prod.snd))) s'→qs.Perm (kz.zip xs)→qs.Pairwise (fun x y=>x.1≤y.1)→W (.done (.ret .none)) s'):
 wpAny (model X.prog X.w) A (ksk_end a false us.toArray e1 (.ref kS) keys) W E s:=by
 have hsz:keys.size=us.length:=by
  have:=hk.length
  rw[q1w] at this
  lia
 have hzs:(keys.zip us.toArray).size =us.length:=by rw[Array.size_zip,hsz,q0e,Nat.min_self]
 unfold ksk_end
 dsimp only
 simp only[Bool.false_eq_true,if_false]
 by_cases h2:us.toArray.size<2
 ·rw[if_pos h2,if_pos h2]
  refine wpAny_bind (wpAny_pure ?_)
  rw[StateT.run_pure]
  refine wpAny_bind (wpAny_pure ?_)
  dsimp only
  refine z6y (st:=SortSt.mk' general' (keys.zip us.toArray) #[] 7 none) I hK hA hk hlen h64 hV (Array.Perm.refl _) (fun i j hij hj=>?_) rfl q
  have hj2:j<(keys.zip us.toArray).size :=hj
  rw[hzs] at hj2
  rw[q0e] at h2
  have:i=j:=by lia
  rw[this]
  exact Int.le_refl _
 ·rw[if_neg h2,if_neg h2]
  rw[q0e] at h2
  rw[ksk_kind hk (by rw[hsz];lia)]
  refine wpAny_bind (wpAny_pure ?_)
  refine wpAny_bind (wpAny_mono (wpS_sortRuns (a₀:=keys.zip us.toArray) (st:=SortSt.mk' oneType' (keys.zip us.toArray) #[] 7 none)
   (Q:=fun _ st'=>(arrOf st').Perm (keys.zip us.toArray)∧failedOf st'=none∧SortedTo (arrOf st') (keys.zip us.toArray).size)
   (ksk_intKeys hk) ⟨Array.Perm.refl _,rfl,rfl,rfl⟩ (by rw[hzs];lia) (by rw[hzs];exact h64) fun st' a1 a2 a3=>⟨a1,a2,a3⟩) ?_ fun _ _ e=>e)
  rintro⟨⟨⟩,st'⟩ s' ⟨rfl,hp,hf,hs⟩
  dsimp only
  exact z6y I hK hA hk hlen h64 hV hp (by rw[hp.size_eq];exact hs) hf q
theorem y0V {f:Value} (I:Inv X pins σ H s) (hK:H kS=some (.lst [])) (hA:H a=some (EL a e1)) (hlen:kz.length=us.length) (h64:us.length<64) (hV:Vals xs us)
 (turn:∀(i:Nat) (x:V) (u:Value) (k:Int),xs[i]? =some x→us[i]? =some u→kz[i]? =some k→∀(H1:Hp) (s1:Shared),Inv X pins σ H1 s1→(∀b o,b≠kS→H b=some o→H1 b=some o)→
  wpAny (model X.prog X.w) A (call f [u]) (fun v s2=>∃H2 t,Inv X pins σ H2 s2∧v= .int k t∧Same H1 H2) (fun _ _=>False) s1)
 (q:∀(H1:Hp) (qs:List (Int×V)) (s':Shared),(∀b o,b≠kS→H b=some o→H1 b=some o)→Inv X pins σ (upd (upd H1 kS (.lst [])) a (.lst (qs.map Prod.snd))) s'→qs.Perm (kz.zip xs)→qs.Pairwise (fun x y=>x.1≤y.1)→W (.done (.ret .none)) s'):
 wpAny (model X.prog X.w) A (ksk_rest a f false us.toArray e1 (.ref kS)) W E s:=by
 have hka:a≠kS:=fun z=>by rw[←z,hA] at hK;cases hK
 unfold ksk_rest
 refine wpAny_bind (wpAny_rule ?_)
 first
  |rw[List.forIn_toArray]
  |(rw[←Array.forIn_toList];simp only[List.toList_toArray])
  |rw[←Array.forIn_toList]
 refine wpAny_bind (ksk_fold (fun i s'=>∃H1,Inv X pins σ H1 s'∧(∀b o,b≠kS→H b=some o→H1 b=some o)∧H1 kS=some (.lst ((kz.take i).map V.int))) us 0 s ⟨H,I,fun _ _ _ e=>e,hK⟩ ?step ?done)
 case step=>
  rintro j u s' hu ⟨H1,I1,g1,k1⟩
  simp only[Nat.zero_add] at k1 ⊢
  have hj:j<us.length:=(q0H.mp hu).1
  obtain⟨k,hkj⟩:∃k,kz[j]? =some k:=⟨_,q0c (by lia)⟩
  obtain⟨x,hx⟩:∃x,xs[j]? =some x:=⟨_,q0c (by rw[hV.length];exact hj)⟩
  refine wpAny_bind (wpAny_attempt (wpAny_mono (turn j x u k hx hu hkj H1 s' I1 g1) (fun v s'' he=>?_) fun _ _ hF=>hF.elim))
  obtain⟨H2,t,I2,rfl,g2⟩:=he
  dsimp only
  have k2:=g2 _ _ k1
  obtain⟨z,its,n,r,hl,ek⟩:=I2.lstM k2
  have ek2:kz.take (j+1)=kz.take j++[k]:=by rw[q0R,hkj];rfl
  have hl2:its.length≤us.length:=by rw[←hl,q0a,q0w];lia
  refine wpAny_bind (listUpdate_at ek rfl ?_ (by rw[q0e,sizeLine_eq];lia) (by rw[Array.size_push,q0e,sizeLine_eq];lia))
  refine wpAny_pure ⟨rfl,upd H2 kS (.lst ((kz.take (j+1)).map V.int)),?_,fun b o hb e=>?_,z0b⟩
  ·refine I2.lset (its':=its++[.int k t]) (f:=(·.push (.int k t))) (t':=_) k2 ek (by simp) ?_ ?_
   ·rw[ek2,q0r]
    exact r.append (.cons ⟨t,rfl⟩ .nil)
   ·rw[q0a,q0w,sizeLine_eq];lia
  ·rw[z0i hb];exact g2 _ _ (g1 b o hb e)
 case done=>
  rintro s' ⟨H1,I1,g1,k1⟩
  have e3:kz.take (0+us.length)=kz:=List.take_of_length_le (by lia)
  rw[e3] at k1
  obtain⟨z,its,n,r,hl,ek⟩:=I1.lstM k1
  try dsimp only
  refine wpAny_bind (listItems_at ek rfl ?_)
  exact y3v I1 k1 (g1 _ _ hka hA) (by rw[List.toList_toArray];exact z4z r) hlen h64 hV fun qs s2 I2 p1 p2=>q H1 qs s2 g1 I2 p1 p2
end
section
variable {X:Cx}{pins:List (Addr×Obj)}{σ:St}{H:Hp}{s:Shared}{k:Nat}{g l:Addr}{gd:FuncData}{ps:List Str}{sp:Sp}{xs:List V}{kz:List Int}
theorem y1h {Q:VK} (Fn:FnOk X.prog X.w X.K X.mg X.base CX0 k g gd ps sp) (hr:Room (k+2) X.A) (hb:Binds X.K gd ps []) (I:Inv X pins σ H s) (hl:H l=some (.lst xs)) (hk:kz.length=xs.length) (h64:xs.length<64)
 (turn:∀(i:Nat) (x:V) (n:Int),xs[i]? =some x→kz[i]? =some n→∀H1,Same H H1→sp [x] H1 (fun v H2=>v= .int n∧Same H1 H2) E0)
 (q:∀(D:Addr) (qs:List (Int×V)) (H':Hp),H D=none→Same H H'→qs.Perm (kz.zip xs)→qs.Pairwise (fun x y=>x.1≤y.1)→H' D=some (.lst (qs.map Prod.snd))→Q (.ref D) H'):
 wpAny (model X.prog X.w) X.A (call (.builtin "sorted") [.ref l] [(Str.ofString "key",.ref g)]) (EP X pins σ Q) X.xe s:=by
 obtain⟨z,us,n,hV,hlen,el⟩:=I.lstM hl
 refine call_function_entry_kw kind_sorted plain_sorted entry_sorted (ksk_s1 _ _) ?_
 unfold Builtin.«sorted»
 refine wpAny_bind (m:=checkCount "sorted" 1 1 _) (wpAny_pure ?_)
 refine wpAny_bind (collect_list (vs:=us) ⟨_,el,rfl,_,rfl⟩ ?_ (by rw[←hlen];exact z))
 refine wpAny_bind (wpAny_newList ?_ (by rw[←hlen];exact z))
 have hsz:((s.heap.push (seqObj "list" #[] 0)).update s.heap.objs.size (Obj.mapSeq (· ++us.toArray))).objs.size =s.heap.objs.size+1:=by
  rw[Heap.size_update,size_push']
 have hoL:(((s.heap.push (seqObj "list" #[] 0)).update s.heap.objs.size (Obj.mapSeq (· ++us.toArray))).push (seqObj "list" us.toArray 0)).get? (s.heap.objs.size+1)=some (seqObj "list" us.toArray 0):=by
  rw[←hsz];exact q0s _ rfl
 have keep:∀b o,s.heap.get? b=some o→(((s.heap.push (seqObj "list" #[] 0)).update s.heap.objs.size (Obj.mapSeq (· ++us.toArray))).push (seqObj "list" us.toArray 0)).get? b=some o:=fun b o e=>by
  have hlt:b<s.heap.objs.size:=q0t e
  rw[Heap.get?_push_ne _ _ _ (by rw[hsz];exact q0o (q0M hlt)),Heap.get?_update_ne _ _ _ _ (q0o hlt),Heap.get?_push_ne _ _ _ (q0o hlt)]
  exact e
 have fr1:H (s.heap.objs.size+1)=none:=I.hok.fresh (q1t _)
 have I1:=I.laid (a:=s.heap.objs.size+1) (o:= .lst xs) (t':=s.toks) keep (q1t _) ⟨z,us,0,hV,hoL⟩
 show wpAny _ _ _ _ _ {s with heap:=((s.heap.push (seqObj "list" #[] 0)).update s.heap.objs.size (Obj.mapSeq (· ++us.toArray))).push (seqObj "list" us.toArray 0)}
 rw[hsz]
 generalize hD:s.heap.objs.size+1=D at*
 generalize hh1:((s.heap.push (seqObj "list" #[] 0)).update s.heap.objs.size (Obj.mapSeq (· ++us.toArray))).push (seqObj "list" us.toArray 0)=h1 at*
 refine wpAny_bind (wpAny_holding (wpAny_call_entry_kw slot_list_sort ⟨_,hoL,rfl⟩ entry_list_sort ?body (ksk_l1 _ _)))
 case body=>
  show wpAny (model X.prog X.w) X.A.in1.in1 (Builtin.«list.sort» ⟨[.ref D],[(Str.ofString "key",.ref g)]⟩) _ _ _
  rw[ksk_t1]
  unfold ksk_tree
  refine wpAny_bind (listItems_at hoL rfl ?_)
  refine wpAny_bind (listUpdate_at hoL rfl ?_ (by rw[q0e,←hlen];exact z) (q0N _))
  obtain⟨e1,ho1⟩:∃e1,(h1.update D (Obj.mapSeq fun _=>(#[]:Array Value))).get? D=some (seqObj "list" #[] e1):=⟨_,get?_update_seq hoL fun _=> #[]⟩
  have I2:=I1.write (x:=D) (e:=D) (o:=EL D e1) (h':=h1.update D (Obj.mapSeq fun _=>(#[]:Array Value))) (t':=s.toks) (by rw[z0b];exact trivial) (.inl rfl) (fun b u hb hu=>(q1n _ _ (Ne.symm hb)).trans hu) ⟨_,ho1⟩ (EL.ok ho1)
  rw[z5r] at I2
  generalize h1.update D (Obj.mapSeq fun _=>(#[]:Array Value))=h2 at*
  refine wpAny_bind (seqEpoch_at ho1 rfl ?_)
  refine wpAny_bind (wpAny_newTuple ?_ (by rw[List.toList_toArray,←hlen];exact z))
  refine wpAny_bind (wpAny_newList ?_ (q0N _))
  refine wpAny_holding ?_
  have I3:=I2.kept (h':=h2.push (seqObj "tuple" us.toArray 0)) (t':=s.toks) (fun b u e=>q0d _ e)
  have I4:=I3.laid (a:=(h2.push (seqObj "tuple" us.toArray 0)).objs.size) (o:= .lst []) (h':=(h2.push (seqObj "tuple" us.toArray 0)).push (seqObj "list" #[] 0)) (t':=s.toks) (fun b u e=>q0d _ e) (q0i _) ⟨q0N _,[],0,.nil,q0s _ rfl⟩
  have fr2:upd H D (EL D e1) (h2.push (seqObj "tuple" us.toArray 0)).objs.size =none:=I3.hok.fresh (q0i _)
  generalize (h2.push (seqObj "tuple" us.toArray 0)).objs.size =kS at*
  generalize hh4:(h2.push (seqObj "tuple" us.toArray 0)).push (seqObj "list" #[] 0)=h4 at*
  have hDk:D≠kS:=fun e=>by rw[←e,z0b] at fr2;cases fr2
  have hHk:H kS=none:=by rw[z0i hDk.symm] at fr2;exact fr2
  have key:∀H1:Hp,(∀b o,b≠kS→upd (upd H D (EL D e1)) kS (.lst []) b=some o→H1 b=some o)→Same H H1:=fun H1 gg b o e=>gg b o (z0f e hHk) (by rw[z0i (z0f e hHk),z0i (z0f e fr1)];exact e)
  refine y0V (kS:=kS) (a:=D) (e1:=e1) (kz:=kz) (xs:=xs) I4 z0b (by rw[z0i hDk,z0b]) (by rw[hk,hlen]) (by rw[←hlen];exact h64) hV (fun i x u n hx hu hn H1 s1 J1 g1=>?_) fun H1 qs s2 g1 J2 p1 p2=>⟨_,rfl,?_⟩
  ·have hq:=turn i x n hx hn H1 (key H1 g1)
   obtain⟨u',hu',rxu⟩:=hV.get hx
   rw[hu] at hu'
   cases hu'
   have hll:([u]++[]:List Value).length =ps.length:=by
        have:=Fn.len _ _ _ _ hq
        rw[←this];rfl
   have hbb:=hb s1 [u] J1.kIn hll
   rw[q1F] at hbb
   refine wpAny_call (codeAny_mono (Fn.run X.A.in1.in1 X.stack s1 H1 ⟨[u],[]⟩ [u] [x] _ E0 hr.in1.in1 J1.env0.in1.in1 hbb (.cons rxu .nil) hq) fun rr s' hq'=>?_)
   cases rr with
   |error ev=>exact hq'.elim
   |ok fl=>
    cases fl with
    |ret w'=>
     obtain⟨v,H2,J2,rv,ev,g2⟩:=J1.after hq'
     subst ev
     obtain⟨t,rfl⟩:=rv
     exact⟨H2,t,J2,rfl,g2⟩
    |next=>exact False.elim hq'
    |brk=>exact False.elim hq'
    |cont=>exact False.elim hq'
  ·refine wpAny_pure ⟨_,rfl,?_⟩
   refine⟨.ref D,_,J2,rfl,q D qs _ fr1 (fun b o e=>?_) p1 p2 z0b⟩
   rw[z0i (z0f e fr1),z0i (z0f e hHk)]
   exact key H1 g1 b o e
def y4I (sp:Sp):V→Hp→VK→Prop:=fun x H Q=>∃(l:Addr) (xs:List V) (kz:List Int),x= .ref l∧H l=some (.lst xs)∧kz.length=xs.length∧xs.length<64∧(∀(i:Nat) (x:V) (n:Int),xs[i]? =some x→kz[i]? =some n→∀H1,Same H H1→sp [x] H1 (fun v H2=>v= .int n∧Same H1 H2) E0)∧
 ∀(D:Addr) (qs:List (Int×V)) (H':Hp),H D=none→Same H H'→qs.Perm (kz.zip xs)→qs.Pairwise (fun x y=>x.1≤y.1)→H' D=some (.lst (qs.map Prod.snd))→Q (.ref D) H'
def y6O (sp:Sp) (ta:TE):TE:=fun σ H Q=>ta σ H fun x H1=>y4I sp x H1 Q
def oneQ (sp:Sp) (Q:VK):List V→Hp→Prop:=fun vs H=>match vs with
 |[x]=>y4I sp x H Q
 |_=>False
theorem y3L {f:Str}{p p2 kp pos:Pos}{e:Expr}{te:TE} (c:Cal X.prog X.w X.K X.mg X.base k f ps sp) (hr:Room (k+2) X.A) (hg:Gl X "sorted") (hm:X.mg "sorted"=none) (hgf:Gl X f) (ha:PE X e te) (hd:(f==("__debug__":Str))=false:=by decide)
 (he:starEach [e] X.env=(false,eval e X.env)::starEach [] X.env:=by rfl):PE X (.Call (.Name "sorted" p) [e] [⟨some (Str.ofString "key"),.Name f p2,kp⟩] pos) (y6O sp te):=by
 intro pins s σ H Q I h
 obtain⟨g,gd,F,b,kk,m⟩:=c.ex
 refine wpAny_Call_Name_kw (z2X I hg hm boot_sorted ?_)
 refine callWith_kw (thn (z0a ha z0c he pos pins s σ H (oneQ sp Q) I h) fun us s1 ⟨vs,H1,I1,r1,q1⟩=>?_) (by rw[he];rfl) (by rw[he];rfl)
 match vs,q1 with
 |[x],⟨l,xs,kz,e1,e2,e3,e4,e5,e6⟩=>
  subst e1
  have PKf:PK X [⟨some (Str.ofString "key"),.Name f p2,kp⟩] (y5t (tC (.ref g)) tNil):=y5E (y5H hgf m rfl hd) y7d
  refine thn (PKf pos pins s1 σ H1 (fun zs H2=>zs=[.ref g]∧H2=H1) I1 ⟨rfl,rfl⟩) fun ws s2 ⟨zs,H2,I2,rz,ez,eh⟩=>?_
  subst ez eh
  obtain⟨u,rfl,ru⟩:=r1.one
  obtain⟨w',rfl,rw'⟩:=rz.one
  cases ru
  cases rw'
  exact y1h F hr b I2 e2 e3 e4 e5 e6
end
end L2
namespace L2
open PySem PySem.Spec PyProof.Rows PySem.MeetsSeq
theorem z9H (l:Addr) (items:Array Value) (n:Nat) (x:Value) (e:Nat→Bool) (j:Nat) (hj:j<items.size) (hit:e j=true) (hz:items.size≤sizeLine) (k:Nat):
 ∀i:Nat,j - i=k→i≤j→(∀m,i≤m→m<j→e m=false)→Meets (Builtin.«list.remove.loop» ⟨[.ref l,x,rawInt i],[]⟩)
  (fun A R s=>s.heap.get? l=some {cls:= .type "list",dict:=none,data:= .seq items n,slots:= #[]}∧(∀m (hm:m<items.size),SeqAt.EqAt A.in1 s items[m] x (e m))∧R (.ok (.ret .none)) {s with heap:=s.heap.update l (Obj.mapSeq fun zs=>zs.eraseIdxIfInBounds j)}):=by
 induction k with
 |zero=>
  intro i hk hij hno prog w A R s h
  obtain⟨hp,g,d,tk,os⟩:=s
  obtain⟨hl,he,h⟩:=h
  have hij':i=j:=by lia
  subst hij'
  wp_walk using wpAny_loadPart' hl
  have hi:items[((i:Nat):Int).toNat]? =some items[i]:=by simp[hj]
  rw[hi]
  refine wpAny_bind (he i hj prog w _ _ ?_)
  rw[hit]
  have hz2:(items.eraseIdxIfInBounds i).size ≤sizeLine+1:=q0m (size_erased items _) (q1U hz)
  wp_walk using (wpAny_updateSeq hl rfl (hz:=hz) (_hz':=hz2)),wpAny_loadPart' hl
  simpa using h
 |succ k ih=>
  intro i hk hij hno prog w A R s h
  obtain⟨hp,g,d,tk,os⟩:=s
  obtain⟨hl,he,h⟩:=h
  have hlt:i<items.size:=by lia
  wp_walk using wpAny_loadPart' hl
  have hi:items[((i:Nat):Int).toNat]? =some items[i]:=by simp[hlt]
  have hc:((i:Int)+1)=((i+1:Nat):Int):=by push_cast;rfl
  rw[hi]
  refine wpAny_bind (he i hlt prog w _ _ ?_)
  rw[hno i (q0i _) (by lia)]
  wp_walk
  rw[hc]
  refine⟨plainId_quiet plain_remove_loop _,codeAny_builtin entry_remove_loop ?_⟩
  rw[Around.under_plainId plain_remove_loop _]
  exact ih (i+1) (by lia) (by lia) (fun m h1 h2=>hno m (by lia) h2) prog w A R _ ⟨hl,he,h⟩
theorem z7M (l:Addr) (items:Array Value) (n:Nat) (x:Value) (e:Nat→Bool) (j:Nat) (hj:j<items.size) (hit:e j=true) (hno:∀m,m<j→e m=false) (hz:items.size≤sizeLine):
 Meets (Builtin.«list.remove» ⟨[.ref l,x],[]⟩)
  (fun A R s=>s.heap.get? l=some {cls:= .type "list",dict:=none,data:= .seq items n,slots:= #[]}∧(∀m (hm:m<items.size),SeqAt.EqAt A.in1 s items[m] x (e m))∧R (.ok (.ret .none)) {s with heap:=s.heap.update l (Obj.mapSeq fun zs=>zs.eraseIdxIfInBounds j)}):=by
 intro prog w A R s h
 obtain⟨hp,g,d,tk,os⟩:=s
 obtain⟨hl,he,h⟩:=h
 wp_walk using wpAny_loadPart' hl
 refine⟨plainId_quiet plain_remove_loop _,codeAny_builtin entry_remove_loop ?_⟩
 rw[Around.under_plainId plain_remove_loop _]
 exact z9H l items n x e j hj hit hz _ 0 rfl (q0N _) (fun m _ h2=>hno m h2) prog w A R _ ⟨hl,he,h⟩
section
variable {X:Cx}{K:PySem.W.Frag}
theorem IsDs.get {K:PySem.W.Frag}{H:Hp}:∀{xs:List V}{ds:List Dt},IsDs K H xs ds→∀{i:Nat}{x:V}{d:Dt},xs[i]? =some x→ds[i]? =some d→IsD K H x d
 |_,_,.nil,i,x,d,e,_=>by simp at e
 |_,_,.cons h t,0,x,d,e1,e2=>by cases e1;cases e2;exact h
 |_,_,.cons h t,i+1,x,d,e1,e2=>IsDs.get t (by simpa using e1) (by simpa using e2)
def rRemD (K:PySem.W.Frag):V→List V→Hp→VK→Prop:=fun x vs H Q=>∃(l:Addr) (xs:List V) (y:V) (ds:List Dt) (e:Dt) (j:Nat),x= .ref l∧vs=[y]∧H l=some (.lst xs)∧IsDs K H xs ds∧IsD K H y e∧(∀d∈ds,Dt.ok 9 d e=true)∧
 (∃d,ds[j]? =some d∧Dt.eqb d e=true)∧(∀m d,m<j→ds[m]? =some d→Dt.eqb d e=false)∧Q .non (upd H l (.lst (xs.eraseIdx j)))
theorem z9Y (hK:X.K=K) (hu:X.A.units+64<cLine):MtM X "list.remove" (rRemD K):=by
 subst hK
 intro pins s σ H x vs v us Q I rx rv h
 obtain⟨l,xs,y,ds,e,j,rfl,rfl,hH,hD,hy,ok,⟨dj,hj,ej⟩,hno,q⟩:=h
 cases rx
 obtain⟨u,rfl,ru⟩:=rv.one
 obtain⟨z,its,n,r,hl,el⟩:=I.lstM hH
 have ld:xs.length=ds.length:=hD.length
 have jl:j<ds.length:=(q0H.mp hj).1
 let f:Nat→Bool:=fun m=>match ds[m]? with|some d=>Dt.eqb d e|none=>false
 have P:=told I 9 X.A.in1 (by show X.A.units+1+9<cLine;lia)
 have he:∀m (hm:m<its.toArray.size),SeqAt.EqAt X.A.in1 s its.toArray[m] u (f m):=fun m hm=>by
  rw[q0e] at hm
  have e1:xs[m]? =some xs[m]:=q0c (by lia)
  have e2:ds[m]? =some ds[m]:=q0c (by lia)
  obtain⟨w',hw,rw'⟩:=r.get e1
  have ew:its.toArray[m]=w':=by
   rw[q0c hm] at hw
   simpa using hw
  rw[ew]
  have ef:f m=Dt.eqb ds[m] e:=by show (match ds[m]? with|some d=>Dt.eqb d e|none=>false)=_;rw[e2]
  rw[ef]
  exact P _ _ _ _ _ _ (hD.get e1 e2) hy rw' ru (ok _ (q0z _))
 refine call_meets F.slot_list_remove ⟨_,el,rfl⟩ F.entry_list_remove (F.args_list_remove_2 _ _) (z7M l its.toArray n u f j (by rw[q0e];lia) (by show (match ds[j]? with|some d=>Dt.eqb d e|none=>false)=true;rw[hj];exact ej) (fun m hm=>by
  show (match ds[m]? with|some d=>Dt.eqb d e|none=>false)=false
  have e2:ds[m]? =some ds[m]:=q0c (by lia)
  rw[e2];exact hno m _ hm e2) (by rw[q0e];lia)) ⟨el,he,?_⟩
 refine⟨.non,_,I.lset (its':=its.eraseIdx j) (t':=s.toks) hH el ?_ (r.eraseIdx j) ?_,rfl,q⟩
 ·show its.toArray.eraseIdxIfInBounds j=(its.eraseIdx j).toArray
  rw[List.eraseIdxIfInBounds_toArray]
 ·have:=z6T xs j
  lia
end
end L2
namespace L2
open PySem PySem.Spec PyProof.Rows
theorem z2o:∀(n:Nat) (names:List (Str×NameKind)) (acc:List (Str×Addr)) {p:Str×Addr},p∈cellsFrom n names acc→p∈cellsFrom n names []∨p∈acc
 |_,[],_,_,h=> .inr h
 |n,(x,k)::r,acc,p,h=>by
  unfold cellsFrom at h ⊢
  split
  ·rename_i hk
   rw[if_pos hk] at h
   rcases z2o _ r _ h with z|z
   ·exact .inl (cells_more _ r _ z)
   ·rcases q0n.mp z with z|z
    ·exact .inl (cells_acc _ r _ (by rw[z];exact q0l))
    ·exact .inr z
  ·rename_i hk
   rw[if_neg hk] at h
   exact z2o _ r _ h
where
 cells_acc:∀(n:Nat) (names:List (Str×NameKind)) (acc:List (Str×Addr)) {p:Str×Addr},p∈acc→p∈cellsFrom n names acc
  |_,[],_,_,h=>h
  |n,(x,k)::r,acc,p,h=>by
   unfold cellsFrom
   split
   ·exact cells_acc _ r _ (q0j _ h)
   ·exact cells_acc _ r _ h
 cells_more:∀(n:Nat) (names:List (Str×NameKind)) (acc:List (Str×Addr)) {p:Str×Addr},p∈cellsFrom n names []→p∈cellsFrom n names acc
  |_,[],_,_,h=>by cases h
  |n,(x,k)::r,acc,p,h=>by
   unfold cellsFrom at h ⊢
   split
   ·rename_i hk
    rw[if_pos hk] at h
    rcases z2o _ r _ h with z|z
    ·exact cells_more _ r _ z
    ·exact cells_acc _ r _ (by rw[q0g.mp z];exact q0l)
   ·rename_i hk
    rw[if_neg hk] at h
    exact cells_more _ r _ h
theorem z4F {x:Str}:∀(names:List (Str×NameKind)) (acc:List (Str×Addr)) (n n0:Nat) {c:Addr},n0≤n→(∀c,acc.lookup x=some c→n0≤c)→(cellsFrom n names acc).lookup x=some c→n0≤c
 |[],acc,n,n0,c,_,h,e=>h c e
 |(y,k)::r,acc,n,n0,c,hn,h,e=>by
  unfold cellsFrom at e
  split at e
  ·refine z4F r _ (n+1) n0 (q1U hn) (fun c' e'=>?_) e
   rw[q1I] at e'
   split at e'
   ·cases e';exact hn
   ·exact h c' e'
  ·exact z4F r acc n n0 hn h e
theorem z3b {x:Str}:∀(names:List (Str×NameKind)) (acc:List (Str×Addr)) (n n0:Nat) {c:Addr},n0≤n→names.lookup x=some .cell →(cellsFrom n names acc).lookup x=some c→n0≤c
 |[],acc,n,n0,c,_,h,e=>by cases h
 |(y,k)::r,acc,n,n0,c,hn,h,e=>by
  rw[q1I] at h
  unfold cellsFrom at e
  split at h
  ·rename_i hb
   have hxy:x=y:=by simpa using hb
   cases h
   rw[if_pos (by rfl)] at e
   refine z4F r _ (n+1) n0 (q1U hn) (fun c' e'=>?_) e
   rw[q1I,hb] at e'
   cases e';exact hn
  ·split at e
   ·exact z3b r _ (n+1) n0 (q1U hn) h e
   ·exact z3b r acc n n0 hn h e
def z1p (X:Cx) (Nc:List Str) (scope:Scope) (cl:List (Str×Addr)) (C:Addr) (s2:Shared) (H2:Hp) (fp:List Addr):Cx where
 prog:=X.prog
 w:=X.w
 K:=X.K
 mg:=X.mg
 base:=X.base
 A:=X.A
 N:=Nc
 s₀:=s2
 H₀:=H2
 env:=compEnvC scope (cellsFrom (C+1) scope.names cl) C X.env
 outer:=X.stack
 stack:=X.stack
 ex:=fp
 fn:=fun x=>scope.names.lookup x==some .cell
 calm:=true
 pn:=[]
 xe:=fun _ _=>False
theorem CapC.mem2 {env:Env}:∀{cl:List (Str×Addr)},CapC env cl→∀x c,(x,c)∈cl→env.cells.lookup x=some c
 |[],_,x,c,e=>by cases e
 |(y,d)::r,h,x,c,e=>by
  rcases q0n.mp e with z|z
  ·cases z;exact h.1
  ·exact h.2.mem2 x c z
def CapL (names:List (Str×NameKind)) (cl:List (Str×Addr)):List Str→List (Option Nat)→Prop
 |[],[]=>True
 |_::r,none::q=>CapL names cl r q
 |x::r,some _::q=>(∀n,(cellsFrom n names cl).lookup x=cl.lookup x)∧CapL names cl r q
 |_,_=>False
theorem CapL.at {names:List (Str×NameKind)}{cl:List (Str×Addr)}:∀{Nc:List Str}{fr:List (Option Nat)},CapL names cl Nc fr→∀(j:Nat) (x:Str) (k:Nat),Nc[j]? =some x→fr[j]? =some (some k)→∀n,(cellsFrom n names cl).lookup x=cl.lookup x
 |[],[],_,j,x,k,e,_=>by simp at e
 |_::r,none::q,h,0,x,k,_,e=>by simp at e
 |y::r,some k'::q,h,0,x,k,e1,e2=>by
  simp at e1 e2
  subst e1 e2
  exact h.1
 |_::r,none::q,h,j+1,x,k,e1,e2=>CapL.at (show CapL names cl r q from h) j x k (by simpa using e1) (by simpa using e2)
 |_::r,some k'::q,h,j+1,x,k,e1,e2=>CapL.at h.2 j x k (by simpa using e1) (by simpa using e2)
 |[],_::_,h,_,_,_,_,_=>h.elim
 |_::_,[],h,_,_,_,_,_=>h.elim
theorem z2i {scope:Scope}{env:Env}{cells:List (Str×Addr)} (hall:(scope.names.all fun p=>(p.2 != .free &&p.2 != .cell) || (cells.lookup p.1).isSome)=true):
 ∀x,((relabel scope env).names.lookup x=some .cell ∨(relabel scope env).names.lookup x=some .free)→∃c,cells.lookup x=some c:=by
 intro x hx
 unfold relabel at hx
 dsimp only at hx
 revert hall hx
 generalize scope.names=ns
 intro hall hx
 induction ns with
 |nil=>simp at hx
 |cons p r ih=>
  obtain⟨n,k⟩:=p
  simp only[List.all_cons,q1b] at hall
  rw[q0q] at hx
  by_cases hxn:x=n
  ·subst hxn
   have kf:k= .free ∨k= .cell :=by
        by_cases hc:(k==NameKind.free&&env.scope.kind== .function &&env.kindOf x==some .cell)=true
        ·simp only[q1b,beq_iff_eq] at hc
         exact .inl hc.1.1
        ·dsimp only at hx
         rw[if_neg hc] at hx
         simp only[q1I,beq_self_eq_true] at hx
         rcases hx with z|z
         ·exact .inr (Option.some.inj z)
         ·exact .inl (Option.some.inj z)
   have h1:=hall.1
   have h2:(cells.lookup x).isSome =true:=by
        rcases kf with kf|kf
        ·rw[kf] at h1;simpa using h1
        ·rw[kf] at h1;simpa using h1
   exact q1x.mp h2
  ·refine ih hall.2 ?_
   have hb:(x==n)=false:=by simpa using hxn
   dsimp only at hx
   by_cases hc:(k==NameKind.free&&env.scope.kind== .function &&env.kindOf n==some .cell)=true
   ·rw[if_pos hc] at hx
    simpa only[q1I,hb] using hx
   ·rw[if_neg hc] at hx
    simpa only[q1I,hb] using hx
theorem z6Z {M:Model}{A:Around}{E:Value→Shared→Prop}{s:Shared}{scope:Scope}{globals:Addr}{cl:List (Str×Addr)}{qual:Str}{env:Env}{Q:Env→Shared→Prop}
 (hQ:Q {scope:=scope,locals:=s.heap.objs.size,globals:=globals,cells:=cellsFrom (s.heap.objs.size+1) scope.names cl,qual:=qual,func:=none,code:=env.code,frame:=env.frame,builtins:=env.builtins} {s with heap:=pushCells (s.heap.push {cls:= .type "dict",data:= .dict #[]}) scope.names}):
 wpAny M A (newFunctionEnv scope globals cl [] qual none .none (some env)) Q E s:=by
 simp only[newFunctionEnv,Option.isSome_some,if_true]
 refine wpAny_bind (wpAny_alloc ?_)
 refine wpAny_bind (wpAny_layCells _ (fun name kind cells=>by cases hkc:kind==NameKind.cell<;>simp[hkc]) _ _ _ _ ?_)
 rw[show ({s with heap:=s.heap.push {cls:= .type "dict",data:= .dict #[]}}:Shared).heap.objs.size =s.heap.objs.size+1 from q1l ..]
 rw[List.forIn_nil]
 exact wpAny_bind (wpAny_pure (wpAny_pure hQ))
section
variable {X:Cx}{tg iter elt:Expr}{ifs:List Expr}{scope:Scope}{pos:Pos}{cl:List (Str×Addr)}{Nc:List Str}{fr:List (Option Nat)}{wi:TI}{g:TG}{tt:TT}{te:TE}
theorem y3N (hc:X.calm=true) (hi:PI X tg iter wi) (hcl:closureFor scope X.env=pure cl) (hk:scope.kind= .function) (hnm:∀y∈scope.names,y.2= .local →scope.names.lookup y.1=some .local)
 (hall:∀n,(scope.names.all fun p=>(p.2 != .free &&p.2 != .cell) || ((cellsFrom n scope.names cl).lookup p.1).isSome)=true) (cc:CapC X.env cl) (cn:CapN X scope cl Nc fr) (hcap:CapL scope.names cl Nc fr)
 (hg:∀C s2 H2 fp,PG (z1p X Nc scope cl C s2 H2 fp) tg g) (ht:∀C s2 H2 fp,PTs (z1p X Nc scope cl C s2 H2 fp) ifs tt) (he:∀C s2 H2 fp,PE (z1p X Nc scope cl C s2 H2 fp) elt te)
 (hs:∀x,foldedSetIterable iter X.env x=pure x:=by intro _;rfl):PE X (.ListComp elt [⟨tg,iter,ifs,0⟩] scope pos) (y3r fr wi g tt te):=by
 intro pins s σ H Q I h
 rw[eval_ListComp]
 refine wpAny_comprehension_free (use:=none) rfl hs hcl hk hnm ?_
 refine wpAny_mono (hi pins s σ H _ I h) (fun xv s1 h1=>wpAny_mono h1 (fun itv s2 h2=>?_) fun _ _ e=>e) fun _ _ e=>e
 obtain⟨it,fp,tn,J,H2,rfl,I2,T,st2,f2,q2⟩:=h2
 obtain⟨W,⟨m0,w0⟩,turn⟩:=q2 s2.heap.objs.size (I2.hok.fresh (q0i _))
 refine wpAny_newObj_type (z6Z ?_)
 generalize hD:s2.heap.objs.size=D at*
 generalize hL:s2.heap.push {cls:= .type "list",dict:=none,data:= .seq ([]:List Value).toArray}=hl
 have hlsz:hl.objs.size=D+1:=by rw[←hL,q1l,hD]
 dsimp only
 have ns4:=(Heap.Ns.new hl (.type "dict")).keeps (pushCells_keeps scope.names (hl.push {cls:= .type "dict",data:= .dict #[]}))
 have ok4:=cellsFrom_ok scope.names (hl.push {cls:= .type "dict",data:= .dict #[]}) (D+1+1) [] ⟨fun _ _ hm=>(nomatch hm),List.Pairwise.nil⟩ (by rw[q1l,hlsz];exact q0i _)
 rw[q1l,hlsz] at ok4
 have kp0:∀b o,hl.get? b=some o→(pushCells (hl.push {cls:= .type "dict",data:= .dict #[]}) scope.names).get? b=some o:=fun b o e=>pushCells_keeps _ _ b o (q0d _ e)
 rw[hlsz] at ns4 ⊢
 generalize pushCells (hl.push {cls:= .type "dict",data:= .dict #[]}) scope.names=h4 at*
 have DC:D≠D+1:=q0o (Nat.lt_succ_self _)
 have low:∀b o,s2.heap.get? b=some o→b<D:=fun b o e=>by rw[←hD];exact q0t e
 have kp:∀b o,s2.heap.get? b=some o→h4.get? b=some o:=fun b o e=>kp0 b o (by rw[←hL];exact q0d _ e)
 have hD4:h4.get? D=some {cls:= .type "list",dict:=none,data:= .seq ([]:List Value).toArray}:=kp0 D _ (by rw[←hL,←hD];exact q0s _ rfl)
 have cm:∀x c,(cellsFrom (D+1+1) scope.names cl).lookup x=some c→((x,c)∈cellsFrom (D+1+1) scope.names []∧h4.IsCell c none∧D+1+1≤c)∨(X.env.cells.lookup x=some c∧c<D):=fun x c e=>by
  rcases z2o _ _ _ (mem_of_lookup e) with z|z
  ·exact .inl ⟨z,(ok4.empty x c z).1,(ok4.empty x c z).2⟩
  ·have e2:=cc.mem2 x c z
   obtain⟨v,oc,hoc,_⟩:=I2.cell x c e2
   exact .inr ⟨e2,low c oc hoc⟩
 have hn:H2 D=none:=by rw[←hD];exact I2.hok.fresh (q0i _)
 have hnC:H2 (D+1)=none:=I2.hok.fresh (by rw[hD];exact q1t _)
 let Y:=z1p X Nc scope cl (D+1) s2 H2 fp
 have ixv:∀b∈fp,b<D:=fun b hb=>by
  obtain⟨o,e,_⟩:=T.obj 0 _ st2 b hb
  exact low b o e
 have okY:Y.Ok:=by
  refine⟨I2.ok.mod,?_,I2.ok.glob,I2.ok.blt,?_,?_,?_,?_,fun _=>I2.ok.hd hc,I2.ok.frames,.inl rfl,?_,I2.bs,?_,?_,?_,I2.stack,I2.stkFree⟩
  ·exact hk
  ·show s2.heap.objs.size≤D+1
   lia
  ·intro x y c e1 e2
   rcases cm x c e1 with⟨z1,_,z2⟩|⟨z1,z2⟩<;>rcases cm y c e2 with⟨z3,_,z4⟩|⟨z3,z4⟩
   ·exact name_of_addr ok4.apart z1 z3
   ·exact absurd (q0y z4 (q0m (q1d D 2) z2)) (q1e _)
   ·exact absurd (q0y z2 (q0m (q1d D 2) z4)) (q1e _)
   ·exact I2.ok.inj x y c z1 z3
  ·intro x hx
   exact z2i (hall _) x hx
  ·intro x c e1 e2
   have:=z3b scope.names cl (D+1+1) (D+1+1) (q0i _) (eq_of_beq (show (scope.names.lookup x==some NameKind.cell)=true from e1)) e2
   exact q0m (show s2.heap.objs.size≤D+1+1 by rw[hD];exact q1d D 2) this
  ·intro b hb
   refine⟨fun z=>?_,fun x c e z=>?_⟩
   ·exact absurd z (q0o (q0M (ixv b hb)))
   ·exact (cm x c e).elim (fun q=>absurd (q0y (ixv b hb) (q0m (q1d D 2) (z▸q.2.2))) (q1e _)) fun q=>(f2 b hb).2.2.2.2.1 x c q.1 z
  ·exact q0m I2.ok.bsz I2.sz
  ·intro b o e hb
   have z:=(f2 b hb).2.2.2.1
   rcases z with z|z
   ·exact I2.ok.noex b o e z
   ·exact absurd (q0y (q0t (I2.ok.bs b o e).1) z) (q1e _)
  ·intro b hb z
   have e2:=q0n.mp (I2.stkSub b z)
   rcases e2 with e2|e2
   ·exact (f2 b hb).2.1 e2
   ·exact (f2 b hb).2.2.1 e2
 have IY:Inv Y [] (z0B fr σ) (upd H2 D (.lst [])) {s2 with heap:=h4}:=by
  refine⟨okY,rfl,I2.bare,⟨fun b o e n _ _=>kp b o e,fun b o e n _ _=>⟨o.slots,kp b o e⟩,fun b o e n _=>?_,fun b o e _=>⟨o,kp b o e⟩,fun b xs e=>?_,fun b o u e=>?_,fun b ps e=>⟨#[],?_⟩⟩,?_,fun x c e=>?_,?_,fun x c e=>?_,fun p hp=>?_,fun b u e=>?_,?_⟩
  ·rw[z0i (q0o (low b o e))];exact n
  ·rw[z0i (z0f e hn)];exact e
  ·rw[z0i (z0f e hn)];exact e
  ·rw[z0i (z0f e hn),show H2 b=_ from e];simp
  ·refine⟨_,ns4,fun j x v e1 e2 e3=>?_⟩
   have e2':(fr.map fun o=>o.bind fun k=>(σ[k]?).join)[j]? =some (some v):=e2
   rw[q0h] at e2'
   obtain⟨o,ho,hv⟩:=q0u.mp e2'
   cases o with
   |none=>cases hv
   |some k=>
    obtain⟨c1,c2,c3,c4⟩:=cn.at j x k e1 ho
    have hσ:σ[k]? =some (some v):=by
        have hv':(σ[k]?).join =some v:=hv
        cases z:σ[k]? with
        |none=>rw[z] at hv';cases hv'
        |some w'=>rw[z] at hv';exact congrArg some hv'
    obtain⟨m,hm,hlk⟩:=I2.loc
    obtain⟨u,r,lk⟩:=hlk k x v c1 hσ (.inr (.inl c2))
    refine⟨u,r,.inr ⟨.inl c4,?_⟩⟩
    rcases lk with⟨z,_⟩|⟨_,c,ec,oc,hoc,dc⟩
    ·rw[c2] at z;cases z
    ·obtain⟨c',ec'⟩:=q1x.mp c3
     have:=cc.mem x c' ec'
     rw[ec] at this;cases this
     exact⟨c,(hcap.at j x k e1 ho _).trans ec',oc,kp c oc hoc,dc⟩
  ·rcases cm x c e with⟨_,z,_⟩|⟨z,_⟩
   ·exact⟨none,z⟩
   ·obtain⟨v,oc,hoc,dc⟩:=I2.cell x c z
    exact⟨v,oc,kp c oc hoc,dc⟩
  ·show upd H2 D (.lst []) (D+1)=none
   rw[z0i (Ne.symm DC)];exact hnC
  ·rcases cm x c e with⟨_,_,z⟩|⟨z,z2⟩
   ·rw[z0i (Nat.ne_of_gt (q0y (q0M (Nat.lt_succ_self D)) z))]
    exact I2.hok.fresh (by rw[hD];exact q0m (q1d D 2) z)
   ·rw[z0i (q0o z2)]
    exact I2.freeC x c z
  ·simp[Y,z1p] at hp
  ·by_cases hb:b=D
   ·subst hb
    rw[z0b] at e;cases e
    exact⟨q0N _,[],_,.nil,hD4⟩
   ·rw[z0i hb] at e
    exact (I2.hok b u e).stay (fun c v _ q=>kp c v q) (fun c q=>by rw[z0i (z0f q hn)];exact q) fun c xs q=>by rw[z0i (z0f q hn)];exact q
  ·show (fr.map _).length =Nc.length
   rw[q0a];exact cn.length
 have fY:∀{H':Hp},(∀b∈fp,H' b=none)→∀b∈fp,y0u Y [] H' b:=fun {H'} hn' b hb=>by
  refine⟨hn' b hb,fun z=>?_,fun z=>?_,.inl hb,fun x c e z=>?_,fun p hp=>?_⟩
  ·exact absurd z (q0o (q0M (ixv b hb)))
  ·exact okY.exfs b hb z
  ·exact (cm x c e).elim (fun q=>absurd (q0y (ixv b hb) (q0m (q1d D 2) (z▸q.2.2))) (q1e _)) fun q=>(f2 b hb).2.2.2.2.1 x c q.1 z
  ·simp[Y,z1p] at hp
 have st4:tn 0 h4:=T.keep _ _ _ st2 fun b hb o e=>kp b o e
 have fr4:∀b∈fp,upd H2 D (.lst []) b=none:=fun b hb=>by
  rw[z0i (q0o (ixv b hb))]
  exact (f2 b hb).1
 have loop:∀s3:Shared,s3={s2 with heap:=h4}→
  codeAny (model X.prog X.w) X.A (.compLoop (.ListComp elt [⟨tg,iter,ifs,0⟩] scope pos) 0 (.ref it) (.ref D) (compEnvC scope (cellsFrom (D+1+1) scope.names cl) (D+1) X.env)) (compPost (model X.prog X.w) X.A X.xe none (EP X pins σ Q) (.ref D) (D+1)) s3:=by
  rintro s3 rfl
  refine codeAny_loop rfl (fun n s'=>∃i σ' H',Inv Y [] σ' H' s'∧tn i s'.heap∧(∀b∈fp,H' b=none)∧W i n σ' H') (fun n s5 hI=>?_) m0 ⟨0,_,_,IY,st4,fr4,w0⟩
  obtain⟨i,σ5,H5,I5,st5,fr5,w5⟩:=hI
  show wpAny _ X.A ((compTurn (.ListComp elt [⟨tg,iter,ifs,0⟩] scope pos) 0 (.ref it) (.ref D) (compEnvC scope (cellsFrom (D+1+1) scope.names cl) (D+1) X.env)).onRaise (fun x=>do noteFrame x (compEnvC scope (cellsFrom (D+1+1) scope.names cl) (D+1) X.env);theTreesLotGoes x)) _ _ s5
  refine wpAny_noted ?_
  rw[compTurn_list]
  refine wpAny_bind (wpAny_standAt (wpAny_bind ?_))
  rcases turn i n σ5 H5 w5 with⟨stop,qn⟩|⟨go,step⟩
  ·refine wpAny_mono (T.done Y rfl rfl rfl rfl i [] s5 σ5 H5 (fun _ _=>False) I5 (fY fr5) st5 stop) (fun r s6 ⟨hr,I6⟩=>?_) fun _ _ z=>z.elim
   subst hr
   refine wpAny_pure ?_
   obtain⟨m6,hm6,_⟩:=id I6.loc
   refine⟨m6,hm6,fun h7 sb7=>?_⟩
   have un:Un (frs X.stack) fp H2 H5 s2.heap h7:=by
        have b6:=I6.base
        have nc:∀b o,s2.heap.get? b=some o→b≠D+1:=fun b o e=>q0o (q0M (low b o e))
        refine⟨fun b o e n1 n2 n3=>(sb7.2 b (nc b o e)).trans (b6.keep b o e n1 n2 n3),fun b o e n1 n2 n3=>?_,b6.free,fun b o e n3=>?_,b6.tups,b6.frzs,b6.tbls⟩
        ·obtain⟨sl,z⟩:=b6.slot b o e n1 n2 n3
         exact⟨sl,(sb7.2 b (nc b o e)).trans z⟩
        ·obtain⟨o',z⟩:=b6.there b o e n3
         exact⟨o',(sb7.2 b (nc b o e)).trans z⟩
   have hok7:HOk X.prog X.w H5 h7:=fun b u e=>by
        refine (I6.hok b u e).stay (fun c v hc' q=>(sb7.2 c fun z=>?_).trans q) (fun _ q=>q) fun _ _ q=>q
        have fC:H5 (D+1)=none:=I6.free
        subst z
        rcases hc' with z|z
        ·rw[←z,fC] at e;cases e
        ·rw[fC] at z;cases z
   have IX:=I2.call' (s':={s6 with heap:=h7}) (ch:=fp) I6.os un hok7 I6.bare fun b hb=>⟨(f2 b hb).2.2.2.1,(f2 b hb).2.1,(f2 b hb).2.2.2.2.1,(f2 b hb).2.2.2.2.2⟩
   exact⟨.ref D,H5,IX,rfl,qn⟩
  ·refine wpAny_mono (T.item Y rfl rfl rfl rfl i [] s5 σ5 H5 (fun _ _=>False) I5 (fY fr5) st5 go) (fun r s6 ⟨u,hr,h6⟩=>?_) fun _ _ z=>z.elim
   subst hr
   refine wpAny_bind (wpAny_mono h6 (fun _ s7 ⟨x,H7,I7,r7,y7,st7,fr7⟩=>?_) fun _ _ z=>z.elim)
   have I7':=I7.pinned (fY fr7) (T.obj _ _ st7)
   refine wpAny_bind (wpAny_mono (hg _ _ _ _ _ s7 σ5 H7 x u _ I7' r7 (step x H7 y7)) (fun _ s8 ⟨σ8,H8,I8,q8⟩=>?_) fun _ _ z=>z.elim)
   have again:∀{σ':St}{H':Hp}{s':Shared}{k:Nat},Inv Y ([]++z3z fp s7.heap) σ' H' s'→W (i+1) k σ' H'→∃i' σ'' H'',Inv Y [] σ'' H'' s'∧tn i' s'.heap∧(∀b∈fp,H'' b=none)∧W i' k σ'' H'':=fun {σ' H' s' k} I' w'=>by
        refine⟨i+1,σ',H',I'.unpinned,T.keep _ _ _ st7 fun b hb o e=>(I'.pin (b,o) (q0C _ (q0C _ (z0S hb e)))).1,fun b hb=>?_,w'⟩
        obtain⟨o,e,d⟩:=T.obj _ _ st7 b hb
        exact (I'.pin (b,o) (q0C _ (q0C _ (z0S hb e)))).2.1
   refine wpAny_bind (wpAny_mono (ht _ _ _ _ _ s8 σ8 H8 _ I8 q8) (fun ok s9 ⟨H9,I9,q9⟩=>?_) fun _ _ z=>z.elim)
   cases ok with
   |false=>
    obtain⟨m',hm',w'⟩:=q9
    exact wpAny_pure ⟨rfl,m',hm',again I9 w'⟩
   |true=>
    refine wpAny_bind (wpAny_bind (wpAny_mono (he _ _ _ _ _ s9 σ8 H9 _ I9 q9) (fun ev s10 ⟨v,H10,I10,r10,acc,m',hacc,hlen,hm',w'⟩=>?_) fun _ _ z=>z.elim))
    refine wpAny_bind (wpAny_mono (z1n (X:=Y) _ s10 σ8 H10 (.ref D) [v] (.ref D) [ev] (fun r H'=>r= .non ∧H'=upd H10 D (.lst (acc++[v]))) I10 rfl (.cons r10 .nil) ⟨D,acc,v,rfl,rfl,hacc,hlen,rfl,rfl⟩) (fun _ s11 ⟨_,H11,I11,_,_,e11⟩=>?_) fun _ _ z=>z.elim)
    subst e11
    exact wpAny_pure (wpAny_pure ⟨rfl,m',hm',again I11 w'⟩)
 exact codeAny_compStart_list (loop _ rfl) (T.self _ _ _ _ _ st4 (loop _ rfl))
theorem y3H {y:Str}{py spos:Pos}{jj:Nat} (hsw:swapsWith (.ListComp elt [⟨tg,iter,ifs,0⟩] scope pos) (some (.Name y py)) spos.line X.env=pure true) (hN:X.N.Nodup) (hj:X.N[jj]? =some y) (hx:Loc X.env.scope y) (hf:X.fn y=true∨X.env.scope.names.lookup y=some .local)
 (hc:X.calm=true) (hi:PI X tg iter wi) (hcl:closureFor scope X.env=pure cl) (hk:scope.kind= .function) (hnm:∀y∈scope.names,y.2= .local →scope.names.lookup y.1=some .local)
 (hall:∀n,(scope.names.all fun p=>(p.2 != .free &&p.2 != .cell) || ((cellsFrom n scope.names cl).lookup p.1).isSome)=true) (cc:CapC X.env cl) (cn:CapN X scope cl Nc fr) (hcap:CapL scope.names cl Nc fr)
 (hg:∀C s2 H2 fp,PG (z1p X Nc scope cl C s2 H2 fp) tg g) (ht:∀C s2 H2 fp,PTs (z1p X Nc scope cl C s2 H2 fp) ifs tt) (he:∀C s2 H2 fp,PE (z1p X Nc scope cl C s2 H2 fp) elt te)
 (hs:∀x,foldedSetIterable iter X.env x=pure x:=by intro _;rfl):PS X (.Assign [.Name y py] (.ListComp elt [⟨tg,iter,ifs,0⟩] scope pos) spos) (tAsg (y3r fr wi g tt te) (z6X jj)):=by
 intro pins s σ H Ds I h
 rw[exec_Assign_Name_used _ _ _ _ hsw]
 refine wpAny_bind (wpAny_standAt (wpAny_bind ?_))
 show wpAny _ X.A (do let _ ←comprehension (.ListComp elt [⟨tg,iter,ifs,0⟩] scope pos) scope X.env _ (newList []) false (eval iter X.env) (some (assign (.Name y py) X.env))) _ _ s
 refine wpAny_bind (wpAny_mono (wpAny_comprehension_free (use:=some (assign (.Name y py) X.env)) (Q:=fun _ s'=>SP X pins Ds .next s') rfl hs hcl hk hnm ?_) (fun _ s' hq=>wpAny_pure (wpAny_pure hq)) fun _ _ e=>e)
 refine wpAny_mono (hi pins s σ H _ I h) (fun xv s1 h1=>wpAny_mono h1 (fun itv s2 h2=>?_) fun _ _ e=>e) fun _ _ e=>e
 obtain⟨it,fp,tn,J,H2,rfl,I2,T,st2,f2,q2⟩:=h2
 obtain⟨W,⟨m0,w0⟩,turn⟩:=q2 s2.heap.objs.size (I2.hok.fresh (q0i _))
 refine wpAny_newObj_type (z6Z ?_)
 generalize hD:s2.heap.objs.size=D at*
 generalize hL:s2.heap.push {cls:= .type "list",dict:=none,data:= .seq ([]:List Value).toArray}=hl
 have hlsz:hl.objs.size=D+1:=by rw[←hL,q1l,hD]
 dsimp only
 have ns4:=(Heap.Ns.new hl (.type "dict")).keeps (pushCells_keeps scope.names (hl.push {cls:= .type "dict",data:= .dict #[]}))
 have ok4:=cellsFrom_ok scope.names (hl.push {cls:= .type "dict",data:= .dict #[]}) (D+1+1) [] ⟨fun _ _ hm=>(nomatch hm),List.Pairwise.nil⟩ (by rw[q1l,hlsz];exact q0i _)
 rw[q1l,hlsz] at ok4
 have kp0:∀b o,hl.get? b=some o→(pushCells (hl.push {cls:= .type "dict",data:= .dict #[]}) scope.names).get? b=some o:=fun b o e=>pushCells_keeps _ _ b o (q0d _ e)
 rw[hlsz] at ns4 ⊢
 generalize pushCells (hl.push {cls:= .type "dict",data:= .dict #[]}) scope.names=h4 at*
 have DC:D≠D+1:=q0o (Nat.lt_succ_self _)
 have low:∀b o,s2.heap.get? b=some o→b<D:=fun b o e=>by rw[←hD];exact q0t e
 have kp:∀b o,s2.heap.get? b=some o→h4.get? b=some o:=fun b o e=>kp0 b o (by rw[←hL];exact q0d _ e)
 have hD4:h4.get? D=some {cls:= .type "list",dict:=none,data:= .seq ([]:List Value).toArray}:=kp0 D _ (by rw[←hL,←hD];exact q0s _ rfl)
 have cm:∀x c,(cellsFrom (D+1+1) scope.names cl).lookup x=some c→((x,c)∈cellsFrom (D+1+1) scope.names []∧h4.IsCell c none∧D+1+1≤c)∨(X.env.cells.lookup x=some c∧c<D):=fun x c e=>by
  rcases z2o _ _ _ (mem_of_lookup e) with z|z
  ·exact .inl ⟨z,(ok4.empty x c z).1,(ok4.empty x c z).2⟩
  ·have e2:=cc.mem2 x c z
   obtain⟨v,oc,hoc,_⟩:=I2.cell x c e2
   exact .inr ⟨e2,low c oc hoc⟩
 have hn:H2 D=none:=by rw[←hD];exact I2.hok.fresh (q0i _)
 have hnC:H2 (D+1)=none:=I2.hok.fresh (by rw[hD];exact q1t _)
 let Y:=z1p X Nc scope cl (D+1) s2 H2 fp
 have ixv:∀b∈fp,b<D:=fun b hb=>by
  obtain⟨o,e,_⟩:=T.obj 0 _ st2 b hb
  exact low b o e
 have okY:Y.Ok:=by
  refine⟨I2.ok.mod,?_,I2.ok.glob,I2.ok.blt,?_,?_,?_,?_,fun _=>I2.ok.hd hc,I2.ok.frames,.inl rfl,?_,I2.bs,?_,?_,?_,I2.stack,I2.stkFree⟩
  ·exact hk
  ·show s2.heap.objs.size≤D+1
   lia
  ·intro x y c e1 e2
   rcases cm x c e1 with⟨z1,_,z2⟩|⟨z1,z2⟩<;>rcases cm y c e2 with⟨z3,_,z4⟩|⟨z3,z4⟩
   ·exact name_of_addr ok4.apart z1 z3
   ·exact absurd (q0y z4 (q0m (q1d D 2) z2)) (q1e _)
   ·exact absurd (q0y z2 (q0m (q1d D 2) z4)) (q1e _)
   ·exact I2.ok.inj x y c z1 z3
  ·intro x hx
   exact z2i (hall _) x hx
  ·intro x c e1 e2
   have:=z3b scope.names cl (D+1+1) (D+1+1) (q0i _) (eq_of_beq (show (scope.names.lookup x==some NameKind.cell)=true from e1)) e2
   exact q0m (show s2.heap.objs.size≤D+1+1 by rw[hD];exact q1d D 2) this
  ·intro b hb
   refine⟨fun z=>?_,fun x c e z=>?_⟩
   ·exact absurd z (q0o (q0M (ixv b hb)))
   ·exact (cm x c e).elim (fun q=>absurd (q0y (ixv b hb) (q0m (q1d D 2) (z▸q.2.2))) (q1e _)) fun q=>(f2 b hb).2.2.2.2.1 x c q.1 z
  ·exact q0m I2.ok.bsz I2.sz
  ·intro b o e hb
   have z:=(f2 b hb).2.2.2.1
   rcases z with z|z
   ·exact I2.ok.noex b o e z
   ·exact absurd (q0y (q0t (I2.ok.bs b o e).1) z) (q1e _)
  ·intro b hb z
   have e2:=q0n.mp (I2.stkSub b z)
   rcases e2 with e2|e2
   ·exact (f2 b hb).2.1 e2
   ·exact (f2 b hb).2.2.1 e2
 have IY:Inv Y [] (z0B fr σ) (upd H2 D (.lst [])) {s2 with heap:=h4}:=by
  refine⟨okY,rfl,I2.bare,⟨fun b o e n _ _=>kp b o e,fun b o e n _ _=>⟨o.slots,kp b o e⟩,fun b o e n _=>?_,fun b o e _=>⟨o,kp b o e⟩,fun b xs e=>?_,fun b o u e=>?_,fun b ps e=>⟨#[],?_⟩⟩,?_,fun x c e=>?_,?_,fun x c e=>?_,fun p hp=>?_,fun b u e=>?_,?_⟩
  ·rw[z0i (q0o (low b o e))];exact n
  ·rw[z0i (z0f e hn)];exact e
  ·rw[z0i (z0f e hn)];exact e
  ·rw[z0i (z0f e hn),show H2 b=_ from e];simp
  ·refine⟨_,ns4,fun j x v e1 e2 e3=>?_⟩
   have e2':(fr.map fun o=>o.bind fun k=>(σ[k]?).join)[j]? =some (some v):=e2
   rw[q0h] at e2'
   obtain⟨o,ho,hv⟩:=q0u.mp e2'
   cases o with
   |none=>cases hv
   |some k=>
    obtain⟨c1,c2,c3,c4⟩:=cn.at j x k e1 ho
    have hσ:σ[k]? =some (some v):=by
        have hv':(σ[k]?).join =some v:=hv
        cases z:σ[k]? with
        |none=>rw[z] at hv';cases hv'
        |some w'=>rw[z] at hv';exact congrArg some hv'
    obtain⟨m,hm,hlk⟩:=I2.loc
    obtain⟨u,r,lk⟩:=hlk k x v c1 hσ (.inr (.inl c2))
    refine⟨u,r,.inr ⟨.inl c4,?_⟩⟩
    rcases lk with⟨z,_⟩|⟨_,c,ec,oc,hoc,dc⟩
    ·rw[c2] at z;cases z
    ·obtain⟨c',ec'⟩:=q1x.mp c3
     have:=cc.mem x c' ec'
     rw[ec] at this;cases this
     exact⟨c,(hcap.at j x k e1 ho _).trans ec',oc,kp c oc hoc,dc⟩
  ·rcases cm x c e with⟨_,z,_⟩|⟨z,_⟩
   ·exact⟨none,z⟩
   ·obtain⟨v,oc,hoc,dc⟩:=I2.cell x c z
    exact⟨v,oc,kp c oc hoc,dc⟩
  ·show upd H2 D (.lst []) (D+1)=none
   rw[z0i (Ne.symm DC)];exact hnC
  ·rcases cm x c e with⟨_,_,z⟩|⟨z,z2⟩
   ·rw[z0i (Nat.ne_of_gt (q0y (q0M (Nat.lt_succ_self D)) z))]
    exact I2.hok.fresh (by rw[hD];exact q0m (q1d D 2) z)
   ·rw[z0i (q0o z2)]
    exact I2.freeC x c z
  ·simp[Y,z1p] at hp
  ·by_cases hb:b=D
   ·subst hb
    rw[z0b] at e;cases e
    exact⟨q0N _,[],_,.nil,hD4⟩
   ·rw[z0i hb] at e
    exact (I2.hok b u e).stay (fun c v _ q=>kp c v q) (fun c q=>by rw[z0i (z0f q hn)];exact q) fun c xs q=>by rw[z0i (z0f q hn)];exact q
  ·show (fr.map _).length =Nc.length
   rw[q0a];exact cn.length
 have fY:∀{H':Hp},(∀b∈fp,H' b=none)→∀b∈fp,y0u Y [] H' b:=fun {H'} hn' b hb=>by
  refine⟨hn' b hb,fun z=>?_,fun z=>?_,.inl hb,fun x c e z=>?_,fun p hp=>?_⟩
  ·exact absurd z (q0o (q0M (ixv b hb)))
  ·exact okY.exfs b hb z
  ·exact (cm x c e).elim (fun q=>absurd (q0y (ixv b hb) (q0m (q1d D 2) (z▸q.2.2))) (q1e _)) fun q=>(f2 b hb).2.2.2.2.1 x c q.1 z
  ·simp[Y,z1p] at hp
 have st4:tn 0 h4:=T.keep _ _ _ st2 fun b hb o e=>kp b o e
 have fr4:∀b∈fp,upd H2 D (.lst []) b=none:=fun b hb=>by
  rw[z0i (q0o (ixv b hb))]
  exact (f2 b hb).1
 have loop:∀s3:Shared,s3={s2 with heap:=h4}→
  codeAny (model X.prog X.w) X.A (.compLoop (.ListComp elt [⟨tg,iter,ifs,0⟩] scope pos) 0 (.ref it) (.ref D) (compEnvC scope (cellsFrom (D+1+1) scope.names cl) (D+1) X.env)) (compPost (model X.prog X.w) X.A X.xe (some (assign (.Name y py) X.env)) (fun _ s'=>SP X pins Ds .next s') (.ref D) (D+1)) s3:=by
  rintro s3 rfl
  refine codeAny_loop rfl (fun n s'=>∃i σ' H',Inv Y [] σ' H' s'∧tn i s'.heap∧(∀b∈fp,H' b=none)∧W i n σ' H') (fun n s5 hI=>?_) m0 ⟨0,_,_,IY,st4,fr4,w0⟩
  obtain⟨i,σ5,H5,I5,st5,fr5,w5⟩:=hI
  show wpAny _ X.A ((compTurn (.ListComp elt [⟨tg,iter,ifs,0⟩] scope pos) 0 (.ref it) (.ref D) (compEnvC scope (cellsFrom (D+1+1) scope.names cl) (D+1) X.env)).onRaise (fun x=>do noteFrame x (compEnvC scope (cellsFrom (D+1+1) scope.names cl) (D+1) X.env);theTreesLotGoes x)) _ _ s5
  refine wpAny_noted ?_
  rw[compTurn_list]
  refine wpAny_bind (wpAny_standAt (wpAny_bind ?_))
  rcases turn i n σ5 H5 w5 with⟨stop,qn⟩|⟨go,step⟩
  ·refine wpAny_mono (T.done Y rfl rfl rfl rfl i [] s5 σ5 H5 (fun _ _=>False) I5 (fY fr5) st5 stop) (fun r s6 ⟨hr,I6⟩=>?_) fun _ _ z=>z.elim
   subst hr
   refine wpAny_pure ?_
   obtain⟨m6,hm6,_⟩:=id I6.loc
   have sb7:Heap.SameBut (D+1) s6.heap s6.heap:=Heap.SameBut.refl ..
   have un:Un (frs X.stack) fp H2 H5 s2.heap s6.heap:=by
        have b6:=I6.base
        have nc:∀b o,s2.heap.get? b=some o→b≠D+1:=fun b o e=>q0o (q0M (low b o e))
        refine⟨fun b o e n1 n2 n3=>(sb7.2 b (nc b o e)).trans (b6.keep b o e n1 n2 n3),fun b o e n1 n2 n3=>?_,b6.free,fun b o e n3=>?_,b6.tups,b6.frzs,b6.tbls⟩
        ·obtain⟨sl,z⟩:=b6.slot b o e n1 n2 n3
         exact⟨sl,(sb7.2 b (nc b o e)).trans z⟩
        ·obtain⟨o',z⟩:=b6.there b o e n3
         exact⟨o',(sb7.2 b (nc b o e)).trans z⟩
   have hok7:HOk X.prog X.w H5 s6.heap:=fun b u e=>by
        refine (I6.hok b u e).stay (fun c v hc' q=>(sb7.2 c fun z=>?_).trans q) (fun _ q=>q) fun _ _ q=>q
        have fC:H5 (D+1)=none:=I6.free
        subst z
        rcases hc' with z|z
        ·rw[←z,fC] at e;cases e
        ·rw[fC] at z;cases z
   have IX:=I2.call' (s':={s6 with heap:=s6.heap}) (ch:=fp) I6.os un hok7 I6.bare fun b hb=>⟨(f2 b hb).2.2.2.1,(f2 b hb).2.1,(f2 b hb).2.2.2.2.1,(f2 b hb).2.2.2.2.2⟩
   have lx:X.env.locals<D:=by
        obtain⟨m,⟨o,_,_,ho,_⟩,_⟩:=I2.loc
        exact low _ o ho
   refine wpAny_assign_Name (z3T IX hN hj hx (show RelV (.ref D) (.ref D) from rfl) (fun s7 I7 ⟨a7,sa7,ha7⟩=>?_) hf)
   have al:a7<D:=by
        rcases ha7 with z|z
        ·rw[z];exact lx
        ·obtain⟨v,o,ho,_⟩:=I2.cell y a7 z
         exact low _ o ho
   refine⟨m6,hm6.sameBut sa7 (Ne.symm (q0o (q0M al))),fun h8 sb8=>?_⟩
   have I8:Inv X pins (σ.set jj (some (.ref D))) H5 {s7 with heap:=h8}:=I7.turned (t':=s7.toks) (it:=D+1) (fun b o hb e=>(sb8.2 b hb).trans e) I6.free (Ne.symm (q0o (q0M lx))) (.inr (by
    have:=I2.sz
    rw[hD] at this
    exact q1U this)) (fun x c e z=>by
    obtain⟨v,o,ho,_⟩:=I2.cell x c e
    have:=low _ o ho
    rw[z] at this
    exact absurd this (Nat.not_lt.mpr (q1t _))) (fun p hp z=>by
    have:=low _ _ (I2.pin p hp).1
    rw[z] at this
    exact absurd this (Nat.not_lt.mpr (q1t _)))
   exact⟨_,H5,I8,qn⟩
  ·refine wpAny_mono (T.item Y rfl rfl rfl rfl i [] s5 σ5 H5 (fun _ _=>False) I5 (fY fr5) st5 go) (fun r s6 ⟨u,hr,h6⟩=>?_) fun _ _ z=>z.elim
   subst hr
   refine wpAny_bind (wpAny_mono h6 (fun _ s7 ⟨x,H7,I7,r7,y7,st7,fr7⟩=>?_) fun _ _ z=>z.elim)
   have I7':=I7.pinned (fY fr7) (T.obj _ _ st7)
   refine wpAny_bind (wpAny_mono (hg _ _ _ _ _ s7 σ5 H7 x u _ I7' r7 (step x H7 y7)) (fun _ s8 ⟨σ8,H8,I8,q8⟩=>?_) fun _ _ z=>z.elim)
   have again:∀{σ':St}{H':Hp}{s':Shared}{k:Nat},Inv Y ([]++z3z fp s7.heap) σ' H' s'→W (i+1) k σ' H'→∃i' σ'' H'',Inv Y [] σ'' H'' s'∧tn i' s'.heap∧(∀b∈fp,H'' b=none)∧W i' k σ'' H'':=fun {σ' H' s' k} I' w'=>by
        refine⟨i+1,σ',H',I'.unpinned,T.keep _ _ _ st7 fun b hb o e=>(I'.pin (b,o) (q0C _ (q0C _ (z0S hb e)))).1,fun b hb=>?_,w'⟩
        obtain⟨o,e,d⟩:=T.obj _ _ st7 b hb
        exact (I'.pin (b,o) (q0C _ (q0C _ (z0S hb e)))).2.1
   refine wpAny_bind (wpAny_mono (ht _ _ _ _ _ s8 σ8 H8 _ I8 q8) (fun ok s9 ⟨H9,I9,q9⟩=>?_) fun _ _ z=>z.elim)
   cases ok with
   |false=>
    obtain⟨m',hm',w'⟩:=q9
    exact wpAny_pure ⟨rfl,m',hm',again I9 w'⟩
   |true=>
    refine wpAny_bind (wpAny_bind (wpAny_mono (he _ _ _ _ _ s9 σ8 H9 _ I9 q9) (fun ev s10 ⟨v,H10,I10,r10,acc,m',hacc,hlen,hm',w'⟩=>?_) fun _ _ z=>z.elim))
    refine wpAny_bind (wpAny_mono (z1n (X:=Y) _ s10 σ8 H10 (.ref D) [v] (.ref D) [ev] (fun r H'=>r= .non ∧H'=upd H10 D (.lst (acc++[v]))) I10 rfl (.cons r10 .nil) ⟨D,acc,v,rfl,rfl,hacc,hlen,rfl,rfl⟩) (fun _ s11 ⟨_,H11,I11,_,_,e11⟩=>?_) fun _ _ z=>z.elim)
    subst e11
    exact wpAny_pure (wpAny_pure ⟨rfl,m',hm',again I11 w'⟩)
 exact codeAny_compStart_list (loop _ rfl) (T.self _ _ _ _ _ st4 (loop _ rfl))
end
end L2
namespace L2
open PySem PySem.Spec PyProof.Rows
section
variable {X:Cx}{K:PySem.W.Frag}
def cSum (K:PySem.W.Frag):List V→Hp→VK→Prop:=fun xs H Q=>∃(p:Addr) (ns:List Int),xs=[.ref p]∧SqL K H p (ns.map V.int)∧Q (.int ns.sum) H
theorem y2T (hK:X.K=K) (hc:X.calm=true):z1A X (.builtin "sum") (cSum K):=by
 subst hK
 intro pins s σ H xs us Q I r h
 obtain⟨p,ns,rfl,hq,q⟩:=h
 obtain⟨u,rfl,rx⟩:=r.one
 cases rx
 obtain⟨its,r',pl,hz⟩:=I.list hq
 have hi:=z4z r'
 have hl:=pl.isList
 have hn:numsOf its.toArray.toList=ns:=by rw[show its.toArray.toList=its from rfl,hi.numsOf]
 obtain⟨zs,e⟩:=hi.allInts.items
 rw[e] at hl hn
 rw[nums_intItems] at hn
 refine sum_intListG (I.ok.hd hc) hl fun h' tk t' hk=>?_
 refine⟨.int ns.sum,H,I.kept (t':=tk) hk,⟨t',?_⟩,q⟩
 rw[preSum_eq,List.take_of_length_le (by simp)]
 rw[←hn]
end
end L2
namespace L2
open PySem PySem.Spec PyProof.Rows
section
variable {X:Cx}
def rgV (n:Nat):List V:=(List.range n).map fun i=>V.int ((0:Int)+(i:Nat))
def cRng1:List V→Hp→VK→Prop:=fun xs H Q=>∃n:Int,xs=[.int n]∧∀p,H p=none→Q (.ref p) (upd H p (.rng 0 n))
theorem y2U:z1A X (.type "range") cRng1:=by
 intro pins s σ H xs us Q I r h
 obtain⟨n,rfl,q⟩:=h
 obtain⟨u,rfl,rx⟩:=r.one
 obtain⟨t,rfl⟩:=rx
 refine call_range_1 ?_
 refine⟨.ref s.heap.objs.size,_,I.laid (o:= .rng 0 n) (fun b o e=>q0d _ e) (q0i _) ?_,rfl,q _ (I.hok.fresh (q0i _))⟩
 exact⟨_,_,_,q0s _ rfl⟩
def y7T:List V→Hp→VK→Prop:=fun xs H Q=>∃(p:Addr) (n:Nat),xs=[.ref p]∧H p=some (.rng 0 (n:Nat))∧n≤1000∧∀l,H l=none→Q (.ref l) (upd H l (.lst (rgV n)))
theorem y5A {acc:Array Value}{n:Nat} (h:ItemsOf (fun i v=>∃t,v=Value.int (0+(i:Int)*1) t) acc n):Vals (rgV n) acc.toList:=by
 obtain⟨hl,hi⟩:=h
 have gen:∀(k:Nat) (us:List Value),us.length=k→(∀(i:Nat) (hi:i<us.length),∃t,us[i]=Value.int (0+(i:Int)*1) t)→Vals (rgV k) us:=by
  intro k
  induction k with
  |zero=>
   intro us h _
   have:us=[]:=q0Y.mp h
   subst this
   exact .nil
  |succ k ih=>
   intro us h hx
   obtain⟨vs,x,rfl⟩:∃vs x,us=vs++[x]:=⟨us.dropLast,us.getLast (fun z=>by rw[z] at h;cases h),(q0Q _).symm⟩
   have hk:vs.length=k:=by rw[q0k] at h;simpa using h
   have e:rgV (k+1)=rgV k++[V.int ((0:Int)+(k:Nat))]:=by unfold rgV;rw[List.range_succ,List.map_append];rfl
   rw[e]
   refine Vals.append (ih vs hk fun i hi=>?_) (.cons ?_ .nil)
   ·obtain⟨t,ht⟩:=hx i (by rw[q0k];lia)
    exact⟨t,by rw[←ht,List.getElem_append_left hi]⟩
   ·obtain⟨t,ht⟩:=hx k (by rw[q0k];simp[hk])
    rw[List.getElem_append_right (by lia)] at ht
    refine⟨t,?_⟩
    have:x=Value.int (0+(k:Int)*1) t:=by simpa[hk] using ht
    rw[this];simp
 exact gen n acc.toList (by simpa using hl) fun i h=>by
  have:=hi i acc.toList[i] (by rw[←Array.getElem?_toList,q0c h])
  exact this
theorem y0m (hc:X.calm=true):z1A X (.type "list") y7T:=by
 intro pins s σ H xs us Q I r h
 obtain⟨p,n,rfl,hp,hn,q⟩:=h
 obtain⟨u,rfl,rx⟩:=r.one
 cases rx
 obtain⟨t,u,v,ho⟩:=I.hok p _ hp
 have hz:sizeLine=16777216:=sizeLine_eq
 refine call_list_range (n:=n) (I.ok.hd hc) ho (small_one (by lia) (by lia) (by lia) (by lia)) (by rw[rangeSize_one];split<;>lia) (q0m hn (by decide)) fun h' tk acc' c' kp e it=>?_
 have rv:=y5A it
 refine⟨.ref s.heap.objs.size,_,I.laid (o:= .lst (rgV n)) (t':=tk) kp (q0i _) ?_,rfl,q _ (I.hok.fresh (q0i _))⟩
 exact⟨by unfold rgV;rw[List.length_map,List.length_range];lia,acc'.toList,c',rv,by simpa using e⟩
end
end L2
namespace L2
open PySem PySem.Spec PyProof.Rows
section
variable {κ:Type} [DecidableEq κ]
def y5q (kvs:List (κ×V)) (k:κ):Option V:=(kvs.find? fun kv=>decide (kv.1=k)).map (·.2)
def z9K (kvs:List (κ×V)) (k:κ) (v:V):List (κ×V):=
 if (kvs.any fun kv=>decide (kv.1=k))=true then kvs.map (fun kv=>if kv.1=k then (kv.1,v) else kv) else kvs++[(k,v)]
theorem z8l {p:κ×V}{r:List (κ×V)}{k:κ} (e:p.1=k):y5q (p::r) k=some p.2:=by simp[y5q,List.find?_cons,e]
theorem z8m {p:κ×V}{r:List (κ×V)}{k:κ} (e:¬p.1=k):y5q (p::r) k=y5q r k:=by simp[y5q,List.find?_cons,e]
theorem z8n (k:κ):∀kvs:List (κ×V),(kvs.any fun kv=>decide (kv.1=k))=(y5q kvs k).isSome
 |[]=>rfl
 |p::r=>by
  rw[List.any_cons]
  by_cases e:p.1=k
  ·simp only[z8l e,decide_eq_true e,Bool.true_or,Option.isSome_some]
  ·rw[z8m e,decide_eq_false e,Bool.false_or];exact z8n k r
theorem z4w (kvs:List (κ×V)) (k:κ) (v:V):(z9K kvs k v).length ≤kvs.length+1:=by
 unfold z9K
 split
 ·rw[q0a];lia
 ·rw[q0k,q0J,List.length_nil];lia
theorem RelO.isSome_eq {o:Option V}{u:Option Value} (r:RelO o u):o.isSome=u.isSome:=by
 cases o with
 |none=>cases u with
  |none=>rfl
  |some _=>exact (show False from r).elim
 |some _=>cases u with
  |none=>exact (show False from r).elim
  |some _=>rfl
theorem KV.any {kvs:List (κ×V)}{vs:List (κ×Value)} (r:KV kvs vs) (k:κ):(kvs.any fun kv=>decide (kv.1=k))=vs.any fun kv=>decide (kv.1=k):=by
 unfold KV at r
 induction r with
 |nil=>rfl
 |cons h t ih=>rw[List.any_cons,List.any_cons,ih,h.1]
theorem KV.repl {kvs:List (κ×V)}{vs:List (κ×Value)} (r:KV kvs vs) (k:κ) {y:V}{u:Value} (ry:RelV y u):
 KV (kvs.map fun kv=>if kv.1=k then (kv.1,y) else kv) (vs.map fun kv=>if kv.1=k then (kv.1,u) else kv):=by
 unfold KV at r ⊢
 induction r with
 |nil=>exact .nil
 | @cons p q ps qs h t ih=>
   rw[q0q,q0q]
   refine .cons ?_ ih
   obtain⟨h1,h2⟩:=h
   by_cases e:p.1=k
   ·rw[if_pos e,if_pos (h1.symm.trans e)];exact⟨h1,ry⟩
   ·rw[if_neg e,if_neg (fun z=>e (h1.trans z))];exact⟨h1,h2⟩
theorem KV.put {kvs:List (κ×V)}{vs:List (κ×Value)} (r:KV kvs vs) (k:κ) {y:V}{u:Value} (ry:RelV y u):KV (z9K kvs k y) (stored vs k u):=by
 unfold z9K stored
 rw[r.any k]
 by_cases e:(vs.any fun kv=>decide (kv.1=k))=true
 ·rw[if_pos e,if_pos e];exact r.repl k ry
 ·rw[if_neg e,if_neg e];exact Paired.snoc r ⟨rfl,ry⟩
theorem KV.length {kvs:List (κ×V)}{vs:List (κ×Value)} (r:KV kvs vs):kvs.length=vs.length:=Paired.length r
end
theorem y7C {P:Program}{w:World}{k:Key}{u:Value} (r:RelV (kV k) u):(z1l P w).is k u=true:=by
 cases k with
 |inl i=>obtain⟨t,e⟩:=(show ∃t,u=Value.int i t from r);subst e;exact z8a P w i t
 |inr x=>obtain⟨t,e⟩:=(show ∃t,u=Value.str x t from r);subst e;exact z7Z P w x t
theorem z6U {P:Program}{w:World}:∀{ks:List Key}{us:List Value},Vals (ks.map kV) us→ItemsAre (z1l P w) ks us
 |[],_,r=>by rw[List.map_nil] at r;cases r;exact .nil
 |k::ks,_,r=>by
  rw[q0q] at r
  cases r with
  |cons h t=>exact .cons (y7C h) (z6U t)
abbrev KT (H:Hp):List (List Key×V)→List (List Key×Addr×Value)→Prop:=Paired fun p q=>p.1=q.1∧H q.2.1=some (.tup (p.1.map kV))∧RelV p.2 q.2.2
theorem KT.val {H:Hp}{kvs:List (List Key×V)}{xs:List (List Key×Addr×Value)} (r:KT H kvs xs) (k:List Key):RelO (y5q kvs k) ((atKey xs k).map (·.2)):=by
 induction r with
 |nil=>exact True.intro
 | @cons p q ps qs h t ih=>
   obtain⟨h1,_,h2⟩:=h
   by_cases e:p.1=k
   ·have e':q.1=k:=h1.symm.trans e
    have b:atKey (q::qs) k=some q.2:=by simp[atKey,List.find?_cons,e']
    rw[z8l e,b];exact h2
   ·have e':¬q.1=k:=fun z=>e (h1.trans z)
    have b:atKey (q::qs) k=atKey qs k:=by simp[atKey,List.find?_cons,e']
    rw[z8m e,b];exact ih
theorem KT.repl {H:Hp}{kvs:List (List Key×V)}{xs:List (List Key×Addr×Value)} (r:KT H kvs xs) (k:List Key) {y:V}{u:Value} (ry:RelV y u):
 KT H (kvs.map fun kv=>if kv.1=k then (kv.1,y) else kv) (xs.map (putAt k u)):=by
 induction r with
 |nil=>exact .nil
 | @cons p q ps qs h t ih=>
   rw[q0q,q0q]
   refine .cons ?_ ih
   obtain⟨h1,h2,h3⟩:=h
   unfold putAt
   by_cases e:p.1=k
   ·rw[if_pos e,if_pos (h1.symm.trans e)];exact⟨h1,h2,ry⟩
   ·rw[if_neg e,if_neg (fun z=>e (h1.trans z))];exact⟨h1,h2,h3⟩
theorem KT.put {H:Hp}{kvs:List (List Key×V)}{xs:List (List Key×Addr×Value)} (r:KT H kvs xs) (k:List Key) {b:Addr}{y:V}{u:Value} (hb:H b=some (.tup (k.map kV))) (ry:RelV y u):
 KT H (z9K kvs k y) (storedH xs k b u):=by
 have e:(kvs.any fun kv=>decide (kv.1=k))=(atKey xs k).isSome :=by
  rw[z8n,(r.val k).isSome_eq,Option.isSome_map]
 unfold z9K storedH
 rw[e]
 by_cases q:(atKey xs k).isSome =true
 ·rw[if_pos q,if_pos q];exact r.repl k ry
 ·rw[if_neg q,if_neg q];exact Paired.snoc r ⟨rfl,hb,ry⟩
theorem KT.keeps {H H':Hp}{kvs:List (List Key×V)}{xs:List (List Key×Addr×Value)} (r:KT H kvs xs) (ht:∀b ys,H b=some (.tup ys)→H' b=some (.tup ys)):KT H' kvs xs:=
 Paired.mapP r fun _ _ z=>⟨z.1,ht _ _ z.2.1,z.2.2⟩
section
variable {P:Program}{w:World}{H:Hp}{h:Heap}{a:Addr}
theorem y7a {u:HO} (ok:HOk P w H h) (e:Rd H a u):ObjOk P w H h a u:=e.ok ok
theorem dk_rd {kvs:List (Key×V)} (ok:HOk P w H h) (e:Rd H a (.dK kvs)):kvs.length≤sizeLine∧(a==sysModules)=false∧∃vs,KV kvs vs∧h.DictOf (z1l P w) a vs:=
 show ObjOk P w H h a (.dK kvs) from y7a ok e
theorem dk_of {kvs:List (Key×V)} (ok:HOk P w H h) (e:H a=some (.dK kvs)):kvs.length≤sizeLine∧(a==sysModules)=false∧∃vs,KV kvs vs∧h.DictOf (z1l P w) a vs:=dk_rd ok (.inl e)
theorem y4X {ks:List Key} (ok:HOk P w H h) (e:H a=some (.tup (ks.map kV))):(tupleKind (z1l P w)).is h ks a:=by
 obtain⟨_,its,r,o,h1,h2,n,h3⟩:=(show ObjOk P w H h a (.tup (ks.map kV)) from ok a _ e)
 exact⟨o,its.toArray,n,h1,h2,h3,by simpa using z6U r⟩
theorem dt_rd {kvs:List (List Key×V)} (ok:HOk P w H h) (e:Rd H a (.dT kvs)):kvs.length≤sizeLine∧(a==sysModules)=false∧
 ∃xs,KT H kvs xs∧h.DictOfH (tupleKind (z1l P w)) a xs:=by
 obtain⟨z,y,xs,r,o,es,ep,h1,h2,h3,h4,h5⟩:=(show ObjOk P w H h a (.dT kvs) from y7a ok e)
 refine⟨z,y,xs,r,o,es,ep,h1,h2,h3,h4,fun x hx=>?_,h5⟩
 have all:∀{l:List (List Key×V)}{m:List (List Key×Addr×Value)},KT H l m→∀x∈m,(tupleKind (z1l P w)).is h x.1 x.2.1:=by
  intro l m q
  induction q with
  |nil=>intro x hx;exact nomatch hx
  | @cons p q ps qs hq t ih=>
    intro x hx
    rcases q0n.mp hx with e|hx
    ·subst e
     exact y4X ok (by rw[←hq.1];exact hq.2.1)
    ·exact ih x hx
 exact all r x hx
theorem y7N {kvs:List (List Key×V)} (ok:HOk P w H h) (e:H a=some (.dT kvs)):kvs.length≤sizeLine∧(a==sysModules)=false∧
 ∃xs,KT H kvs xs∧h.DictOfH (tupleKind (z1l P w)) a xs:=dt_rd ok (.inl e)
end
def DPut (H:Hp) (a:Addr) (y v:V) (H':Hp):Prop:=
 (∃kvs k,H a=some (.dK kvs)∧y=kV k∧kvs.length<sizeLine∧H'=upd H a (.dK (z9K kvs k v)))∨
 ∃kvs k b,H a=some (.dT kvs)∧y= .ref b∧H b=some (.tup (k.map kV))∧kvs.length<sizeLine∧H'=upd H a (.dT (z9K kvs k v))
theorem DPut.t {H:Hp}{a b:Addr}{kvs:List (List Key×V)}{k:List Key}{v:V} (e:H a=some (.dT kvs)) (eb:H b=some (.tup (k.map kV))) (hl:kvs.length<sizeLine):
 DPut H a (.ref b) v (upd H a (.dT (z9K kvs k v))):= .inr ⟨kvs,k,b,e,rfl,eb,hl,rfl⟩
section
variable {X:Cx}{pins:List (Addr×Obj)}{σ:St}{H:Hp}{s:Shared}{a:Addr}{y v:V}{u r:Value}{o:Option V}{A:Around}{E:Value→Shared→Prop}
theorem Inv.big (I:Inv X pins σ H s):sysModules<s.heap.objs.size:=by
 have h:mainGlobals<s.heap.objs.size:=(I.mod.glob.keeps I.bk).lt
 exact Nat.lt_trans (by decide) h
theorem y2M {h':Heap}{t':Nat}{ob:HO} (I:Inv X pins σ H s) (mu:Mut (H a)) (hs:Heap.SameBut a s.heap h') (he:∃q,h'.get? a=some q) (new:ObjOk X.prog X.w (upd H a ob) h' a ob):
 Inv X pins σ (upd H a ob) {s with heap:=h',toks:=t'}:=
 I.write (x:=a) (e:=a) mu (.inl rfl) (fun b q hb z=>(hs.2 b hb).trans z) he new
theorem y7O {P:Program}{w:World}{H':Hp}{h':Heap}{kvs:List (Key×V)}{vs:List (Key×Value)} (z:kvs.length≤sizeLine) (hd:(a==sysModules)=false) (rel:KV kvs vs) (dd:h'.DictOf (z1l P w) a vs):
 ObjOk P w H' h' a (.dK kvs):=⟨z,hd,vs,rel,dd⟩
theorem y2N {H':Hp}{Q:Unit→Shared→Prop} (hu:A.units+1<cLine) (I:Inv X pins σ H s) (g:DPut H a y v H') (ry:RelV y u) (rv:RelV v r) (h:∀s',Inv X pins σ H' s'→Q () s'):
 wpAny (model X.prog X.w) A (setItem (.ref a) u r) Q E s:=by
 rcases g with⟨kvs,k,e,ey,l,eH⟩|⟨kvs,k,b,e,ey,eb,l,eH⟩
 ·subst ey eH
  obtain⟨z,hd,vs,rel,dd⟩:=dk_of I.hok e
  have hz:vs.length≤sizeLine:=by rw[←rel.length];exact z
  have hl:(z9K kvs k v).length ≤sizeLine:=by have:=z4w kvs k v;lia
  refine wpAny_setItem_pairs (hsz:=hz) (y7C ry) dd fun h' dd' hs=>h _ ?_
  have he:∃q,h'.get? a=some q:=let ⟨q,_,_,hq,_⟩:=dd';⟨q,hq⟩
  exact y2M I (by rw[e];exact True.intro) hs he (y7O hl hd (rel.put k rv) dd')
 ·subst ey eH
  cases (show u=Value.ref b from ry)
  obtain⟨z,hd,xs,rel,dd⟩:=y7N I.hok e
  have hz:xs.length≤sizeLine:=by rw[←Paired.length rel];exact z
  have hl:(z9K kvs k v).length ≤sizeLine:=by have:=z4w kvs k v;lia
  refine wpAny_setItem_heap (hsz:=hz) (tupleKind_room_in1 hu) (y4X I.hok eb) dd fun h' dd' hs=>h _ ?_
  obtain⟨q,es,ep,hq,h2,h3,h4,_,h5⟩:=dd'
  refine y2M I (by rw[e];exact True.intro) hs ⟨q,hq⟩ ⟨hl,hd,_,(rel.put k eb rv).keeps fun c ys ec=>?_,q,es,ep,hq,h2,h3,h4,h5⟩
  rw[z0i (ne_of ec e (fun z=>nomatch z))]
  exact ec
end
section
variable {X:Cx}{pins:List (Addr×Obj)}{σ:St}{H:Hp}{s:Shared}{a:Addr}{kvs:List (Key×V)}{k:Key}{u:Value}{A:Around}{E:Value→Shared→Prop}
end
def sDPut (td ty tv:TE):TS:=fun D σ H=>tv σ H fun v H1=>td σ H1 fun x H2=>ty σ H2 fun y H3=>∃a H4,x= .ref a∧DPut H3 a y v H4∧D.nx σ H4
section
variable {X:Cx}{o i e value:Expr}{pos pos' tpos:Pos}{td ty tv:TE}
theorem y5D (hu:X.A.units+1<cLine) (ho:PE X o td) (hi:PE X i ty) (hv:PE X value tv) (hs:swapsWith value (some (.Subscript o i pos')) pos.line X.env=pure false):
 PS X (.Assign [.Subscript o i pos'] value pos) (sDPut td ty tv):=by
 intro pins s σ H D I h
 refine wpAny_Assign_Subscript (thn (hv pins s σ H _ I h) fun r s1 ⟨v,H1,I1,rv,q1⟩=>thn (ho pins s1 σ H1 _ I1 q1) fun u s2 ⟨x,H2,I2,rx,q2⟩=>thn (hi pins s2 σ H2 _ I2 q2) fun iv s3 ⟨y,H3,I3,ry,a,H4,ex,g,q3⟩=>?_) hs
 subst ex
 obtain rfl:u=Value.ref a:=rx
 exact y2N hu I3 g ry rv fun s4 I4=>⟨σ,H4,I4,q3⟩
end
theorem y4r {P:Program}{w:World}{H:Hp} (h:Heap) (hb:sysModules<h.objs.size):ObjOk P w H (h.push {cls:= .type "dict",data:= .dict #[]}) h.objs.size (.dT []):=
 ⟨q0N _,beq_eq_false_iff_ne.mpr (Ne.symm (q0o hb)),[],.nil,_,#[],0,q0s _ rfl,⟨rfl,rfl,rfl⟩,rfl,rfl,List.nodup_nil⟩
def y6Q:TE:=fun _ H Q=>∀p,H p=none→Q (.ref p) (upd H p (.dT []))
section
variable {X:Cx}{pos:Pos}
theorem y3M:PE X (.Dict [] [] pos) y6Q:=fun pins s σ H Q I h=>
 wpAny_Dict_empty ⟨.ref s.heap.objs.size,_,I.laid (a:=s.heap.objs.size) (o:= .dT []) (t':=s.toks) (fun _ _ q=>q0d _ q) (q0i _) (y4r s.heap I.big),rfl,h _ (I.hok.fresh (q0i _))⟩
end
end L2
namespace L2
open PySem PySem.Spec PyProof.Rows
section
theorem y3s {M:Model}{A:Around}{E:Value→Shared→Prop}{s:Shared}{Q:Value→Shared→Prop}
 (q:∀(h':Heap) (e:Addr),(∀b o,s.heap.get? b=some o→h'.get? b=some o)→(∃oe,h'.get? e=some oe∧oe.cls= .type "StopIteration")→Q (.ref e) {s with heap:=h'}):
 wpAny M A (newExc (Value.type "StopIteration") []) Q E s:=by
 rw[newExc.eq_1]
 obtain⟨hp,g,d,tk,os⟩:=s
 unfold newTuple
 refine wpAny_bind (wpAny_newObj_type ?_ (by size_fits))
 have:firstArgMember (Value.type "StopIteration") []=pure Value.none:=by
  with_unfolding_all rfl
 rw[this]
 refine wpAny_bind (wpAny_pure ?_)
 refine wpAny_newObj_type ?_ (by size_fits)
 refine q _ _ (fun b o e=>q0d _ (q0d _ e)) ⟨_,q0s _ rfl,rfl⟩
variable {prog:Program}{w:World}{A:Around}{E:Value→Shared→Prop}{s:Shared}{it d:Addr}{i n ep:Nat}{o:Obj}{es:Array DictEntry}{e:DictEntry}
section
variable {Q:Option Value→Shared→Prop}
theorem y4h (hI:s.heap.IsKeyIter it d i n ep) (hd:s.heap.get? d=some o) (ho:o.data= .dict es ep) (hn:es.size=n) (he:es[i]? =some e)
 (q:∀h',h'.IsKeyIter it d (i+1) n ep→Heap.ExtBut it s.heap h'→Q (some e.key) {s with heap:=h'}):wpAny (model prog w) A (pyNext (.ref it)) Q E s:=by
 unfold pyNext
 refine wpAny_bind (wpAny_attempt (wpAny_callSpecial?_slot hI.typeIs F.slot_dict_keyiterator_next (call_meetsIn F.slot_dict_keyiterator_next hI.typeIs F.entry_dict_keyiterator_next (F.args_dict_keyiterator_next_1 _) (S:=fun A R s=>wpAny (model prog w) A.in1 (Builtin.«dict_keyiterator.__next__» {pos:=[Value.ref it]}) (fun fin s'=>
  match fin with
  |Fin.done f=>R (Except.ok f) s'
  |Fin.again c'=>c'.quiet=true∧codeAny (model prog w) A c' R s')
        (fun e s'=>R (Except.error e) s') s) (fun _ _ _ h=>h) ?_)))
 obtain⟨oi,h1,h2,h3⟩:=hI
 have hT:s.TypeIs (Value.ref it) "dict_keyiterator":=Heap.IsKeyIter.typeIs (d:=d) (i:=i) (n:=n) (ep:=ep) ⟨oi,h1,h2,h3⟩
 show wpAny _ _ (Builtin.Dict_items.slot0 "__next__" {pos:=[Value.ref it]}>>= _) _ _ s
 refine wpAny_bind ?_
 show wpAny _ _ (pure (Value.ref it)) _ _ s
 refine wpAny_pure ?_
 refine wpAny_bind ?_
 have hbase:∀{s:Shared}{Q:Nat→Shared→Prop}{E:Value→Shared→Prop},s.TypeIs (Value.ref it) "dict_keyiterator"→Q 0 s→wpAny (model prog w) A.in1 (typeNameOfWhole (Value.ref it)>>= fun n=>pure (if Builtin.Dict_items.ownsTuple n=true then 2 else 0)) Q E s:=fun hT q=>
  wpAny_bind (wpAny_typeNameOfWhole_keyiter hT (wpAny_pure q))
 show wpAny _ _ ((typeNameOfWhole (Value.ref it)>>= fun n=>pure (if Builtin.Dict_items.ownsTuple n=true then 2 else 0))>>= _) _ _ s
 refine wpAny_bind (hbase hT ?_)
 refine wpAny_bind (wpAny_fieldsOf h1 h3 ?_)
 show wpAny _ _ (Builtin.Dict_items.addrOf (Value.ref d)>>= _) _ _ s
 refine wpAny_bind (wpAny_pure ?_)
 refine wpAny_bind (wpAny_dictEntries hd ho ?_)
 dsimp only
 rw[if_neg (by rw[hn];simp)]
 refine wpAny_bind (wpAny_pure ?_)
 refine wpAny_bind (wpAny_dictEpoch hd ho ?_)
 rw[if_neg (by simp)]
 refine wpAny_pure ?_
 dsimp only
 rw[if_neg (by lia),q0E,he]
 dsimp only
 refine wpAny_bind (hbase hT ?_)
 refine wpAny_bind (wpAny_isOneOf_keyiter hT ?_)
 rw[if_neg (by decide)]
 have hsz:0+1<(#[Value.ref d,Value.int (i:Int) 0,Value.int (n:Int) 0,Value.int (ep:Int) 0]:Array Value).size :=(by show 0+1<4;decide)
 refine wpAny_bind (wpAny_setField h1 h3 hsz ?_)
 have m1:=z6Q h3 (·.setIfInBounds (0+1) (rawInt ((i:Int)+1)))
 have e2:(s.heap.update it (Obj.mapFields (·.setIfInBounds (0+1) (rawInt ((i:Int)+1))))).get? it=some {oi with data:= .fields #[Value.ref d,Value.int ((i+1:Nat):Int) 0,Value.int (n:Int) 0,Value.int (ep:Int) 0]}:=by
  have:=Heap.get?_update_self (Obj.mapFields (·.setIfInBounds (0+1) (rawInt ((i:Int)+1)))) h1 (Obj.isFreed_of_fields (Obj.data_mapFields h3 _))
  rw[m1] at this
  exact this
 have kI:(s.heap.update it (Obj.mapFields (·.setIfInBounds (0+1) (rawInt ((i:Int)+1))))).IsKeyIter it d (i+1) n ep:=⟨_,e2,h2,rfl⟩
 have sb:Heap.ExtBut it s.heap (s.heap.update it (Obj.mapFields (·.setIfInBounds (0+1) (rawInt ((i:Int)+1))))):=fun b u hb e=>by rw[q1n _ _ (Ne.symm hb)];exact e
 refine wpAny_bind (wpAny_holding ?_)
 show wpAny _ _ (Builtin.Dict_items.isOneOf (Value.ref it) ["dict_keyiterator","dict_reversekeyiterator"]>>= _) _ _ _
 refine wpAny_bind (wpAny_isOneOf_keyiter kI.typeIs ?_)
 rw[if_pos (by decide)]
 refine wpAny_pure ?_
 refine wpAny_pure ?_
 refine wpAny_pure ?_
 exact q _ kI sb
theorem y6g (hI:s.heap.IsKeyIter it d i n ep) (hd:s.heap.get? d=some o) (ho:o.data= .dict es ep) (hn:es.size=n) (he:es[i]? =none) (hh:A.handled=none)
 (q:∀h',Heap.ExtBut it s.heap h'→Q none {s with heap:=h'}):wpAny (model prog w) A (pyNext (.ref it)) Q E s:=by
 unfold pyNext
 refine wpAny_bind (wpAny_attempt (wpAny_callSpecial?_slot hI.typeIs F.slot_dict_keyiterator_next (call_meetsIn F.slot_dict_keyiterator_next hI.typeIs F.entry_dict_keyiterator_next (F.args_dict_keyiterator_next_1 _) (S:=fun A R s=>wpAny (model prog w) A.in1 (Builtin.«dict_keyiterator.__next__» {pos:=[Value.ref it]}) (fun fin s'=>
  match fin with
  |Fin.done f=>R (Except.ok f) s'
  |Fin.again c'=>c'.quiet=true∧codeAny (model prog w) A c' R s')
        (fun e s'=>R (Except.error e) s') s) (fun _ _ _ h=>h) ?_)))
 obtain⟨oi,h1,h2,h3⟩:=hI
 have hT:s.TypeIs (Value.ref it) "dict_keyiterator":=Heap.IsKeyIter.typeIs (d:=d) (i:=i) (n:=n) (ep:=ep) ⟨oi,h1,h2,h3⟩
 show wpAny _ _ (Builtin.Dict_items.slot0 "__next__" {pos:=[Value.ref it]}>>= _) _ _ s
 refine wpAny_bind ?_
 show wpAny _ _ (pure (Value.ref it)) _ _ s
 refine wpAny_pure ?_
 refine wpAny_bind ?_
 have hbase:∀{s:Shared}{Q:Nat→Shared→Prop}{E:Value→Shared→Prop},s.TypeIs (Value.ref it) "dict_keyiterator"→Q 0 s→wpAny (model prog w) A.in1 (typeNameOfWhole (Value.ref it)>>= fun n=>pure (if Builtin.Dict_items.ownsTuple n=true then 2 else 0)) Q E s:=fun hT q=>
  wpAny_bind (wpAny_typeNameOfWhole_keyiter hT (wpAny_pure q))
 show wpAny _ _ ((typeNameOfWhole (Value.ref it)>>= fun n=>pure (if Builtin.Dict_items.ownsTuple n=true then 2 else 0))>>= _) _ _ s
 refine wpAny_bind (hbase hT ?_)
 refine wpAny_bind (wpAny_fieldsOf h1 h3 ?_)
 show wpAny _ _ (Builtin.Dict_items.addrOf (Value.ref d)>>= _) _ _ s
 refine wpAny_bind (wpAny_pure ?_)
 refine wpAny_bind (wpAny_dictEntries hd ho ?_)
 dsimp only
 rw[if_neg (by rw[hn];simp)]
 refine wpAny_bind (wpAny_pure ?_)
 refine wpAny_bind (wpAny_dictEpoch hd ho ?_)
 rw[if_neg (by simp)]
 refine wpAny_pure ?_
 dsimp only
 rw[if_neg (by lia),q0E,he]
 dsimp only
 refine wpAny_bind (hbase hT ?_)
 have hsz:0<(#[Value.ref d,Value.int (i:Int) 0,Value.int (n:Int) 0,Value.int (ep:Int) 0]:Array Value).size :=(by show 0<4;decide)
 refine wpAny_bind (wpAny_setField h1 h3 hsz ?_)
 have sb:Heap.ExtBut it s.heap (s.heap.update it (Obj.mapFields (·.setIfInBounds 0 Value.none))):=fun b u hb e=>by rw[q1n _ _ (Ne.symm hb)];exact e
 refine wpAny_bind (y3s fun h' e kp ⟨oe,e1,e2⟩=>?_)
 refine wpAny_raiseNew_none hh ?_
 refine wpAny_bind (wpAny_isInstance (T:="StopIteration") ⟨oe,e1,e2⟩ (b:=true) (by with_unfolding_all rfl) ?_)
 rw[if_pos rfl]
 refine wpAny_pure ?_
 exact q _ fun b u hb e=>kp b u (sb b u hb e)
end
theorem y0e {Q:Value→Shared→Prop} (hd:s.heap.get? d=some o) (hc:o.cls= .type "dict") (ho:o.data= .dict es ep) (hs:(d==sysModules)=false)
 (q:Q (.ref s.heap.objs.size) {s with heap:=s.heap.push {cls:= .type "dict_keyiterator",data:= .fields #[.ref d,.int 0 0,.int (es.size:Int) 0,.int (ep:Int) 0]}}):wpAny (model prog w) A (pyIter (.ref d)) Q E s:=by
 have hT:s.TypeIs (Value.ref d) "dict":=⟨o,hd,hc⟩
 refine wpAny_pyIter_slot hT F.slot_dict_iter (call_meetsIn F.slot_dict_iter hT F.entry_dict_iter (F.args_dict_iter_1 _) (S:=fun A R s=>wpAny (model prog w) A.in1 (Builtin.«dict.__iter__» {pos:=[Value.ref d]}) (fun fin s'=>
  match fin with
  |Fin.done f=>R (Except.ok f) s'
  |Fin.again c'=>c'.quiet=true∧codeAny (model prog w) A c' R s')
        (fun e s'=>R (Except.error e) s') s) (fun _ _ _ h=>h) ?_)
 show wpAny _ _ (Builtin.Dict.dictSlotNone "__iter__" {pos:=[Value.ref d]}>>= _) _ _ s
 refine wpAny_bind ?_
 show wpAny _ _ (Builtin.Dict.notOrdered "__iter__" {pos:=[Value.ref d]}>>= _) _ _ s
 refine wpAny_bind ?_
 show wpAny _ _ (typeOf (Value.ref d)>>= _) _ _ s
 refine wpAny_bind (wpAny_typeOf hT ?_)
 rw[if_neg (by decide)]
 refine wpAny_pure ?_
 show wpAny _ _ (pure (Value.ref d)) _ _ s
 refine wpAny_pure ?_
 refine wpAny_bind (wpAny_pure ?_)
 unfold Builtin.Dict.showsAll
 rw[hs]
 refine wpAny_bind ?_
 rw[if_neg (by decide)]
 refine wpAny_pure ?_
 refine wpAny_bind (wpAny_dictEntries hd ho ?_)
 refine wpAny_bind (wpAny_dictEpoch hd ho ?_)
 unfold newFields
 refine wpAny_bind (wpAny_newObj_type ?_ (by size_fits))
 refine wpAny_pure ?_
 exact⟨_,_,⟨_,q0s _ rfl,rfl⟩,F.slot_dict_keyiterator_next.lookup,q⟩
def DAt (d:Addr) (es:Array DictEntry) (ep:Nat) (h:Heap):Prop:=∃o,h.get? d=some o∧o.cls= .type "dict"∧o.data= .dict es ep
theorem y2c (hh:A.handled=none) (I:Addr) (hn:d≠I):Walks prog w A I [I,d] [I] es.size (fun i v=>∃e,es[i]? =some e∧v=e.key) (fun i h=>h.IsKeyIter I d i es.size ep∧DAt d es ep h) where
 sub:=fun b hb=>by rw[q0g.mp hb];exact q0l
 frame:=fun i h h' ⟨⟨oi,a1,a2,a3⟩,⟨o,b1,b2,b3⟩⟩ k=>⟨⟨oi,k _ (by simp) _ a1,a2,a3⟩,⟨o,k _ (by simp) _ b1,b2,b3⟩⟩
 item:=fun i s Q E hi ⟨hI,⟨o,b1,b2,b3⟩⟩ q=>y4h hI b1 b3 rfl (Array.getElem?_eq_getElem hi) fun h' kI x=>q _ h' s.toks ⟨_,Array.getElem?_eq_getElem hi,rfl⟩ ⟨kI,⟨o,x _ _ hn b1,b2,b3⟩⟩ fun b o hb e=>x b o (fun z=>hb (by rw[z];exact q0g.mpr rfl)) e
 done:=fun s Q E ⟨hI,⟨o,b1,b2,b3⟩⟩ q=>y6g hI b1 b3 rfl (Array.getElem?_eq_none (q0i _)) hh fun h' x=>q h' s.toks fun b o hb e=>x b o (fun z=>hb (by rw[z];exact q0g.mpr rfl)) e
 self:=fun i s Q E ⟨hI,_⟩ q=>wpAny_pyIter_keyiter hI q
theorem y6f (hs:(d==sysModules)=false):W.KdlSrc prog w "dict" d d es.size (fun i v=>∃e,es[i]? =some e∧v=e.key) (DAt d es ep) where
 type:=fun s ⟨o,h1,h2,_⟩=>⟨o,h1,h2⟩
 there:=fun h ⟨o,h1,_,_⟩=>⟨q0t h1,q0t h1⟩
 keep:=fun h h' ⟨o,h1,h2,h3⟩ k=>⟨o,k _ (.inl rfl) _ h1,h2,h3⟩
 notList:=by decide
 notTuple:=by decide
 hint:=fun A E s Q ⟨o,h1,h2,_⟩ q=>W.kdl_hint_dict ⟨o,h1,h2⟩ q
 iter:=fun A s hh ⟨o,h1,h2,h3⟩=>⟨_,_,fun E Q q=>y0e h1 h2 h3 hs q,y2c hh _ (q0o (q0t h1)),⟨_,q0s _ rfl,rfl,rfl⟩,⟨o,q0d _ h1,h2,h3⟩⟩
end
section
variable {X:Cx}
def y7S:List V→Hp→VK→Prop:=fun xs H Q=>∃(a:Addr) (kvs:List (List Key×V)),xs=[.ref a]∧H a=some (.dT kvs)∧kvs.length≤1000∧∀(l:Addr) (bs:List Addr),H l=none→bs.length=kvs.length→
 (∀(i:Nat) (b:Addr) (k:List Key) (v:V),bs[i]? =some b→kvs[i]? =some (k,v)→H b=some (.tup (k.map kV)))→Q (.ref l) (upd H l (.lst (bs.map V.ref)))
theorem z6G:∀(bs:List Addr) (us:List Value),us.length=bs.length→(∀(i:Nat) (u:Value),us[i]? =some u→∃b,bs[i]? =some b∧u= .ref b)→Vals (bs.map V.ref) us
 |[],us,h,_=>by
  have:us=[]:=q0Y.mp h
  subst this
  exact .nil
 |b::bs,[],h,_=>by simp at h
 |b::bs,u::us,h,hx=>by
  obtain⟨b',e1,e2⟩:=hx 0 u rfl
  have e3:b=b':=by simpa using e1
  subst e3
  rw[q0q]
  exact .cons (by rw[e2];rfl) (z6G bs us (by simpa using h) fun i u hu=>by
   obtain⟨b',z1,z2⟩:=hx (i+1) u (by simpa using hu)
   exact⟨b',by simpa using z1,z2⟩)
theorem kt_at {H:Hp}{kvs:List (List Key×V)}{xs:List (List Key×Addr×Value)} (r:KT H kvs xs):∀(i:Nat) (b:Addr) (k:List Key) (v:V),(xs.map (·.2.1))[i]? =some b→kvs[i]? =some (k,v)→H b=some (.tup (k.map kV)):=by
 induction r with
 |nil=>intro i b k v h;simp at h
 | @cons p q ps qs h t ih=>
   intro i b k v h1 h2
   cases i with
   |zero=>
    have e1:q.2.1=b:=by simpa using h1
    have e2:p=(k,v):=by simpa using h2
    subst e2
    rw[←e1];exact h.2.1
   |succ i=>exact ih i b k v (by simpa using h1) (by simpa using h2)
theorem y0l (hc:X.calm=true):z1A X (.type "list") y7S:=by
 intro pins s σ H xs us Q I r h
 obtain⟨a,kvs,rfl,ha,hn,q⟩:=h
 obtain⟨u,rfl,rx⟩:=r.one
 cases rx
 obtain⟨z,hd,ys,rel,o,es,ep,h1,h2,h3,h4,h5,h6⟩:=y7N I.hok ha
 have hl:es.size=ys.length:=by rw[←q1w,h4,q0a]
 have hl2:kvs.length=ys.length:=Paired.length rel
 have hz:sizeLine=16777216:=sizeLine_eq
 refine W.kdl_call (y6f (es:=es) (ep:=ep) hd) (I.ok.hd hc) ⟨o,h1,h2.1,h3⟩ (by lia) fun h' tk acc' c' kp e itm=>?_
 have rv:Vals ((ys.map (·.2.1)).map V.ref) acc'.toList:=by
  refine z6G _ _ (by rw[q0a,q1w,itm.1,hl]) fun i u hu=>?_
  obtain⟨en,e1,e2⟩:=itm.2 i u (by rw[←Array.getElem?_toList];exact hu)
  have e3:(es.toList)[i]? =some en:=by rw[Array.getElem?_toList];exact e1
  rw[h4,q0h] at e3
  obtain⟨y,y1,y2⟩:=q0u.mp e3
  exact⟨y.2.1,by rw[q0h,y1];rfl,by rw[e2,←y2];rfl⟩
 refine⟨.ref s.heap.objs.size,_,I.laid (o:= .lst ((ys.map (·.2.1)).map V.ref)) (t':=tk) kp (q0i _) ?_,rfl,q _ _ (I.hok.fresh (q0i _)) (by rw[q0a];lia) (kt_at rel)⟩
 exact⟨by rw[q0a,q0a];lia,acc'.toList,c',rv,by simpa using e⟩
end
end L2
namespace L2
open PySem PySem.Spec PyProof.Rows
section
variable {X:Cx}
end
end L2
namespace L2
open PySem PySem.Spec PySem.W PyProof.Rows
section
variable {X:Cx}{mth cx n:Str}{apos cpos xpos hp hpos tpos:Pos}{o e:Expr}{es:List Expr}{tob:TE}{ta:TA}{k j:Nat}{ps:List Str}{sp:Sp}{W C0 g:Addr}{gd:FuncData}{st0:Stmt}{ts:TS}
end
end L2
namespace L2
open PySem PySem.Spec PyProof.Rows
def Itv (K:PySem.W.Frag) (a:Addr) (n:Nat):It:=
 ⟨fun i H=>∃xs x,SqL K H a xs∧xs.length=n∧i<n∧xs[n - 1 - i]? =some x,fun i H x H'=>H'=H∧∀xs,SqL K H a xs→xs[n - 1 - i]? =some x,fun i H=>∃xs,SqL K H a xs∧xs.length=n∧i=n⟩
theorem y3p {P:Program}{w:World}{K:PySem.W.Frag}{tg:Expr} (a it:Addr) (n:Nat):y5k P w K tg (Itv K a n) [it] it (fun i h=>i≤n∧h.IsRevIter it a ((n:Int) - 1 - (i:Int))) where
 mem:=by simp
 obj:=fun i h st b hb=>by
  have e:b=it:=by simpa using hb
  subst e
  obtain⟨_,o,e,c,d⟩:=st
  exact⟨o,e,fun v z=>by rw[d] at z;cases z⟩
 keep:=fun i h h' st k=>⟨st.1,st.2.at fun o e=>k it (by simp) o e⟩
 item:=by
  intro X hP hw hK hc i pins s σ H E I hf st hg
  subst hP hw hK
  obtain⟨xs,x,hq,hl,hi,hx⟩:=hg
  obtain⟨its,rv,p,hz⟩:=I.list hq
  obtain⟨u,hu,ru⟩:=rv.get hx
  obtain⟨f0,f1,f2,f3,f4,f5⟩:=hf it (by simp)
  obtain⟨st1,st2⟩:=st
  rw[show (n:Int) - 1 - (i:Int)=((n - 1 - i:Nat):Int) by lia] at st2
  refine wpAny_pyNext_rev_item st2 p.isList (x:=u) (by simpa using hu) fun h' st' sb=>?_
  rw[show ((n - 1 - i:Nat):Int) - 1=(n:Int) - 1 - ((i+1:Nat):Int) by lia] at st'
  have I1:Inv X pins σ H {s with heap:=h'}:=I.turned (t':=s.toks) (fun b o hb e=>(sb.2 b hb).trans e) f0 f1 f3 f4 f5
  obtain⟨o,e,c,d⟩:=id st'
  exact⟨u,rfl,y4l (s:={s with heap:=h'}) e c d (by decide) ⟨x,H,I1,ru,⟨rfl,fun ys hy=>by rw[I.list_inj hy hq];exact hx⟩,⟨hi,st'⟩,fun b hb=>(hf b hb).1⟩⟩
 done:=by
  intro X hP hw hK hc i pins s σ H E I hf st hg
  subst hP hw hK
  obtain⟨xs,hq,hl,hi⟩:=hg
  obtain⟨f0,f1,f2,f3,f4,f5⟩:=hf it (by simp)
  obtain⟨st1,st2⟩:=st
  rw[show (n:Int) - 1 - (i:Int)= -1 by lia] at st2
  exact wpAny_pyNext_rev_end (I.ok.hd hc) st2 fun h' eb=>⟨rfl,I.turned (t':=s.toks) (fun b o hb e=>eb b o hb e) f0 f1 f3 f4 f5⟩
 self:=fun _ _ _ _ _ st h=>wpAny_pyIter_revIter st.2 h
theorem y3B (K:PySem.W.Frag) (a:Addr) (xs:List V):z6l (Itv K a xs.length) xs.length (fun H=>SqL K H a xs) (fun i H x H'=>H'=H∧xs.reverse[i]? =some x) where
 go:=fun i H h hi=>⟨xs,xs[xs.length - 1 - i],h,rfl,hi,q0c (by lia)⟩
 stop:=fun H h=>⟨xs,h,rfl,rfl⟩
 yld:=fun i H x H' h hi y=>⟨y.1,by rw[List.getElem?_reverse hi];exact y.2 xs h⟩
section
variable {X:Cx}
def iRevK (K:PySem.W.Frag) (tl:TA):TI:=fun σ H R=>tl σ H fun vs H1=>∃a xs,vs=[.ref a]∧H1 a=some (.lst xs)∧R (Itv K a xs.length) H1
theorem y7g {K:PySem.W.Frag} (hK:X.K=K) {tg l:Expr}{tl:TA}{p pos:Pos} (hg:Gl X "reversed") (hm:X.mg "reversed"=none) (ha:PA X [l] tl) (hs:starEach [l] X.env=[(false,eval l X.env)]:=by rfl):
 PI X tg (.Call (.Name "reversed" p) [l] [] pos) (iRevK K tl):=by
 subst hK
 intro pins s σ H R I h
 refine Call_ (z2X I hg hm PyProof.Rows.boot_reversed (PyProof.Rows.callWith_type1 (thn (ha pos pins s σ H _ I h) fun us s1 ⟨vs,H1,I1,r1,q1⟩=>?_) hs rfl))
 obtain⟨a,xs,e,hq,q⟩:=q1
 subst e
 cases r1 with
 |cons r rr=>
  cases rr
  cases r
  obtain⟨hz,its,n,rv,hlen,ho⟩:=I1.lstM hq
  have hsz:its.toArray.size=xs.length:=by rw[q0e];exact hlen.symm
  refine call_reversed_list (items:=its.toArray) ⟨_,ho,rfl,_,rfl⟩ ?_
  have hit:(s1.heap.push (revObj a ((its.toArray.size:Int) - 1))).IsRevIter s1.heap.objs.size a (((xs.length:Nat):Int) - 1 - ((0:Nat):Int)):=⟨_,q0s _ rfl,rfl,by rw[hsz];simp[revObj]⟩
  refine wpAny_pyIter_revIter (s:={s1 with heap:=s1.heap.push (revObj a ((its.toArray.size:Int) - 1))}) hit ?_
  refine⟨s1.heap.objs.size,[s1.heap.objs.size],_,_,H1,rfl,I1.kept (t':=s1.toks) fun b o e=>q0d _ e,y3p a _ xs.length,⟨q0N _,hit⟩,fun b hb=>?_,q⟩
  have e:b=s1.heap.objs.size:=by simpa using hb
  subst e
  exact I1.fpOk (q0i _) (I1.hok.fresh (q0i _))
end
end L2
namespace L2
open PySem PySem.Spec PyProof.Rows
theorem z0G {δ:Type}{J:It}{n:Nat}{Ok:Hp→Prop}{xs:List V} (ds:List δ) (hx:n=ds.length) (R:z6l J n Ok (fun i H x H'=>H'=H∧xs[i]? =some x)) {fr:List (Option Nat)}{g:TG}{tt:TT}{te:TE}{σ:St}{H1:Hp}{Q:VK}{D:Addr} (hD:H1 D=none) (pt:δ→St→St) (hpt:∀d e σ,pt d (pt e σ)=pt d σ) (tst:δ→Bool) (Rel:Hp→δ→V→Prop)
 (hrel:∀H H' d u,(∀b o,b≠D→H b=some o→H' b=some o)→(∃acc,H D=some (.lst acc))→Rel H d u→Rel H' d u)
 (hok:∀H,Same H1 H→Ok H) (hn:n≤sizeLine)
 (hg:∀(i:Nat) x d,xs[i]? =some x→ds[i]? =some d→∀σ H,Same H1 H→∀S:St→Hp→Prop,S (pt d σ) H→g x σ H S)
 (ht:∀d∈ds,∀Hc,Same H1 Hc→∀S:Bool→Hp→Prop,(∀H',Same Hc H'→S (tst d) H')→tt (pt d (z0B fr σ)) Hc S)
 (hv:∀d∈ds,tst d=true→∀Hc,Same H1 Hc→(∃acc,Hc D=some (.lst acc))→∀S:VK,(∀u H',Same Hc H'→Rel H' d u→S u H')→te (pt d (z0B fr σ)) Hc S)
 (q:∀us H',Same H1 H'→H' D=some (.lst us)→Each (Rel H') (ds.filter tst) us→Q (.ref D) H'):
 z3f J g tt te Q D (z0B fr σ) (upd H1 D (.lst [])):=by
 subst hx
 refine z4E R (fun i acc σ' H'=>((∃e,σ'=pt e (z0B fr σ))∨σ'=z0B fr σ)∧Same H1 H'∧H' D=some (.lst acc)∧Each (Rel H') ((ds.take i).filter tst) acc) ⟨.inr rfl,z0e hD _,z0b,.nil⟩ ?_ hn ?_ ?_
 ·rintro i acc σ' H' hi ⟨_,hs,_,he⟩
  refine⟨hok _ hs,?_⟩
  rw[←he.length]
  refine q0m (q1o _ _) ?_
  rw[q0w];lia
 ·rintro N i x acc σ' H' H'' hi ⟨hσ,hs,hd,he⟩ ⟨rfl,hx⟩ n1 n2
  have hdi:ds[i]? =some ds[i]:=q0c hi
  have hm:ds[i]∈ds:=q0z hi
  generalize ds[i]=d at hdi hm
  have es:pt d σ'=pt d (z0B fr σ):=by
   rcases hσ with⟨e,rfl⟩|rfl
   ·rw[hpt]
   ·rfl
  refine hg i x d hx hdi _ _ hs _ ?_
  rw[es]
  have tk:ds.take (i+1)=ds.take i++[d]:=by rw[q0R,hdi];rfl
  refine ht d hm _ hs _ fun H3 g3=>?_
  have hs3:=hs.trans g3
  have hd3:=g3 _ _ hd
  have he3:Each (Rel H3) ((ds.take i).filter tst) acc:=he.imp fun a b h=>hrel _ _ _ _ (fun c o _ e=>g3 _ _ e) ⟨_,hd⟩ h
  cases hb:tst d with
  |true=>
   refine z5h ?_
   refine hv d hm hb _ hs3 ⟨_,hd3⟩ _ fun u H4 g4 hr=>?_
   have hd4:=g4 _ _ hd3
   refine n1 _ _ _ hd4 ⟨.inl ⟨_,rfl⟩,fun c o e=>?_,z0b,?_⟩
   ·rw[z0i (z0f e hD)];exact g4 _ _ (hs3 _ _ e)
   ·have up:∀a b,Rel H4 a b→Rel (upd H4 D (.lst (acc++[u]))) a b:=fun a b h=>hrel _ _ _ _ (fun c o hc e=>by rw[z0i hc];exact e) ⟨_,hd4⟩ h
    rw[tk,q1f,q0O hb]
    exact ((he3.imp fun a b h=>up a b (hrel _ _ _ _ (fun c o _ e=>g4 _ _ e) ⟨_,hd3⟩ h)).snoc (up _ _ hr))
  |false=>
   refine z5i ?_
   refine n2 _ _ ⟨.inl ⟨_,rfl⟩,hs3,hd3,?_⟩
   rw[tk,q1f,q0V (by simp[hb])]
   simpa using he3
 ·rintro acc σ' H' ⟨_,hs,hd,he⟩
  rw[q0T] at he
  exact q acc H' hs hd he
theorem z1f (a b c d:Option V) (σ:St):(((σ.set 0 a).set 1 b).set 0 c).set 1 d=(σ.set 0 c).set 1 d:=by
 rw[List.set_comm _ _ (show (1:Nat)≠0 by decide),q1Z,q1Z]
end L2
namespace L2
open PySem PySem.Spec PyProof.Rows
open Builtin.Int (intBits)
section
variable {X:Cx}
def CFw (i j:Int):Prop:=j≠0∧intBits i≤13000
theorem noPyW {i j:Int} (h:CFw i j):Builtin.divisionGoesByPylong i j=false:=by
 unfold Builtin.divisionGoesByPylong
 have h1:=intBits_le_iff.mp h.2
 simp only[Bool.and_eq_false_iff,decide_eq_false_iff_not]
 by_cases hi:i=0
 ·refine .inr ?_
  rw[if_pos (by simp[hi])]
  lia
 ·have hl:i.natAbs.log2<13000:=(Nat.log2_lt (by lia)).mpr h1
  by_cases hj:(if (j==0)=true then 0 else j.natAbs.log2/30+1)>300
  ·refine .inr ?_
   rw[if_neg (show ¬(i==0)=true by simpa using hi)]
   generalize (if (j==0)=true then 0 else j.natAbs.log2/30+1)=y at*
   lia
  ·exact .inl hj
theorem z3L:OpR X (binaryOp .FloorDiv) (rI CFw fun i j=> .int (i.fdiv j)):=opI fun _ _ _ _ _ _ _ hc q=>floordiv_int hc.1 q (.inl (noPyW hc))
end
end L2
namespace L2
open PySem PySem.Spec PyProof.Rows
theorem y0j {δ:Type}{J:It}{n:Nat}{Ok:Hp→Prop}{ps:List (V×V)} (ds:List δ) (hx:n=ds.length) (R:z6l J n Ok (fun i H x H'=>∃p u v,x= .ref p∧H p=none∧ps[i]? =some (u,v)∧H'=upd H p (.tup [u,v]))) {fr:List (Option Nat)}{g:TG}{tt:TT}{te:TE}{σ:St}{H1:Hp}{Q:VK}{D:Addr} (hD:H1 D=none) (pr:δ→V×V) (hpr:∀(i:Nat) c d,ps[i]? =some c→ds[i]? =some d→c=pr d) (tst:δ→Bool) (Rel:Hp→δ→V→Prop)
 (hrel:∀H H' d u,(∀b o,b≠D→H b=some o→H' b=some o)→(∃acc,H D=some (.lst acc))→Rel H d u→Rel H' d u)
 (hg:∀p u v σ H,H p=some (.tup [u,v])→∀S:St→Hp→Prop,S ((σ.set 0 (some u)).set 1 (some v)) H→g (.ref p) σ H S)
 (hok:∀H,Same H1 H→Ok H) (hn:n≤sizeLine)
 (ht:∀d∈ds,∀Hc,Same H1 Hc→∀S:Bool→Hp→Prop,(∀H',Same Hc H'→S (tst d) H')→tt (((z0B fr σ).set 0 (some (pr d).1)).set 1 (some (pr d).2)) Hc S)
 (hv:∀d∈ds,tst d=true→∀Hc,Same H1 Hc→(∃acc,Hc D=some (.lst acc))→∀S:VK,(∀u H',Same Hc H'→Rel H' d u→S u H')→te (((z0B fr σ).set 0 (some (pr d).1)).set 1 (some (pr d).2)) Hc S)
 (q:∀us H',Same H1 H'→H' D=some (.lst us)→Each (Rel H') (ds.filter tst) us→Q (.ref D) H'):
 z3f J g tt te Q D (z0B fr σ) (upd H1 D (.lst [])):=by
 subst hx
 refine z4E R (fun i acc σ' H'=>((∃o1 o2,σ'=((z0B fr σ).set 0 o1).set 1 o2)∨σ'=z0B fr σ)∧Same H1 H'∧H' D=some (.lst acc)∧Each (Rel H') ((ds.take i).filter tst) acc) ⟨.inr rfl,z0e hD _,z0b,.nil⟩ ?_ hn ?_ ?_
 ·rintro i acc σ' H' hi ⟨_,hs,_,he⟩
  refine⟨hok _ hs,?_⟩
  rw[←he.length]
  refine q0m (q1o _ _) ?_
  rw[q0w];lia
 ·rintro N i x acc σ' H' H'' hi ⟨hσ,hs,hd,he⟩ ⟨p,u,v,rfl,hp,hps,rfl⟩ n1 n2
  have hdi:ds[i]? =some ds[i]:=q0c hi
  have hm:ds[i]∈ds:=q0z hi
  generalize ds[i]=d at hdi hm
  have ec:=hpr i _ d hps hdi
  have gp:=z0e hp (.tup [u,v])
  have es:(σ'.set 0 (some u)).set 1 (some v)=((z0B fr σ).set 0 (some (pr d).1)).set 1 (some (pr d).2):=by
   rw[←ec]
   rcases hσ with⟨o1,o2,rfl⟩|rfl
   ·rw[z1f]
   ·rfl
  refine hg p u v _ _ z0b _ ?_
  rw[es]
  have tk:ds.take (i+1)=ds.take i++[d]:=by rw[q0R,hdi];rfl
  have hs2:=hs.trans gp
  have hd2:=gp _ _ hd
  have he2:Each (Rel (upd H' p (.tup [u,v]))) ((ds.take i).filter tst) acc:=he.imp fun a b h=>hrel _ _ _ _ (fun c o _ e=>gp _ _ e) ⟨_,hd⟩ h
  generalize upd H' p (.tup [u,v])=H2 at*
  refine ht d hm _ hs2 _ fun H3 g3=>?_
  have hs3:=hs2.trans g3
  have hd3:=g3 _ _ hd2
  have he3:Each (Rel H3) ((ds.take i).filter tst) acc:=he2.imp fun a b h=>hrel _ _ _ _ (fun c o _ e=>g3 _ _ e) ⟨_,hd2⟩ h
  cases hb:tst d with
  |true=>
   refine z5h ?_
   refine hv d hm hb _ hs3 ⟨_,hd3⟩ _ fun u' H4 g4 hr=>?_
   have hd4:=g4 _ _ hd3
   refine n1 _ _ _ hd4 ⟨.inl ⟨_,_,rfl⟩,fun c o e=>?_,z0b,?_⟩
   ·rw[z0i (z0f e hD)];exact g4 _ _ (hs3 _ _ e)
   ·have up:∀a b,Rel H4 a b→Rel (upd H4 D (.lst (acc++[u']))) a b:=fun a b h=>hrel _ _ _ _ (fun c o hc e=>by rw[z0i hc];exact e) ⟨_,hd4⟩ h
    rw[tk,q1f,q0O hb]
    exact ((he3.imp fun a b h=>up a b (hrel _ _ _ _ (fun c o _ e=>g4 _ _ e) ⟨_,hd3⟩ h)).snoc (up _ _ hr))
  |false=>
   refine z5i ?_
   refine n2 _ _ ⟨.inl ⟨_,_,rfl⟩,hs3,hd3,?_⟩
   rw[tk,q1f,q0V (by simp[hb])]
   simpa using he3
 ·rintro acc σ' H' ⟨_,hs,hd,he⟩
  rw[q0T] at he
  exact q acc H' hs hd he
end L2
namespace L2
open PySem PySem.Spec PySem.W PyProof.Rows
section
variable {X:Cx}{cx n:Str}{hp hpos tpos:Pos}{j:Nat}{W:Addr}{st0:Stmt}{ts:TS}
end
section
variable {X:Cx}{f1 f2 cx n:Str}{fp1 cpos1 xpos1 fp2 cpos2 xpos2 ip1 ip2 hp hpos tpos:Pos}{c1 c2 e1 e2:Expr}{es1 es2:List Expr}{t1 t2:TT}{ta1 ta2:TA}{k j:Nat}{ps1 ps2:List Str}{sp1 sp2:Sp}{W:Addr}{st0:Stmt}{ts:TS}
end
end L2
set_option maxHeartbeats 4000000
namespace L2
open PySem PySem.Spec PyProof.Rows
namespace Srt
open PySem.SeqAt PySem.AutoSeq1 PySem.MeetsSeq PySem.MeetsSeq2 PySem.MeetsSeq3
def LtAt (A:Around) (s:Shared) (y x:Value) (b:Bool):Prop:=
 ∀(prog:Program) (w:World) (E:Value→Shared→Prop) (Q:Value→Shared→Prop),Q (.bool b) s→wpAny (model prog w) A (richCompare .Lt y x) Q E s
def lx (e t:Nat→Bool):List Nat→Bool→Bool
 |[],fin=>fin
 |i::is,fin=>if e i=true then lx e t is fin else t i
theorem y1V (l b:Addr) (items items2:Array Value) (n n2:Nat) (dd dd2:Option Addr) (sl sl2:Array (Option Value)) (e t:Nat→Bool) (k:Nat):
 ∀i:Nat,min items.size items2.size - i=k→Meets (Builtin.«list.__eq__.loop» ⟨[.ref l,.ref b,rawInt i,rawInt 0],[]⟩)
  (fun A R s=>s.heap.get? l=some {cls:= .type "list",dict:=dd,data:= .seq items n,slots:=sl}∧s.heap.get? b=some {cls:= .type "list",dict:=dd2,data:= .seq items2 n2,slots:=sl2}∧
   (∀j (h1:j<items.size) (h2:j<items2.size),EqAt A.in1 s items[j] items2[j] (e j))∧(∀j (h1:j<items.size) (h2:j<items2.size),e j=false→LtAt A.in1 s items[j] items2[j] (t j))∧
   R (.ok (.ret (.bool (lx e t ((List.range (min items.size items2.size)).drop i) (decide (items.size<items2.size)))))) s):=by
 induction k with
 |zero=>
  intro i hk prog w A R s h
  obtain⟨hp,g,d,tk,os⟩:=s;obtain⟨hl,hb,he,ht,h⟩:=h
  wp_walk using wpAny_loadPart' hl,wpAny_loadPart' hb
  have hd:(List.range (min items.size items2.size)).drop i=[]:=by simp;lia
  rw[hd] at h
  by_cases c:items.size≤i
  ·have hi1:items[((i:Nat):Int).toNat]? =none:=by simp;lia
   rw[hi1]
   wp_walk using wpAny_loadPart' hl,wpAny_loadPart' hb
   exact h
  ·have hi1:items[((i:Nat):Int).toNat]? =some items[i]:=by simp[show i<items.size by lia]
   have hi2:items2[((i:Nat):Int).toNat]? =none:=by simp;lia
   rw[hi1,hi2]
   wp_walk using wpAny_loadPart' hl,wpAny_loadPart' hb
   exact h
 |succ k ih=>
  intro i hk prog w A R s h
  obtain⟨hp,g,d,tk,os⟩:=s;obtain⟨hl,hb,he,ht,h⟩:=h
  wp_walk using wpAny_loadPart' hl,wpAny_loadPart' hb
  have hlt:i<items.size:=by lia
  have hlt2:i<items2.size:=by lia
  have hi1:items[((i:Nat):Int).toNat]? =some items[i]:=by simp[hlt]
  have hi2:items2[((i:Nat):Int).toNat]? =some items2[i]:=by simp[hlt2]
  have hd:(List.range (min items.size items2.size)).drop i=i::(List.range (min items.size items2.size)).drop (i+1):=by
   rw[q1v (by simp;lia)];simp
  have hc:((i:Int)+1)=((i+1:Nat):Int):=by push_cast;rfl
  rw[hd,lx] at h
  rw[hi1,hi2]
  refine wpAny_bind (he i hlt hlt2 prog w _ _ ?_)
  cases hb':e i with
  |true=>
   rw[hb',if_pos rfl] at h
   wp_walk
   rw[hc]
   exact⟨plainId_quiet plain_eq_loop _,codeAny_builtin entry_eq_loop (by
        rw[Around.under_plainId plain_eq_loop _]
        exact ih (i+1) (by lia) prog w A R _ ⟨hl,hb,he,ht,h⟩)⟩
  |false=>
   rw[hb',if_neg (by decide)] at h
   wp_walk using wpAny_loadPart' hl,wpAny_loadPart' hb
   rw[hi1,hi2]
   refine wpAny_bind (ht i hlt hlt2 hb' prog w _ _ ?_)
   wp_walk
   exact h
theorem z6R (l b:Addr) (items items2:Array Value) (n n2:Nat) (dd dd2:Option Addr) (sl sl2:Array (Option Value)) (e t:Nat→Bool):
 Meets (Builtin.«list.__lt__» ⟨[.ref l,.ref b],[]⟩)
  (fun A R s=>s.heap.get? l=some {cls:= .type "list",dict:=dd,data:= .seq items n,slots:=sl}∧s.heap.get? b=some {cls:= .type "list",dict:=dd2,data:= .seq items2 n2,slots:=sl2}∧
        (∀j (h1:j<items.size) (h2:j<items2.size),EqAt A.in1 s items[j] items2[j] (e j))∧(∀j (h1:j<items.size) (h2:j<items2.size),e j=false→LtAt A.in1 s items[j] items2[j] (t j))∧
        R (.ok (.ret (.bool (lx e t (List.range (min items.size items2.size)) (decide (items.size<items2.size)))))) s):=by
 intro prog w A R s h
 obtain⟨hp,g,d,tk,os⟩:=s;obtain⟨hl,hb,he,ht,h⟩:=h
 have f3:=AutoSeq1.sub_list_list
 wp_walk using wpAny_loadPart' hl,wpAny_loadPart' hb
 exact⟨plainId_quiet plain_eq_loop _,codeAny_builtin entry_eq_loop (by
  rw[Around.under_plainId plain_eq_loop _]
  exact y1V l b items items2 n n2 dd dd2 sl sl2 e t _ 0 rfl prog w A R _ ⟨hl,hb,he,ht,by simpa using h⟩)⟩
theorem z9B (l b:Addr) (items items2:Array Value) (n n2:Nat) (dd dd2:Option Addr) (sl sl2:Array (Option Value)) (e t:Nat→Bool):
 Meets (Builtin.«tuple.__lt__» ⟨[.ref l,.ref b],[]⟩)
  (fun A R s=>s.heap.get? l=some {cls:= .type "tuple",dict:=dd,data:= .seq items n,slots:=sl}∧s.heap.get? b=some {cls:= .type "tuple",dict:=dd2,data:= .seq items2 n2,slots:=sl2}∧
        (∀j (h1:j<items.size) (h2:j<items2.size),EqAt A.in1 s items[j] items2[j] (e j))∧(∀j (h1:j<items.size) (h2:j<items2.size),e j=false→LtAt A.in1 s items[j] items2[j] (t j))∧
        R (.ok (.ret (.bool (lx e t (List.range (min items.size items2.size)) (decide (items.size<items2.size)))))) s):=
 .of_wp fun prog w A R s h=>by
  obtain⟨hp,g,d,tk,os⟩:=s;obtain⟨hl,hb,he,ht,h⟩:=h
  have f2:=AutoSeq1.sub_tuple_tuple
  have hZ:(items.toList.zip items2.toList).length =min items.size items2.size:=by simp
  wp_walk using wpAny_loadPart' hl,wpAny_loadPart' hb,wpAny_forIn_list _ (fun rest b s'=>b.1=none∧s'=⟨hp,g,d,tk,os⟩∧∃i,rest=(items.toList.zip items2.toList).drop i∧
   R (.ok (.ret (.bool (lx e t ((List.range (min items.size items2.size)).drop i) (decide (items.size<items2.size)))))) ⟨hp,g,d,tk,os⟩) _
  case turn=>
   rintro⟨y,x⟩ rest b s' ⟨hb',rfl,i,hz,hR⟩
   have hlt:i<(items.toList.zip items2.toList).length :=by
        rcases Nat.lt_or_ge i (items.toList.zip items2.toList).length with h'|h'
        ·exact h'
        ·rw[List.drop_of_length_le h'] at hz;cases hz
   have hm:i<min items.size items2.size:=hZ▸hlt
   have h1:i<items.size:=q0y hm (Nat.min_le_left _ _)
   have h2:i<items2.size:=q0y hm (Nat.min_le_right _ _)
   rw[q1v hlt] at hz
   injection hz with hyx hrest
   have hy:y=items[i]:=by have:=congrArg Prod.fst hyx;simpa using this
   have hx:x=items2[i]:=by have:=congrArg Prod.snd hyx;simpa using this
   subst hy hx
   have hd:(List.range (min items.size items2.size)).drop i=i::(List.range (min items.size items2.size)).drop (i+1):=by
        rw[q1v (by simp;lia)];simp
   rw[hd,lx] at hR
   refine wpAny_bind (he i h1 h2 prog w _ _ ?_)
   cases hy:e i with
   |true=>
    rw[hy,if_pos rfl] at hR
    wp_walk
    exact⟨rfl,rfl,i+1,hrest,hR⟩
   |false=>
    rw[hy,if_neg (by decide)] at hR
    refine wpAny_ite_split (fun _=>?_) (fun hn=>absurd rfl hn)
    refine wpAny_bind (wpAny_rule (wpAny_bind (ht i h1 h2 hy prog w _ _ ?_)))
    wp_walk
    exact⟨_,rfl,hR⟩
  case fin=>
   rintro⟨b1,b2⟩ s' ⟨hb',rfl,i,hz,hR⟩
   simp only at hb'
   subst hb'
   have hge:min items.size items2.size≤i:=by
        rcases Nat.lt_or_ge i (items.toList.zip items2.toList).length with h'|h'
        ·rw[q1v h'] at hz;cases hz
        ·exact hZ▸h'
   rw[List.drop_of_length_le (by simpa using hge),lx] at hR
   wp_walk
   exact⟨_,rfl,by simpa[Builtin.Tuple.tupleCompareSizes] using hR⟩
  case h=>
   exact⟨rfl,rfl,0,rfl,by simpa using h⟩
section
variable {A:Around}{s:Shared}
theorem LtAt.int (a:Int) (t:Tok) (b:Int) (u:Tok):LtAt A s (.int a t) (.int b u) (decide (a<b)):=fun prog w E Q h=>wpAny_lt_int h
theorem LtAt.tuples {l b:Addr}{items items2:Array Value}{e t:Nat→Bool} (hl:s.heap.IsTuple l items) (hb:s.heap.IsTuple b items2) (hu:A.units<cLine)
 (he:∀j (h1:j<items.size) (h2:j<items2.size),EqAt A.in1 s items[j] items2[j] (e j)) (ht:∀j (h1:j<items.size) (h2:j<items2.size),e j=false→LtAt A.in1 s items[j] items2[j] (t j)):
 LtAt A s (.ref l) (.ref b) (lx e t (List.range (min items.size items2.size)) (decide (items.size<items2.size))):=fun prog w E Q h=>by
 obtain⟨⟨cls,dd,data,sl⟩,ho,hc,n,hd⟩:=id hl
 obtain⟨⟨cls2,dd2,data2,sl2⟩,ho2,hc2,n2,hd2⟩:=id hb
 simp only at hc hd hc2 hd2
 subst hc hd hc2 hd2
 exact richCompare_meets_room (op:= .Lt) ⟨_,ho,rfl⟩ ⟨_,ho2,rfl⟩ F.slot_tuple_lt F.entry_tuple_lt (F.args_tuple_lt_2 _ _) (z9B l b items items2 n n2 dd dd2 sl sl2 e t)
  ⟨ho,ho2,he,ht,show Value.bool _≠Value.notImplemented∧Q (.bool _) s from⟨(fun x=>nomatch x),h⟩⟩ hu
theorem LtAt.lists {l b:Addr}{items items2:Array Value}{e t:Nat→Bool} (hl:s.heap.IsList l items) (hb:s.heap.IsList b items2) (hu:A.units<cLine)
 (he:∀j (h1:j<items.size) (h2:j<items2.size),EqAt A.in1 s items[j] items2[j] (e j)) (ht:∀j (h1:j<items.size) (h2:j<items2.size),e j=false→LtAt A.in1 s items[j] items2[j] (t j)):
 LtAt A s (.ref l) (.ref b) (lx e t (List.range (min items.size items2.size)) (decide (items.size<items2.size))):=fun prog w E Q h=>by
 obtain⟨⟨cls,dd,data,sl⟩,ho,hc,n,hd⟩:=id hl
 obtain⟨⟨cls2,dd2,data2,sl2⟩,ho2,hc2,n2,hd2⟩:=id hb
 simp only at hc hd hc2 hd2
 subst hc hd hc2 hd2
 exact richCompare_meets_room (op:= .Lt) ⟨_,ho,rfl⟩ ⟨_,ho2,rfl⟩ F.slot_list_lt F.entry_list_lt (F.args_list_lt_2 _ _) (z6R l b items items2 n n2 dd dd2 sl sl2 e t)
  ⟨ho,ho2,he,ht,show Value.bool _≠Value.notImplemented∧Q (.bool _) s from⟨(fun x=>nomatch x),h⟩⟩ hu
theorem z7S {prog:Program}{w:World}{E:Value→Shared→Prop}{Q:Bool→Shared→Prop}{l b:Addr}{items items2:Array Value}{e t:Nat→Bool} (hl:s.heap.IsList l items) (hb:s.heap.IsList b items2) (hu:A.units<cLine)
 (he:∀j (h1:j<items.size) (h2:j<items2.size),EqAt A.in1 s items[j] items2[j] (e j)) (ht:∀j (h1:j<items.size) (h2:j<items2.size),e j=false→LtAt A.in1 s items[j] items2[j] (t j))
 (h:Q (lx e t (List.range (min items.size items2.size)) (decide (items.size<items2.size))) s):wpAny (model prog w) A (oneLt' true (.ref l) (.ref b)) Q E s:=by
 obtain⟨⟨cls,dd,data,sl⟩,ho,hc,n,hd⟩:=id hl
 obtain⟨⟨cls2,dd2,data2,sl2⟩,ho2,hc2,n2,hd2⟩:=id hb
 simp only at hc hd hc2 hd2
 subst hc hd hc2 hd2
 rw[oneLt'_eq]
 simp only[if_true]
 refine wpAny_bind (wpAny_cRoomFor hu ?_)
 refine wpAny_bind (wpAny_callSpecialIfBound?_slot (T:="list") ⟨_,ho,rfl⟩ F.slot_list_lt (call_meets F.slot_list_lt ⟨_,ho,rfl⟩ F.entry_list_lt (F.args_list_lt_2 _ _) (z6R l b items items2 n n2 dd dd2 sl sl2 e t) ⟨ho,ho2,he,ht,?_⟩))
 exact wpAny_truthy_bool h
end
end Srt
end L2
namespace L2
open PySem PySem.Spec PyProof.Rows
namespace Srt
open PySem.SeqAt
mutual
def ltb:Dt→Dt→Bool
 | .i n,.i m=>decide (n<m)
 | .t a,.t b=>lts a b
 | .l a,.l b=>lts a b
 |_,_=>false
def lts:List Dt→List Dt→Bool
 |[],[]=>false
 |[],_::_=>true
 |_::_,[]=>false
 |x::a,y::b=>if Dt.eqb x y=true then lts a b else ltb x y
end
theorem y4S (e t:Nat→Bool) (fin:Bool):∀is:List Nat,lx e t (is.map (· +1)) fin=lx (fun j=>e (j+1)) (fun j=>t (j+1)) is fin
 |[]=>rfl
 |i::is=>by rw[List.map_cons,lx,lx,y4S e t fin is]
theorem z8S:∀ds es:List Dt,lx (fun j=>Dt.eqb (ds.getD j (.i 0)) (es.getD j (.i 0))) (fun j=>ltb (ds.getD j (.i 0)) (es.getD j (.i 0))) (List.range (min ds.length es.length)) (decide (ds.length<es.length))=lts ds es
 |[],[]=>by simp[lx,lts]
 |[],_::_=>by simp[lx,lts]
 |_::_,[]=>by simp[lx,lts]
 |x::a,y::b=>by
  have ih:=z8S a b
  have hm:min (x::a).length (y::b).length =min a.length b.length+1:=by simp only[q0J];lia
  have hf:decide ((x::a).length <(y::b).length)=decide (a.length<b.length):=by simp
  rw[hm,hf,List.range_succ_eq_map,lx,lts]
  show (if Dt.eqb x y=true then lx _ _ ((List.range (min a.length b.length)).map (· +1)) _ else ltb x y)=_
  rw[y4S,←ih]
  rfl
section
variable {X:Cx}{pins:List (Addr×Obj)}{σ:St}{H:Hp}{s:Shared}
theorem z2c {K:PySem.W.Frag}:∀{xs:List V}{ds:List Dt}{its:List Value},IsDs K H xs ds→Vals xs its→∀j (hj:j<its.length),∃v,IsD K H v (ds.getD j (.i 0))∧RelV v its[j]:=by
 intro xs
 induction xs with
 |nil=>
  intro ds its h1 h2 j hj
  cases h2
  exact absurd hj (Nat.not_lt_zero _)
 |cons x xs ih=>
  intro ds its h1 h2 j hj
  cases h1 with
  |cons a1 a2=>
  cases h2 with
  |cons b1 b2=>
  cases j with
  |zero=>exact⟨x,a1,b1⟩
  |succ j=>exact ih a2 b2 j (by simpa using hj)
theorem z2G {n:Nat}:∀{ds es:List Dt},Dt.oks n ds es=true→∀j,j<ds.length→j<es.length→Dt.ok n (ds.getD j (.i 0)) (es.getD j (.i 0))=true
 |[],_,_,j,h,_=>absurd h (Nat.not_lt_zero _)
 |_::_,[],_,j,_,h=>absurd h (Nat.not_lt_zero _)
 |d::ds,e::es,h,j,h1,h2=>by
  rw[Dt.oks,q1b] at h
  cases j with
  |zero=>exact h.1
  |succ j=>exact z2G h.2 j (by simpa using h1) (by simpa using h2)
def LTold (X:Cx) (H:Hp) (s:Shared) (n:Nat) (A:Around):Prop:=∀(v u:V) (d e:Dt) (x y:Value),IsD X.K H v d→IsD X.K H u e→RelV v x→RelV u y→Dt.ok n d e=true→LtAt A s x y (ltb d e)
theorem y5Y (I:Inv X pins σ H s):∀(n:Nat) (A:Around),A.units+n<cLine→LTold X H s n A:=by
 intro n
 induction n with
 |zero=>
  intro A hu v u d e x y hv hw r1 r2 ok
  cases hv with
  |i k=>
   cases hw with
   |i m=>
    obtain⟨t,rfl⟩:=r1
    obtain⟨t',rfl⟩:=r2
    exact LtAt.int k t m t'
   |t _ _=>simp[Dt.ok] at ok
   |l _ _=>simp[Dt.ok] at ok
  |t _ _=>cases hw<;>simp[Dt.ok] at ok
  |l _ _=>cases hw<;>simp[Dt.ok] at ok
 |succ n ih=>
  intro A hu v u d e x y hv hw r1 r2 ok
  have P:=told I n A.in1 (by show A.units+1+n<cLine;lia)
  have P2:=ih A.in1 (by show A.units+1+n<cLine;lia)
  cases hv with
  |i k=>
   cases hw with
   |i m=>
    obtain⟨t,rfl⟩:=r1
    obtain⟨t',rfl⟩:=r2
    exact LtAt.int k t m t'
   |t _ _=>simp[Dt.ok] at ok
   |l _ _=>simp[Dt.ok] at ok
  | @t a xs ds q1 d1=>
    cases hw with
    |i m=>simp[Dt.ok] at ok
    |l _ _=>simp[Dt.ok] at ok
    | @t b ys es q2 d2=>
      cases (show x=Value.ref a from r1)
      cases (show y=Value.ref b from r2)
      obtain⟨its,rv,p,hz⟩:=I.tuple q1
      obtain⟨its2,rv2,p2,hz2⟩:=I.tuple q2
      have ok':Dt.oks n ds es=true:=by simpa[Dt.ok] using ok
      have l1:its.length=ds.length:=by rw[←rv.length,d1.length]
      have l2:its2.length=es.length:=by rw[←rv2.length,d2.length]
      have z:=LtAt.tuples (A:=A) (s:=s) (e:=fun j=>Dt.eqb (ds.getD j (.i 0)) (es.getD j (.i 0))) (t:=fun j=>ltb (ds.getD j (.i 0)) (es.getD j (.i 0))) (show s.heap.IsTuple a its.toArray from p) (show s.heap.IsTuple b its2.toArray from p2) (by lia)
       (fun j h1 h2=>by
        obtain⟨v1,c1,c2⟩:=z2c d1 rv j (by simpa using h1)
        obtain⟨v2,c3,c4⟩:=z2c d2 rv2 j (by simpa using h2)
        simpa using P v1 v2 _ _ _ _ c1 c3 c2 c4 (z2G ok' j (by rw[←l1];simpa using h1) (by rw[←l2];simpa using h2)))
       (fun j h1 h2 _=>by
        obtain⟨v1,c1,c2⟩:=z2c d1 rv j (by simpa using h1)
        obtain⟨v2,c3,c4⟩:=z2c d2 rv2 j (by simpa using h2)
        simpa using P2 v1 v2 _ _ _ _ c1 c3 c2 c4 (z2G ok' j (by rw[←l1];simpa using h1) (by rw[←l2];simpa using h2)))
      rw[q0e,q0e,l1,l2,z8S] at z
      exact z
  | @l a xs ds q1 d1=>
    cases hw with
    |i m=>simp[Dt.ok] at ok
    |t _ _=>simp[Dt.ok] at ok
    | @l b ys es q2 d2=>
      cases (show x=Value.ref a from r1)
      cases (show y=Value.ref b from r2)
      obtain⟨its,rv,p,hz⟩:=I.list q1
      obtain⟨its2,rv2,p2,hz2⟩:=I.list q2
      have ok':Dt.oks n ds es=true:=by simpa[Dt.ok] using ok
      have l1:its.length=ds.length:=by rw[←rv.length,d1.length]
      have l2:its2.length=es.length:=by rw[←rv2.length,d2.length]
      have z:=LtAt.lists (A:=A) (s:=s) (e:=fun j=>Dt.eqb (ds.getD j (.i 0)) (es.getD j (.i 0))) (t:=fun j=>ltb (ds.getD j (.i 0)) (es.getD j (.i 0))) p.isList p2.isList (by lia)
       (fun j h1 h2=>by
        obtain⟨v1,c1,c2⟩:=z2c d1 rv j (by simpa using h1)
        obtain⟨v2,c3,c4⟩:=z2c d2 rv2 j (by simpa using h2)
        simpa using P v1 v2 _ _ _ _ c1 c3 c2 c4 (z2G ok' j (by rw[←l1];simpa using h1) (by rw[←l2];simpa using h2)))
       (fun j h1 h2 _=>by
        obtain⟨v1,c1,c2⟩:=z2c d1 rv j (by simpa using h1)
        obtain⟨v2,c3,c4⟩:=z2c d2 rv2 j (by simpa using h2)
        simpa using P2 v1 v2 _ _ _ _ c1 c3 c2 c4 (z2G ok' j (by rw[←l1];simpa using h1) (by rw[←l2];simpa using h2)))
      rw[q0e,q0e,l1,l2,z8S] at z
      exact z
theorem y7p (I:Inv X pins σ H s) {A:Around}{E:Value→Shared→Prop}{Q:Bool→Shared→Prop}{n:Nat}{v u:V}{ds es:List Dt}{x y:Value} (hu:A.units+n+1<cLine) (hv:IsD X.K H v (.l ds)) (hw:IsD X.K H u (.l es)) (r1:RelV v x) (r2:RelV u y) (ok':Dt.oks n ds es=true)
 (h:Q (lts ds es) s):wpAny (model X.prog X.w) A (oneLt' true x y) Q E s:=by
 have P:=told I n A.in1 (by show A.units+1+n<cLine;lia)
 have P2:=y5Y I n A.in1 (by show A.units+1+n<cLine;lia)
 cases hv with
 | @l a xs ds q1 d1=>
 cases hw with
 | @l b ys es q2 d2=>
 cases (show x=Value.ref a from r1)
 cases (show y=Value.ref b from r2)
 obtain⟨its,rv,p,hz⟩:=I.list q1
 obtain⟨its2,rv2,p2,hz2⟩:=I.list q2
 have l1:its.length=ds.length:=by rw[←rv.length,d1.length]
 have l2:its2.length=es.length:=by rw[←rv2.length,d2.length]
 refine z7S (e:=fun j=>Dt.eqb (ds.getD j (.i 0)) (es.getD j (.i 0))) (t:=fun j=>ltb (ds.getD j (.i 0)) (es.getD j (.i 0))) p.isList p2.isList (by lia)
  (fun j h1 h2=>by
   obtain⟨v1,c1,c2⟩:=z2c d1 rv j (by simpa using h1)
   obtain⟨v2,c3,c4⟩:=z2c d2 rv2 j (by simpa using h2)
   simpa using P v1 v2 _ _ _ _ c1 c3 c2 c4 (z2G ok' j (by rw[←l1];simpa using h1) (by rw[←l2];simpa using h2)))
  (fun j h1 h2 _=>by
   obtain⟨v1,c1,c2⟩:=z2c d1 rv j (by simpa using h1)
   obtain⟨v2,c3,c4⟩:=z2c d2 rv2 j (by simpa using h2)
   simpa using P2 v1 v2 _ _ _ _ c1 c3 c2 c4 (z2G ok' j (by rw[←l1];simpa using h1) (by rw[←l2];simpa using h2))) ?_
 rw[q0e,q0e,l1,l2,z8S]
 exact h
end
end Srt
end L2
namespace L2
open PySem PySem.Spec PyProof.Rows
namespace Srt
open PySem.W (KasT kas_sort kas_count kas_bin kas_place kas_descPart kas_tail3 kas_desc kas_asc kas_rev kas_item kas_st kas_cmp kas_runs kasC kas_range)
def TrT {α:Type} (n:Nat) (R:α→Prop):KasT α→Prop
 | .ret a=>R a
 | .ask i j k=>i<n∧j<n∧∀b,TrT n R (k b)
def z1c {α:Type} (c:Nat→Nat→Bool):KasT α→α
 | .ret a=>a
 | .ask i j k=>z1c c (k (c i j))
theorem TrT.bind {α β:Type}{n:Nat}{R:α→Prop}{S:β→Prop}{f:α→KasT β}:∀{t:KasT α},TrT n R t→(∀a,R a→TrT n S (f a))→TrT n S (t.bind f)
 | .ret a,h,hf=>hf a h
 | .ask i j k,h,hf=>⟨h.1,h.2.1,fun b=>TrT.bind (h.2.2 b) hf⟩
theorem TrT.run {α:Type}{n:Nat}{R:α→Prop} (c:Nat→Nat→Bool):∀(t:KasT α),TrT n R t→R (z1c c t)
 | .ret _,h=>h
 | .ask i j k,h=>TrT.run c (k (c i j)) (h.2.2 (c i j))
theorem TrT.wp {α:Type}{n:Nat}{R:α→Prop}{c:Nat→Nat→Bool}{cmp:Nat→Nat→(Bool→Shared→Prop)→Shared→Prop}{s:Shared}{Q:α→Shared→Prop} (hc:∀i j C,i<n→j<n→C (c i j) s→cmp i j C s):∀{t:KasT α},TrT n R t→Q (z1c c t) s→t.kasWp cmp Q s
 | .ret _,_,q=>q
 | .ask i j k,h,q=>hc i j _ h.1 h.2.1 (TrT.wp hc (h.2.2 (c i j)) q)
def Pm (n:Nat) (p:Array Nat):Prop:=p.toList.Perm (List.range n)
theorem Pm.lt {n:Nat}{p:Array Nat} (h:Pm n p) (hn:0<n) (i:Nat):p.getD i 0<n:=by
 rw[Array.getD_eq_getD_getElem?]
 cases e:p[i]? with
 |none=>exact hn
 |some x=>
  have:x∈p.toList:=by
   obtain⟨hi,rfl⟩:=Array.getElem?_eq_some_iff.mp e
   exact Array.getElem_mem_toList hi
  exact q1C.mp (h.mem_iff.mp this)
theorem Pm.rev {n:Nat}{p:Array Nat} (h:Pm n p) (i j:Nat):Pm n (kas_rev p i j):=(Array.perm_iff_toList_perm.mp (mirror_perm p i j _)).trans h
theorem Pm.bub {n:Nat}{p:Array Nat} (h:Pm n p) (i j:Nat):Pm n (bubble p i j):=(Array.perm_iff_toList_perm.mp (bubble_perm p i j)).trans h
section
variable {n:Nat} (hn:0<n)
include hn
theorem y0G {p:Array Nat} (h:Pm n p):∀f a,TrT n (fun _=>True) (kas_asc p f a)
 |0,_=>trivial
 |f+1,a=>⟨h.lt hn _,h.lt hn _,fun b=>by
  cases b
  ·exact y0G h f (a+1)
  ·exact trivial⟩
theorem z5t:∀f (p:Array Nat) a q,Pm n p→TrT n (fun r=>Pm n r.1) (kas_desc f p a q)
 |0,p,a,q,h=>h
 |f+1,p,a,q,h=>⟨h.lt hn _,h.lt hn _,fun b=>by
  cases b
  ·refine⟨h.lt hn _,h.lt hn _,fun d=>?_⟩
   cases d
   ·exact z5t f p (a+1) (q+1) h
   ·exact h
  ·show TrT n _ (if q>0 then kas_desc f (kas_rev p (a - (q+1)) a) (a+1) 0 else kas_desc f p (a+1) 0)
   split
   ·exact z5t f _ _ _ (h.rev _ _)
   ·exact z5t f _ _ _ h⟩
theorem z8p {p:Array Nat} (a m:Nat) (h:Pm n p):TrT n (fun r=>Pm n r.2) (kas_tail3 a m p):=(y0G hn (h.rev _ _) _ _).bind fun _ _=>h.rev _ _
theorem z3R {p:Array Nat} (a m:Nat) (h:Pm n p):TrT n (fun r=>Pm n r.2) (kas_descPart a m p):=(z5t hn _ _ _ _ h).bind fun r hr=>by
 split
 ·exact z8p hn _ _ (hr.rev _ _)
 ·exact z8p hn _ _ hr
theorem y3q {p:Array Nat} (m:Nat) (h:Pm n p):TrT n (fun r=>Pm n r.2) (kas_count m p):=(y0G hn h _ _).bind fun a _=>by
 split
 ·exact h
 ·split
  ·refine⟨h.lt hn _,h.lt hn _,fun b=>?_⟩
   cases b
   ·exact z3R hn _ _ (h.rev _ _)
   ·exact h
  ·exact z3R hn _ _ h
theorem z5s {p:Array Nat} (h:Pm n p) (k:Nat):∀f l r,TrT n (fun _=>True) (kas_place p k f l r)
 |0,_,_=>trivial
 |f+1,l,r=>by
  rw[kas_place]
  split
  ·exact trivial
  ·refine⟨h.lt hn _,h.lt hn _,fun b=>?_⟩
   cases b
   ·exact z5s h k f _ _
   ·exact z5s h k f _ _
theorem y4E:∀f (p:Array Nat) k,Pm n p→TrT n (Pm n) (kas_bin f p k)
 |0,_,_,h=>h
 |f+1,p,k,h=>(z5s hn h k _ _ _).bind fun l _=>y4E f _ _ (h.bub _ _)
theorem y0F:TrT n (Pm n) (kas_sort n):=(y3q hn n (show Pm n (List.toArray (List.range n)) from by unfold Pm;rw[List.toList_toArray])).bind fun r hr=>by
 split
 ·exact y4E hn _ _ _ hr
 ·exact hr
end
section
variable {X:Cx}{pins:List (Addr×Obj)}{σ:St}{H:Hp}{s:Shared}{l:Addr}{xs:List V}
mutual
theorem y4i {K:PySem.W.Frag}{H H':Hp} (g:Same H H'):∀{v:V}{d:Dt},IsD K H v d→IsD K H' v d
 |_,_,.i n=> .i n
 |_,_,.t q h=> .t (q.same g) (z2Y g h)
 |_,_,.l q h=> .l (q.same g) (z2Y g h)
theorem z2Y {K:PySem.W.Frag}{H H':Hp} (g:Same H H'):∀{xs:List V}{ds:List Dt},IsDs K H xs ds→IsDs K H' xs ds
 |_,_,.nil => .nil
 |_,_,.cons a b=> .cons (y4i g a) (z2Y g b)
end
def z4q (ds:List (List Dt)):List Nat:=if ds.length<2 then List.range ds.length else (z1c (fun i j=>lts (ds.getD i []) (ds.getD j [])) (kas_sort ds.length)).toList
theorem z2U (ds:List (List Dt)):(z4q ds).Perm (List.range ds.length):=by
 unfold z4q
 split
 ·exact List.Perm.refl _
 ·exact TrT.run _ _ (y0F (n:=ds.length) (by lia))
theorem y6h {K:PySem.W.Frag}{H:Hp}:∀{xs:List V}{ds:List (List Dt)}{us:List Value},IsDs K H xs (ds.map Dt.l)→Vals xs us→∀i,i<ds.length→IsD K H (xs.getD i .non) (.l (ds.getD i []))∧RelV (xs.getD i .non) (us.getD i Value.none):=by
 intro xs
 induction xs with
 |nil=>
  intro ds us h1 h2 i hi
  cases ds with
  |nil=>exact absurd hi (Nat.not_lt_zero _)
  |cons d ds=>cases h1
 |cons x xs ih=>
  intro ds us h1 h2 i hi
  cases ds with
  |nil=>cases h1
  |cons d ds=>
   cases h1 with
   |cons a1 a2=>
   cases h2 with
   |cons b1 b2=>
   cases i with
   |zero=>exact⟨a1,b1⟩
   |succ i=>exact ih a2 b2 i (by simpa using hi)
theorem Vals.pick {xs:List V}{us:List Value} (hV:Vals xs us):∀(p:List Nat),(∀i∈p,i<xs.length)→Vals (p.map fun i=>xs.getD i .non) (p.map fun i=>us.getD i Value.none)
 |[],_=> .nil
 |i::p,h=>by
  refine .cons ?_ (Vals.pick hV p fun j hj=>h j (.tail _ hj))
  have hi:=h i (.head _)
  obtain⟨u,hu,r⟩:=hV.get (q0c hi)
  show RelV (xs.getD i .non) (us.getD i Value.none)
  rw[q0b,q0c hi,q0b,hu]
  exact r
theorem z9J (us:List Value):(List.range us.length).map (fun i=>us.getD i Value.none)=us:=List.ext_getElem (by simp) fun i h1 h2=>by
 rw[List.getElem_map,List.getElem_range,q0b,q0c h2];rfl
theorem y1g {Q:VK}{ds:List (List Dt)} (hu:X.A.units+64<cLine) (I:Inv X pins σ H s) (hl:H l=some (.lst xs)) (h64:xs.length<64) (hd:IsDs X.K H xs (ds.map Dt.l)) (hok:∀a∈ds,∀b∈ds,Dt.oks 8 a b=true)
 (q:∀(D:Addr) (H':Hp),H D=none→Same H H'→H' D=some (.lst ((z4q ds).map fun i=>xs.getD i .non))→Q (.ref D) H'):
 wpAny (model X.prog X.w) X.A (call (.builtin "sorted") [.ref l]) (EP X pins σ Q) X.xe s:=by
 obtain⟨z,us,n,hV,hlen,el⟩:=I.lstM hl
 have dl:xs.length=ds.length:=by rw[hd.length,q0a]
 refine Calls.call_function_entry kind_sorted plain_sorted entry_sorted (args_sorted1 _) ?_
 unfold Builtin.«sorted»
 refine wpAny_bind (m:=checkCount "sorted" 1 1 _) (wpAny_pure ?_)
 refine wpAny_bind (collect_list (vs:=us) ⟨_,el,rfl,_,rfl⟩ ?_ (by rw[←hlen];exact z))
 refine wpAny_bind (wpAny_newList ?_ (by rw[←hlen];exact z))
 have hsz:((s.heap.push (seqObj "list" #[] 0)).update s.heap.objs.size (Obj.mapSeq (· ++us.toArray))).objs.size =s.heap.objs.size+1:=by
  rw[Heap.size_update,size_push']
 have hoL:(((s.heap.push (seqObj "list" #[] 0)).update s.heap.objs.size (Obj.mapSeq (· ++us.toArray))).push (seqObj "list" us.toArray 0)).get? (s.heap.objs.size+1)=some (seqObj "list" us.toArray 0):=by
  rw[←hsz];exact q0s _ rfl
 have keep:∀b o,s.heap.get? b=some o→(((s.heap.push (seqObj "list" #[] 0)).update s.heap.objs.size (Obj.mapSeq (· ++us.toArray))).push (seqObj "list" us.toArray 0)).get? b=some o:=fun b o e=>by
  have hlt:b<s.heap.objs.size:=q0t e
  rw[Heap.get?_push_ne _ _ _ (by rw[hsz];exact q0o (q0M hlt)),Heap.get?_update_ne _ _ _ _ (q0o hlt),Heap.get?_push_ne _ _ _ (q0o hlt)]
  exact e
 have fr1:H (s.heap.objs.size+1)=none:=I.hok.fresh (q1t _)
 have I1:=I.laid (a:=s.heap.objs.size+1) (o:= .lst xs) (t':=s.toks) keep (q1t _) ⟨z,us,0,hV,hoL⟩
 show wpAny _ _ _ _ _ {s with heap:=((s.heap.push (seqObj "list" #[] 0)).update s.heap.objs.size (Obj.mapSeq (· ++us.toArray))).push (seqObj "list" us.toArray 0)}
 rw[hsz]
 generalize hD:s.heap.objs.size+1=D at*
 generalize hh1:((s.heap.push (seqObj "list" #[] 0)).update s.heap.objs.size (Obj.mapSeq (· ++us.toArray))).push (seqObj "list" us.toArray 0)=h1 at*
 refine wpAny_bind (wpAny_holding (wpAny_call_entry slot_list_sort ⟨_,hoL,rfl⟩ entry_list_sort ?body (args_list_sort _)))
 case body=>
  show wpAny (model X.prog X.w) X.A.in1.in1 (Builtin.«list.sort» ⟨[.ref D],[]⟩) _ _ _
  rw[list_sort_plain]
  refine wpAny_bind (listItems_at hoL rfl ?_)
  refine wpAny_bind (listUpdate_at hoL rfl ?_ (by rw[q0e,←hlen];exact z) (q0N _))
  obtain⟨e1,ho1⟩:∃e1,(h1.update D (Obj.mapSeq fun _=>(#[]:Array Value))).get? D=some (seqObj "list" #[] e1):=⟨_,get?_update_seq hoL fun _=> #[]⟩
  have I2:=I1.write (x:=D) (e:=D) (o:=EL D e1) (h':=h1.update D (Obj.mapSeq fun _=>(#[]:Array Value))) (t':=s.toks) (by rw[z0b];exact trivial) (.inl rfl) (fun b u hb hu=>(q1n _ _ (Ne.symm hb)).trans hu) ⟨_,ho1⟩ (EL.ok ho1)
  rw[z5r] at I2
  generalize h1.update D (Obj.mapSeq fun _=>(#[]:Array Value))=h2 at*
  refine wpAny_bind (seqEpoch_at ho1 rfl ?_)
  refine wpAny_bind (wpAny_newTuple ?_ (by rw[List.toList_toArray,←hlen];exact z))
  refine wpAny_bind (wpAny_newList ?_ (q0N _))
  refine wpAny_holding ?_
  have I3:=I2.kept (h':=h2.push (seqObj "tuple" us.toArray 0)) (t':=s.toks) (fun b u e=>q0d _ e)
  have I4:=I3.kept (h':=(h2.push (seqObj "tuple" us.toArray 0)).push (seqObj "list" #[] 0)) (t':=s.toks) (fun b u e=>q0d _ e)
  have n4:((h2.push (seqObj "tuple" us.toArray 0)).push (seqObj "list" #[] 0)).get? D=some (seqObj "list" #[] e1):=q0d _ (q0d _ ho1)
  generalize (h2.push (seqObj "tuple" us.toArray 0)).push (seqObj "list" #[] 0)=h4 at*
  show wpAny (model X.prog X.w) X.A.in1.in1 _ _ _ {s with heap:=h4}
  dsimp only
  have gD:Same H (upd H D (EL D e1)):=fun b o e=>by rw[z0i (z0f e fr1)];exact e
  have pl:(z4q ds).length =ds.length:=by rw[(z2U ds).length_eq,q0W]
  have hout:∀i∈z4q ds,i<xs.length:=fun i hi=>by rw[dl];exact q1C.mp ((z2U ds).mem_iff.mp hi)
  have fin:∀(out:Array Value),out=List.toArray ((z4q ds).map fun i=>us.getD i Value.none)→EP X pins σ Q (.ref D) {s with heap:=h4.update D (Obj.mapSeq fun _=>out)}:=fun out ho=>by
   subst ho
   obtain⟨c2,hc2⟩:∃c2,(h4.update D (Obj.mapSeq fun _=>List.toArray ((z4q ds).map fun i=>us.getD i Value.none))).get? D=some (seqObj "list" (List.toArray ((z4q ds).map fun i=>us.getD i Value.none)) c2):=⟨_,get?_update_seq n4 fun _=>List.toArray ((z4q ds).map fun i=>us.getD i Value.none)⟩
   have J:=I4.write (x:=D) (e:=D) (o:= .lst ((z4q ds).map fun i=>xs.getD i .non)) (h':=h4.update D (Obj.mapSeq fun _=>List.toArray ((z4q ds).map fun i=>us.getD i Value.none))) (t':=s.toks) (by rw[z0b];exact trivial) (.inl rfl) (fun b u hb hu=>(q1n _ _ (Ne.symm hb)).trans hu) ⟨_,hc2⟩
        ⟨by rw[q0a,pl,←dl];exact z,_,c2,Vals.pick hV _ hout,hc2⟩
   rw[z5r] at J
   exact⟨.ref D,_,J,rfl,q D _ fr1 (fun b o e=>by rw[z0i (z0f e fr1)];exact e) z0b⟩
  have tail:∀(st':SortSt),(arrOf st').map (·.2)=List.toArray ((z4q ds).map fun i=>us.getD i Value.none)→failedOf st'=none→
        wpAny (model X.prog X.w) X.A.in1.in1 (do
         let touched:=(←seqEpoch D) != e1
         Builtin.List.listUpdate (.ref D) fun _=>(arrOf st').map (·.2)
         if let some e:=failedOf st' then rule "list.sort.comparison-raised";throw e
         if touched then rule "list.sort.modified";raiseError "ValueError" "list modified during sort"
         ret .none) (fun fin s'=>∃v,fin=PySem.Fin.done (.ret v)∧EP X pins σ Q (.ref D) s') (fun _ _=>False) {s with heap:=h4}:=fun st' ho hf=>by
   refine wpAny_bind (seqEpoch_at n4 rfl ?_)
   refine wpAny_bind (listUpdate_at n4 rfl ?_ (q0N _) (by rw[ho,q0e,q0a,pl,←dl];exact q1U z))
   rw[hf]
   simp only[bne_self_eq_false,Bool.false_eq_true,if_false]
   rw[ho]
   exact wpAny_pure ⟨_,rfl,fin _ rfl⟩
  have z2:(us.toArray.zip us.toArray).map (·.2)=us.toArray:=by
   apply Array.toList_inj.mp
   rw[Array.toList_map,Array.toList_zip]
   exact List.map_snd_zip (q0i _)
  by_cases h2:us.toArray.size<2
  ·rw[if_pos h2,if_pos h2]
   refine wpAny_bind (wpAny_pure ?_)
   rw[StateT.run_pure]
   refine wpAny_bind (wpAny_pure ?_)
   refine wpAny_mono (tail (SortSt.mk' general' (us.toArray.zip us.toArray) #[] 7 none) ?_ rfl) ?_ (fun _ _ h=>h.elim)
   ·show (us.toArray.zip us.toArray).map (·.2)=_
    rw[q0e] at h2
    have e:z4q ds=List.range us.length:=by unfold z4q;rw[if_pos (by lia)];rw[←dl,hlen]
    rw[z2,e]
    congr 1
    exact (z9J us).symm
   ·rintro fin' s' ⟨v,rfl,h⟩
    exact⟨_,rfl,wpAny_pure ⟨_,rfl,h⟩⟩
  ·rw[if_neg h2,if_neg h2]
   rw[q0e] at h2
   have hn:2≤us.length:=by lia
   have hd4:=z2Y gD hd
   have item:∀i,i<us.length→IsD X.K (upd H D (EL D e1)) (xs.getD i .non) (.l (ds.getD i []))∧RelV (xs.getD i .non) (us.getD i Value.none):=fun i hi=>y6h hd4 hV i (by lia)
   refine wpAny_bind (PySem.W.kas_kind (T:= .type "list") hn (fun v hv=>?_) rfl rfl ?_)
   ·obtain⟨i,hi,rfl⟩:=q0B.mp hv
    obtain⟨c1,c2⟩:=item i hi
    have eu:us.getD i Value.none=us[i]:=by rw[q0b,q0c hi];rfl
    rw[eu] at c2
    generalize xs.getD i .non =v at c1 c2
    cases c1 with
    | @l a ys es q1 d1=>
    rw[show us[i]=Value.ref a from c2]
    obtain⟨its,rv,p,hz⟩:=I4.list q1
    obtain⟨o,p1,p2,_⟩:=p.isList
    exact PySem.W.kitAt_ty _ _ ⟨o,p1,p2⟩
   have est:SortSt.mk' oneType' (us.toArray.zip us.toArray) #[] 7 none=kas_st oneType' (pairsOf us) (List.toArray (List.range us.length)):=by
        have e:=kas_range (pairsOf us)
        rw[pairsOf_size] at e
        show SortSt.mk' oneType' (pairsOf us) #[] 7 none=SortSt.mk' oneType' ((List.toArray (List.range us.length)).map (kas_item (pairsOf us))) #[] 7 none
        rw[e]
   have ask:(kas_sort us.length).kasWp (kas_cmp X.prog X.w X.A.in1.in1 oneType' (pairsOf us)) (fun p s'=>s'={s with heap:=h4}∧p.toList=z4q ds) {s with heap:=h4}:=by
        refine TrT.wp (n:=us.length) (c:=fun i j=>lts (ds.getD i []) (ds.getD j [])) (fun i j C hi hj hC=>?_) (y0F (by lia)) ⟨rfl,?_⟩
        ·unfold kas_cmp
         rw[PySem.W.kas_item_eq,PySem.W.kas_item_eq,keyLt'_oneType]
         obtain⟨c1,c2⟩:=item i hi
         obtain⟨c3,c4⟩:=item j hj
         refine y7p (n:=8) I4 (show X.A.units+1+1+8+1<cLine by lia) c1 c3 c2 c4 (hok _ ?_ _ ?_) hC
         ·rw[q0b,q0c (by lia)];exact q0z _
         ·rw[q0b,q0c (by lia)];exact q0z _
        ·unfold z4q
         rw[if_neg (by lia),←dl,hlen]
   have run:=kas_runs (E:=fun _ _=>False) (Q:=fun _ st' s'=>s'={s with heap:=h4}∧(arrOf st').map (·.2)=List.toArray ((z4q ds).map fun i=>us.getD i Value.none)∧failedOf st'=none) hn (by lia) (fun p' st' s' a1 a2 a3 a4=>⟨a4.1,?_,a3⟩) ask
   ·rw[←est] at run
    refine wpAny_bind (wpAny_mono run ?_ fun _ _ e=>e.elim)
    rintro⟨⟨⟩,st'⟩ s' ⟨rfl,ho,hf⟩
    refine wpAny_mono (tail st' ho hf) ?_ (fun _ _ h=>h.elim)
    rintro fin' s' ⟨v,rfl,h⟩
    exact⟨_,rfl,wpAny_pure ⟨_,rfl,h⟩⟩
   ·apply Array.toList_inj.mp
    rw[a2,Array.map_map,Array.toList_map,a4.2]
    exact q0S fun i _=>by show (kas_item (pairsOf us) i).2 =_;rw[PySem.W.kas_item_eq]
end
end Srt
open Srt
section
variable {X:Cx}{K:PySem.W.Frag}
def y7R (K:PySem.W.Frag):List V→Hp→VK→Prop:=fun vs H Q=>∃(l:Addr) (xs:List V) (ds:List (List Dt)),vs=[.ref l]∧H l=some (.lst xs)∧xs.length<64∧IsDs K H xs (ds.map Dt.l)∧(∀a∈ds,∀b∈ds,Dt.oks 8 a b=true)∧
 ∀(D:Addr) (H':Hp),H D=none→Same H H'→H' D=some (.lst ((z4q ds).map fun i=>xs.getD i .non))→Q (.ref D) H'
theorem z5n (hK:X.K=K) (hu:X.A.units+64<cLine):z1A X (.builtin "sorted") (y7R K):=by
 subst hK
 intro pins s σ H xs us Q I r h
 obtain⟨l,ys,ds,rfl,hl,h64,hd,ok,q⟩:=h
 obtain⟨u,rfl,ru⟩:=z5o r
 cases (show u=Value.ref l from ru)
 exact y1g hu I hl h64 hd ok q
end
end L2
namespace L2
open PySem PySem.Spec PyProof.Rows
namespace Fr
open Builtin.Int (intBits)
theorem turn {a0 b0 a b:Int} (h:Int.gcd a b=Int.gcd a0 b0):Int.gcd b (a.fmod b)=Int.gcd a0 b0:=by
 rw[Int.fmod_def,Int.gcd_sub_mul_left_right,Int.gcd_comm b a]
 exact h
theorem less {a b:Int} (h:b≠0):(a.fmod b).natAbs <b.natAbs:=by
 rcases (by lia:0<b∨b<0) with p|p
 ·have h1:=Int.fmod_nonneg_of_pos a p
  have h2:=Int.fmod_lt_of_pos a p
  lia
 ·have e:a.fmod b= -((-a).fmod (-b)):=by
   rw[Int.fmod_def,Int.fmod_def,Int.neg_fdiv_neg]
   rw[Int.neg_mul]
   lia
  have h1:=Int.fmod_nonneg_of_pos (-a) (show 0< -b by lia)
  have h2:=Int.fmod_lt_of_pos (-a) (show 0< -b by lia)
  lia
theorem y6E {a b a0 b0:Int} (h:Int.gcd a b=Int.gcd a0 b0) (hb:b=0):(if a<0 then -a else a)=(Int.gcd a0 b0:Int):=by
 rw[←h,hb,Int.gcd_zero]
 split<;>lia
end Fr
end L2
namespace L2
open PySem PySem.Spec PyProof.Rows
namespace Wl
open Builtin.Int (intBits)
def z1z (rs:List Int):Nat:=rs.foldl (fun (g:Nat) n=>Int.gcd (g:Int) n) 0
theorem z3O:∀(rs:List Int) (g0:Nat),(((rs.foldl (fun (g:Nat) n=>Int.gcd (g:Int) n) g0:Nat):Int)∣(g0:Int))∧∀n∈rs,((rs.foldl (fun (g:Nat) n=>Int.gcd (g:Int) n) g0:Nat):Int)∣n
 |[],g0=>⟨Int.dvd_refl _,fun n h=>by simp at h⟩
 |m::r,g0=>by
  obtain⟨h1,h2⟩:=z3O r (Int.gcd (g0:Int) m)
  rw[q1W]
  refine⟨Int.dvd_trans h1 (q1s _ _),fun n hn=>?_⟩
  rcases q0n.mp hn with rfl|hn
  ·exact Int.dvd_trans h1 (q1L _ _)
  ·exact h2 n hn
theorem z3N {rs:List Int}{n:Int} (h:n∈rs):(z1z rs:Int)∣n:=(z3O rs 0).2 n h
theorem z1u {rs:List Int} (h:∃n∈rs,n≠0):0<z1z rs:=by
 obtain⟨n,hn,n0⟩:=h
 have d:=z3N hn
 rcases Nat.eq_zero_or_pos (z1z rs) with z|z
 ·rw[z] at d
  exact absurd (Int.zero_dvd.mp d) n0
 ·exact z
theorem y2u (rs:List Int) (n:Int):z1z (rs++[n])=Int.gcd (z1z rs:Int) n:=by
 unfold z1z
 rw[q1z];rfl
theorem z9h {d:Int}:∀(rs:List Int) (g0:Nat),d∣(g0:Int)→(∀n∈rs,d∣n)→d∣((rs.foldl (fun (g:Nat) n=>Int.gcd (g:Int) n) g0:Nat):Int)
 |[],g0,h,_=>h
 |m::r,g0,h,hr=>z9h r _ (Int.dvd_coe_gcd h (hr m List.mem_cons_self)) fun n hn=>hr n (List.mem_cons_of_mem _ hn)
theorem y4q {rs:List Int}{d:Int} (h:∀n∈rs,d∣n):d∣(z1z rs:Int):=z9h rs 0 (Int.dvd_zero _) h
def z0U:List Int→Int
 |[]=>0
 |n::r=>if n=0 then z0U r else n
theorem z6a {rs:List Int} (h:∃n∈rs,n≠0):z0U rs≠0:=by
 induction rs with
 |nil=>obtain⟨n,hn,_⟩:=h;simp at hn
 |cons m r ih=>
  show (if m=0 then z0U r else m)≠0
  by_cases hm:m=0
  ·rw[if_pos hm]
   obtain⟨n,hn,n0⟩:=h
   rcases q0n.mp hn with rfl|hn
   ·exact absurd hm n0
   ·exact ih ⟨n,hn,n0⟩
  ·rw[if_neg hm];exact hm
def byL (rs:List Int):Int:=if z0U rs<0 then -(z1z rs:Int) else (z1z rs:Int)
def z0m (rs:List Int):List Int:=rs.map fun n=>n.fdiv (byL rs)
theorem z3d {rs:List Int} (h:∃n∈rs,n≠0):byL rs≠0:=by
 have:=z1u h
 unfold byL
 split<;>lia
theorem z3u {rs:List Int}{n:Int} (h:n∈rs):byL rs∣n:=by
 unfold byL
 split
 ·exact Int.neg_dvd.mpr (z3N h)
 ·exact z3N h
theorem fdiv_mul {n s:Int} (h:s∣n):n.fdiv s*s=n:=Int.fdiv_mul_cancel h
theorem fdiv_ne {n s:Int} (h:s∣n) (n0:n≠0):n.fdiv s≠0:=fun z=>by
 have:=fdiv_mul h
 rw[z,Int.zero_mul] at this
 exact n0 this.symm
theorem z1G {n s:Int} (h:s∣n) (s0:s≠0):(n.fdiv s).natAbs ≤n.natAbs:=by
 have e:=congrArg Int.natAbs (fdiv_mul h)
 rw[Int.natAbs_mul] at e
 have:0<s.natAbs:=by lia
 rw[←e]
 exact Nat.le_mul_of_pos_right _ this
theorem y4z {rs:List Int}{k:Nat} (h:∃n∈rs,n≠0) (hb:∀n∈rs,intBits n≤k):intBits (byL rs)≤k:=by
 obtain⟨n,hn,n0⟩:=h
 refine intBits_le_of_natAbs (y:=n) ?_ (hb n hn)
 obtain⟨m,e⟩:=z3u hn
 have m0:m≠0:=fun z=>n0 (by rw[e,z,q0P])
 have e':=congrArg Int.natAbs e
 rw[Int.natAbs_mul] at e'
 rw[e']
 exact Nat.le_mul_of_pos_right _ (by lia)
end Wl
end L2
namespace L2
open PySem PySem.Spec PyProof.Rows
namespace Sd
open Builtin.Int (intBits)
open Fr
end Sd
theorem z2t {xs:List V}{v:V}:y3i (xs++[v]) none (some (-1))=xs:=by
 have e:HT.sIx (xs++[v]).length (xs++[v]).length (some (-1))=xs.length:=by
  simp only[HT.sIx,q0k,q1j]
  split<;>lia
 unfold y3i
 rw[HT.sIx_none,e,List.drop_zero,Nat.sub_zero]
 simp
theorem y2O {xs:List V}{v:V}:¬(HT.sIx (xs++[v]).length 0 none=0∧HT.sIx (xs++[v]).length (xs++[v]).length (some (-1))=(xs++[v]).length):=by
 rintro⟨_,h⟩
 have e:HT.sIx (xs++[v]).length (xs++[v]).length (some (-1))=xs.length:=by
  simp only[HT.sIx,q0k,q1j]
  split<;>lia
 rw[e] at h
 simp at h
end L2
namespace L2
open PySem PySem.Spec PyProof.Rows
open Builtin.Int (intBits)
def TsA (H:Hp) (as:List Addr) (ts:List (List Int)):Prop:=as.length=ts.length∧∀(i:Nat) (a:Addr) (t:List Int),as[i]? =some a→ts[i]? =some t→H a=some (.tup (t.map V.int))
theorem TsA.same {H H':Hp}{as:List Addr}{ts:List (List Int)} (g:Same H H') (h:TsA H as ts):TsA H' as ts:=⟨h.1,fun i a t e1 e2=>g _ _ (h.2 i a t e1 e2)⟩
theorem TsA.nil {H:Hp}:TsA H [] []:=⟨rfl,fun i a t e=>by simp at e⟩
theorem TsA.snoc {H:Hp}{as:List Addr}{ts:List (List Int)}{r:Addr}{t:List Int} (h:TsA H as ts) (e:H r=some (.tup (t.map V.int))):TsA H (as++[r]) (ts++[t]):=by
 refine⟨by simp[h.1],fun i a p e1 e2=>?_⟩
 by_cases hi:i<as.length
 ·rw[q0D hi] at e1
  rw[q0D (by rw[←h.1];exact hi)] at e2
  exact h.2 i a p e1 e2
 ·rw[q0v (by lia)] at e1
  rw[q0v (by rw[←h.1];lia),←h.1] at e2
  have hz:i - as.length=0:=by
   have:=(q0H.mp e1).1
   simp at this
   lia
  rw[hz] at e1 e2
  cases e1;cases e2
  exact e
def dtT (t:List Int):Dt:= .t (t.map Dt.i)
theorem TsA.isDs {K:PySem.W.Frag}{H:Hp}:∀{as:List Addr}{ts:List (List Int)},TsA H as ts→IsDs K H (as.map V.ref) (ts.map dtT)
 |[],[],_=> .nil
 |a::r,t::q,h=> .cons (.t (SqT.of (h.2 0 a t rfl rfl)) (z6d t)) (TsA.isDs ⟨by simpa using h.1,fun i b u e1 e2=>h.2 (i+1) b u (by simpa using e1) (by simpa using e2)⟩)
 |[],_::_,h=>by have:=h.1;simp at this
 |_::_,[],h=>by have:=h.1;simp at this
theorem y1E:∀(ts us:List (List Int)),Dt.oks 8 (ts.map dtT) (us.map dtT)=true
 |[],_=>by simp[Dt.oks]
 |_::_,[]=>by simp[Dt.oks]
 |t::r,u::q=>by
  simp only[q0q,Dt.oks,q1b]
  exact⟨z5S 7 t u,y1E r q⟩
theorem y7D {K:PySem.W.Frag}{H:Hp}{l:Addr}{as:List Addr}{ts:List (List Int)} (h:H l=some (.lst (as.map V.ref))) (t:TsA H as ts):IsD K H (.ref l) (.l (ts.map dtT)):= .l (SqL.of h) t.isDs
theorem y2P {xs:List V}{hi:Int} (h1:0≤hi) (h2:hi≤xs.length):y3i xs none (some hi)=xs.take hi.toNat:=by
 have e2:HT.sIx xs.length xs.length (some hi)=hi.toNat:=by
  show (if hi<0 then _ else _)=_
  rw[if_neg (by lia)];lia
 unfold y3i
 rw[e2,HT.sIx_none,List.drop_zero,Nat.sub_zero]
namespace Wl
end Wl
end L2
set_option maxHeartbeats 1000000
namespace L2
namespace Rk
inductive Sm (A:List (Nat→Int)):(Nat→Int)→Prop
 |zero:Sm A (fun _=>0)
 |more (c:Int) {r x:Nat→Int}:r∈A→Sm A x→Sm A (fun j=>c*r j+x j)
theorem Sm.cast {A:List (Nat→Int)}{x y:Nat→Int} (h:Sm A x) (e:∀j,x j=y j):Sm A y:=by
 rw[show y=x from funext fun j=>(e j).symm];exact h
theorem Sm.add {A:List (Nat→Int)}{x y:Nat→Int} (h:Sm A x) (h2:Sm A y):Sm A (fun j=>x j+y j):=by
 induction h with
 |zero=>exact h2.cast fun j=>by simp
 |more c hr _ ih=>exact (Sm.more c hr ih).cast fun j=>by dsimp only;lia
theorem Sm.mul {A:List (Nat→Int)}{x:Nat→Int} (c:Int) (h:Sm A x):Sm A (fun j=>c*x j):=by
 induction h with
 |zero=>exact Sm.zero.cast fun j=>by simp
 |more d hr _ ih=>exact (Sm.more (c*d) hr ih).cast fun j=>by dsimp only;grind
theorem Sm.one {A:List (Nat→Int)}{r:Nat→Int} (h:r∈A):Sm A r:=(Sm.more 1 h Sm.zero).cast fun j=>by simp
def In (A:List (Nat→Int)) (x:Nat→Int):Prop:=∃d:Int,d≠0∧Sm A fun j=>d*x j
theorem In.one {A:List (Nat→Int)}{r:Nat→Int} (h:r∈A):In A r:=⟨1,by decide,(Sm.one h).cast fun j=>by simp⟩
theorem In.of {A:List (Nat→Int)}{x:Nat→Int} (h:Sm A x):In A x:=⟨1,by decide,h.cast fun j=>by simp⟩
theorem In.zero {A:List (Nat→Int)}:In A fun _=>0:=In.of Sm.zero
theorem In.add {A:List (Nat→Int)}{x y:Nat→Int} (h:In A x) (h2:In A y):In A fun j=>x j+y j:=by
 obtain⟨d,d0,hd⟩:=h
 obtain⟨e,e0,he⟩:=h2
 exact⟨d*e,q1g d0 e0,((hd.mul e).add (he.mul d)).cast fun j=>by dsimp only;grind⟩
theorem In.mul {A:List (Nat→Int)}{x:Nat→Int} (c:Int) (h:In A x):In A fun j=>c*x j:=by
 obtain⟨d,d0,hd⟩:=h
 exact⟨d,d0,(hd.mul c).cast fun j=>by dsimp only;grind⟩
theorem In.div {A:List (Nat→Int)}{x:Nat→Int}{c:Int} (c0:c≠0) (h:In A fun j=>c*x j):In A x:=by
 obtain⟨d,d0,hd⟩:=h
 exact⟨d*c,q1g d0 c0,hd.cast fun j=>by dsimp only;grind⟩
theorem In.cast {A:List (Nat→Int)}{x y:Nat→Int} (h:In A x) (e:∀j,x j=y j):In A y:=by
 rw[show y=x from funext fun j=>(e j).symm];exact h
theorem In.sub {A B:List (Nat→Int)} (h:∀r∈A,In B r) {x:Nat→Int} (hx:In A x):In B x:=by
 obtain⟨d,d0,hd⟩:=hx
 have:∀y,Sm A y→In B y:=fun y hy=>by
  induction hy with
  |zero=>exact In.zero
  |more c hr _ ih=>exact ((h _ hr).mul c).add ih
 exact In.div d0 (this _ hd)
theorem In.same {A B:List (Nat→Int)} (h:∀r∈A,In B r) (h2:∀r∈B,In A r):In A=In B:=funext fun _=>propext ⟨In.sub h,In.sub h2⟩
open Classical in
noncomputable def dim:Nat→((Nat→Int)→Prop)→Nat
 |0,_=>0
 |m+1,S=>(if ∃x,S x∧x 0≠0 then 1 else 0)+dim m fun y=>∃x,S x∧x 0=0∧∀j,y j=x (j+1)
open Classical in
theorem z9o:∀(m:Nat) (S:(Nat→Int)→Prop),dim (m+1) S=dim m S+(if ∃x,S x∧(∀j,j<m→x j=0)∧x m≠0 then 1 else 0)
 |0,S=>by
  simp only[dim]
  have e:(∃x,S x∧x 0≠0)↔∃x,S x∧(∀j,j<0→x j=0)∧x 0≠0:=⟨fun⟨x,h1,h2⟩=>⟨x,h1,fun j h=>by lia,h2⟩,fun⟨x,h1,_,h2⟩=>⟨x,h1,h2⟩⟩
  simp only[e]
  lia
 |m+1,S=>by
  rw[dim,z9o m,dim]
  have e:(∃y:Nat→Int,(∃x,S x∧x 0=0∧∀j,y j=x (j+1))∧(∀j,j<m→y j=0)∧y m≠0)↔∃x,S x∧(∀j,j<m+1→x j=0)∧x (m+1)≠0:=by
   constructor
   ·rintro⟨y,⟨x,h1,h2,h3⟩,h4,h5⟩
    refine⟨x,h1,fun j hj=>?_,by rw[←h3];exact h5⟩
    cases j with
    |zero=>exact h2
    |succ j=>rw[←h3];exact h4 j (by lia)
   ·rintro⟨x,h1,h2,h3⟩
    exact⟨fun j=>x (j+1),⟨x,h1,h2 0 (by lia),fun _=>rfl⟩,fun j hj=>h2 (j+1) (by lia),h3⟩
  simp only[e]
  lia
def sh (x:Nat→Int):Nat→Int:=fun j=>x (j+1)
theorem Sm.head0 {A:List (Nat→Int)} (h:∀r∈A,r 0=0) {x:Nat→Int} (hx:Sm A x):x 0=0:=by
 induction hx with
 |zero=>rfl
 |more c hr _ ih=>dsimp only;rw[h _ hr,ih];lia
theorem Sm.sh {A:List (Nat→Int)}{x:Nat→Int} (hx:Sm A x):Sm (A.map sh) (Rk.sh x):=by
 induction hx with
 |zero=>exact Sm.zero
 |more c hr _ ih=>exact Sm.more c (List.mem_map_of_mem hr) ih
def zs (y:Nat→Int):Nat→Int
 |0=>0
 |j+1=>y j
theorem z9n {A:List (Nat→Int)}{m:Nat} (h:∀r∈A,r 0=0):dim (m+1) (In A)=dim m (In (A.map sh)):=by
 rw[dim,if_neg,Nat.zero_add]
 ·congr 1
  funext y
  refine propext ⟨?_,?_⟩
  ·rintro⟨x,⟨d,d0,hd⟩,h0,hy⟩
   exact⟨d,d0,hd.sh.cast fun j=>by show d*x (j+1)=_;rw[hy]⟩
  ·rintro⟨d,d0,hd⟩
   refine⟨zs y,⟨d,d0,?_⟩,rfl,fun _=>rfl⟩
   have:∀z,Sm (A.map sh) z→Sm A (zs z):=fun z hz=>by
        induction hz with
        |zero=>exact Sm.zero.cast fun j=>by cases j<;>rfl
        |more c hr _ ih=>
         obtain⟨r,hr2,rfl⟩:=q0f.mp hr
         refine (Sm.more c hr2 ih).cast fun j=>?_
         cases j with
         |zero=>show c*r 0+0=0;rw[h r hr2];lia
         |succ j=>rfl
   refine (this _ hd).cast fun j=>?_
   cases j with
   |zero=>show (0:Int)=d*0;lia
   |succ j=>rfl
 ·rintro⟨x,⟨d,d0,hd⟩,h0⟩
  have:=Sm.head0 h hd
  exact h0 ((q1q.mp this).resolve_left d0)
def cl (h r:Nat→Int):Nat→Int:=fun j=>h 0*r j - r 0*h j
theorem y4u {A B:List (Nat→Int)}{h:Nat→Int}{m:Nat} (h0:h 0≠0) (hA:∀r,r∈A↔r=h∨r∈B):dim (m+1) (In A)=1+dim m (In (B.map fun r=>sh (cl h r))):=by
 have hh:h∈A:=(hA h).mpr (.inl rfl)
 rw[dim,if_pos ⟨h,In.one hh,h0⟩]
 congr 2
 funext y
 refine propext ⟨?_,?_⟩
 ·rintro⟨x,⟨d,d0,hd⟩,hx,hy⟩
  have key:∀z,Sm A z→Sm (B.map fun r=>sh (cl h r)) (sh (cl h z)):=fun z hz=>by
   induction hz with
   |zero=>exact Sm.zero.cast fun j=>by show (0:Int)=h 0*0 - 0*h (j+1);lia
   | @more c r x hr _ ih=>
     rcases (hA r).mp hr with rfl|hb
     ·exact ih.cast fun j=>by show r 0*x (j+1) - x 0*r (j+1)=r 0*(c*r (j+1)+x (j+1)) - (c*r 0+x 0)*r (j+1);grind
     ·exact (Sm.more c (q0L (f:=fun r=>sh (cl h r)) hb) ih).cast fun j=>by
         show c*(h 0*r (j+1) - r 0*h (j+1))+(h 0*x (j+1) - x 0*h (j+1))=h 0*(c*r (j+1)+x (j+1)) - (c*r 0+x 0)*h (j+1)
         grind
  refine⟨h 0*d,q1g h0 d0,(key _ hd).cast fun j=>?_⟩
  show h 0*(d*x (j+1)) - d*x 0*h (j+1)=h 0*d*y j
  rw[hx,hy];grind
 ·rintro⟨d,d0,hd⟩
  refine⟨zs y,⟨d,d0,?_⟩,rfl,fun _=>rfl⟩
  have key:∀z,Sm (B.map fun r=>sh (cl h r)) z→Sm A (zs z):=fun z hz=>by
   induction hz with
   |zero=>exact Sm.zero.cast fun j=>by cases j<;>rfl
   |more c hr _ ih=>
    obtain⟨r,hr2,rfl⟩:=q0f.mp hr
    refine (Sm.more (c*h 0) ((hA r).mpr (.inr hr2)) (Sm.more (-(c*r 0)) hh ih)).cast fun j=>?_
    cases j with
    |zero=>show c*h 0*r 0+(-(c*r 0)*h 0+0)=0;grind
    |succ j=>show c*h 0*r (j+1)+(-(c*r 0)*h (j+1)+_)=c*(h 0*r (j+1) - r 0*h (j+1))+_;grind [zs]
  refine (key _ hd).cast fun j=>?_
  cases j with
  |zero=>show (0:Int)=d*0;lia
  |succ j=>rfl
inductive Ech:Nat→List (Nat→Int)→Prop
 |nil {m:Nat}:Ech m []
 |skip {m:Nat}{A:List (Nat→Int)}:(∀r∈A,r 0=0)→Ech m (A.map sh)→Ech (m+1) A
 |head {m:Nat}{h:Nat→Int}{B:List (Nat→Int)}:h 0≠0→(∀r∈B,r 0=0)→Ech m (B.map sh)→Ech (m+1) (h::B)
theorem y2G:∀m:Nat,dim m (In [])=0
 |0=>rfl
 |m+1=>by rw[z9n (fun r h=>by simp at h)];exact y2G m
theorem Ech.dim {m:Nat}{A:List (Nat→Int)} (h:Ech m A):Rk.dim m (In A)=A.length:=by
 induction h with
 |nil=>exact y2G _
 |skip h _ ih=>rw[z9n h,ih,List.length_map]
 | @head m h B h0 hB _ ih=>
   rw[y4u h0 (B:=B) (fun r=>by simp)]
   have e:In (B.map fun r=>sh (cl h r))=In (B.map sh):=by
    have ec:∀r∈B,sh (cl h r)=fun j=>h 0*sh r j:=fun r hr=>funext fun j=>by
        show h 0*r (j+1) - r 0*h (j+1)=h 0*r (j+1)
        rw[hB r hr];lia
    refine In.same (fun r hr=>?_) (fun r hr=>?_)
    ·obtain⟨u,hu,rfl⟩:=q0f.mp hr
     rw[ec u hu]
     exact In.mul _ (In.one (q0L hu))
    ·obtain⟨u,hu,rfl⟩:=q0f.mp hr
     refine In.div h0 ?_
     rw[←ec u hu]
     exact In.one (q0L (f:=fun r=>sh (cl h r)) hu)
   rw[e,ih,q0a,q0J];lia
def z9x (m:Nat) (p:(Nat→Int)×Nat):Prop:=p.2<m∧p.1 p.2≠0∧∀j,j<p.2→p.1 j=0
theorem y5e:∀(m:Nat) (ps:List ((Nat→Int)×Nat)),ps.Pairwise (fun a b=>a.2<b.2)→(∀p∈ps,z9x m p)→Ech m (ps.map Prod.fst)
 |_,[],_,_=> .nil
 |0,p::_,_,h=>absurd (h p List.mem_cons_self).1 (by lia)
 |m+1,p::ps,hp,h=>by
  have low:∀q∈ps,p.2<q.2:=(q1P.mp hp).1
  have down:∀qs:List ((Nat→Int)×Nat),qs.Pairwise (fun a b=>a.2<b.2)→(∀q∈qs,z9x (m+1) q∧0<q.2)→Ech m ((qs.map Prod.fst).map sh):=fun qs h1 h2=>by
   have:=y5e m (qs.map fun q=>(sh q.1,q.2 - 1)) ?_ ?_
   ·rw[q0K] at this ⊢
    exact this
   ·rw[q1a]
    refine List.Pairwise.imp_of_mem (fun {a b} ha hb hab=>?_) h1
    have:=(h2 a ha).2
    have:=(h2 b hb).2
    show a.2 - 1<b.2 - 1
    lia
   ·intro q hq
    obtain⟨u,hu,rfl⟩:=q0f.mp hq
    obtain⟨⟨y1,y2,y3⟩,y4⟩:=h2 u hu
    refine⟨by show u.2 - 1<m;lia,?_,fun j hj=>?_⟩
    ·show u.1 (u.2 - 1+1)≠0
     rw[Nat.sub_add_cancel y4];exact y2
    ·exact y3 (j+1) (by have:j<u.2 - 1:=hj;lia)
  obtain⟨y1,y2,y3⟩:=h p q0l
  by_cases h0:p.2=0
  ·rw[h0] at y2
   refine .head y2 (fun r hr=>?_) (down ps (q1P.mp hp).2 fun q hq=>⟨h q (q0j _ hq),by have:=low q hq;lia⟩)
   obtain⟨q,hq,rfl⟩:=q0f.mp hr
   exact (h q (q0j _ hq)).2.2 0 (by have:=low q hq;lia)
  ·have pos:∀q∈p::ps,0<q.2:=fun q hq=>by
    rcases q0n.mp hq with rfl|hq
    ·lia
    ·have:=low q hq;lia
   refine .skip (fun r hr=>?_) (down (p::ps) hp fun q hq=>⟨h q hq,pos q hq⟩)
   obtain⟨q,hq,rfl⟩:=q0f.mp hr
   exact (h q hq).2.2 0 (pos q hq)
def v (r:List Int):Nat→Int:=fun j=>r.getD j 0
theorem y6K {f:Int→Int→Int} (f0:f 0 0=0):∀(r h:List Int),r.length=h.length→∀j,v (List.zipWith f r h) j=f (v r j) (v h j)
 |[],[],_,j=>by show (0:Int)=f 0 0;rw[f0]
 |x::r,y::h,e,0=>rfl
 |x::r,y::h,e,j+1=>y6K f0 r h (by simpa using e) j
 |[],_::_,e,_=>by simp at e
 |_::_,[],e,_=>by simp at e
end Rk
end L2
namespace L2
namespace Rk
structure Red (m:Nat) (R:List ((Nat→Int)×Nat)):Prop where
 lead:∀p∈R,z9x m p
 up:R.Pairwise fun a b=>a.2<b.2
 off:∀p∈R,∀q∈R,p.2≠q.2→p.1 q.2=0
theorem Red.dim {m n:Nat}{R:List ((Nat→Int)×Nat)} (h:Red m R) (hn:m≤n):Rk.dim n (In (R.map Prod.fst))=R.length:=by
 rw[(y5e n R h.up fun p hp=>⟨by have:=(h.lead p hp).1;lia,(h.lead p hp).2⟩).dim,q0a]
def z2e {α:Type} (f:α→Int):List α→Int
 |[]=>0
 |a::l=>f a+z2e f l
theorem Red.more {m:Nat}{R R':List ((Nat→Int)×Nat)}{x:Nat→Int}{l:Nat} (k:(Nat→Int)×Nat→Nat→Int) (h:Red m R) (hx:z9x m (x,l)) (hz:∀p∈R,x p.2=0)
 (hk:∀p∈R,∃s own less:Int,s≠0∧own≠0∧own*p.1 l=less*x l∧∀j,s*k p j=own*p.1 j - less*x j)
 (hm:∀q,q∈R'↔q=(x,l)∨∃p∈R,q=(k p,p.2)) (hu:R'.Pairwise fun a b=>a.2<b.2):
 Red m R'∧In (R'.map Prod.fst)=In (x::R.map Prod.fst):=by
 have s0:∀{s a:Int},s≠0→s*a=0→a=0:=fun h1 h2=>(q1q.mp h2).resolve_left h1
 have less0:∀p∈R,∀less own:Int,own*p.1 l=less*x l→l<p.2→less=0:=fun p hp less own e hl=>by
  rw[(h.lead p hp).2.2 l hl,q0P] at e
  exact (q1q.mp e.symm).resolve_right hx.2.1
 have ne:∀p∈R,p.2≠l:=fun p hp e=>hx.2.1 (by show x l=0;rw[←e];exact hz p hp)
 refine⟨⟨fun q hq=>?_,hu,fun a ha b hb hne=>?_⟩,?_⟩
 ·rcases (hm q).mp hq with rfl|⟨p,hp,rfl⟩
  ·exact hx
  ·obtain⟨s,own,less,s1,o1,e1,e2⟩:=hk p hp
   obtain⟨y1,y2,y3⟩:=h.lead p hp
   refine⟨y1,fun z=>?_,fun j hj=>s0 s1 ?_⟩
   ·have:=e2 p.2
    rw[show k p p.2=0 from z,hz p hp,q0P,q0P,Int.sub_zero] at this
    exact y2 (s0 o1 this.symm)
   ·show s*k p j=0
    rw[e2,y3 j hj]
    by_cases hl:l<p.2
    ·rw[less0 p hp less own e1 hl];lia
    ·rw[show x j=0 from hx.2.2 j (by have:=ne p hp;have:j<p.2:=hj;show j<l;lia)];lia
 ·rcases (hm a).mp ha with rfl|⟨p,hp,rfl⟩<;>rcases (hm b).mp hb with rfl|⟨q,hq,rfl⟩
  ·exact absurd rfl hne
  ·exact hz q hq
  ·obtain⟨s,own,less,s1,o1,e1,e2⟩:=hk p hp
   refine s0 s1 ?_
   show s*k p l=0
   rw[e2,e1];lia
  ·obtain⟨s,own,less,s1,o1,e1,e2⟩:=hk p hp
   refine s0 s1 ?_
   show s*k p q.2=0
   rw[e2,h.off p hp q hq hne,hz q hq];lia
 ·have hxm:x∈R'.map Prod.fst:=q0f.mpr ⟨(x,l),(hm _).mpr (.inl rfl),rfl⟩
  refine In.same (fun r hr=>?_) (fun r hr=>?_)
  ·obtain⟨q,hq,rfl⟩:=q0f.mp hr
   rcases (hm q).mp hq with rfl|⟨p,hp,rfl⟩
   ·exact In.one q0l
   ·obtain⟨s,own,less,s1,o1,e1,e2⟩:=hk p hp
    refine In.div s1 ?_
    have a1:In (x::R.map Prod.fst) p.1:=In.one (q0j _ (q0L hp))
    have a2:In (x::R.map Prod.fst) x:=In.one q0l
    exact ((a1.mul own).add (a2.mul (-less))).cast fun j=>by rw[e2];grind
  ·rcases q0n.mp hr with rfl|hr
   ·exact In.one hxm
   ·obtain⟨p,hp,rfl⟩:=q0f.mp hr
    obtain⟨s,own,less,s1,o1,e1,e2⟩:=hk p hp
    refine In.div o1 ?_
    have a1:In (R'.map Prod.fst) (k p):=In.one (q0f.mpr ⟨(k p,p.2),(hm _).mpr (.inr ⟨p,hp,rfl⟩),rfl⟩)
    have a2:In (R'.map Prod.fst) x:=In.one hxm
    exact ((a1.mul s).add (a2.mul less)).cast fun j=>by rw[e2];grind
theorem y1n {m:Nat}{R:List ((Nat→Int)×Nat)} (h:Red m R) {q:(Nat→Int)×Nat} (hq:q∈R) {x y x0:Nat→Int}{own less c:Int} (o:own≠0) (e:own*x q.2=less*q.1 q.2) (hy:∀j,y j=own*x j - less*q.1 j)
 (hc:c≠0) (hs:Sm (R.map Prod.fst) fun j=>x j - c*x0 j):y q.2=0∧(∀p∈R,x p.2=0→y p.2=0)∧own*c≠0∧Sm (R.map Prod.fst) fun j=>y j - own*c*x0 j:=by
 have y0:y q.2=0:=by rw[hy,e];lia
 refine⟨y0,fun p hp hz=>?_,q1g o hc,?_⟩
 ·by_cases hne:p.2=q.2
  ·rw[hne];exact y0
  ·rw[hy,hz,h.off q hq p hp fun z=>hne z.symm];lia
 ·exact (Sm.more (-less) (q0L hq) (hs.mul own)).cast fun j=>by rw[hy];grind
theorem z6F {A:List (Nat→Int)}{x x0:Nat→Int}{c:Int} (hc:c≠0) (hs:Sm A fun j=>x j - c*x0 j):In (x::A)=In (x0::A):=by
 have up:∀{r:Nat→Int}{z:Nat→Int},Sm A z→In (r::A) z:=fun h=>In.sub (fun r hr=>In.one (q0j _ hr)) (In.of h)
 refine In.same (fun r hr=>?_) (fun r hr=>?_)
 ·rcases q0n.mp hr with rfl|hr
  ·exact ((up hs).add ((In.one q0l).mul c)).cast fun j=>by lia
  ·exact In.one (q0j _ hr)
 ·rcases q0n.mp hr with rfl|hr
  ·refine In.div hc ?_
   exact ((In.one (r:=x) q0l).add ((up hs).mul (-1))).cast fun j=>by grind
  ·exact In.one (q0j _ hr)
theorem In.mono {A B:List (Nat→Int)} (h:∀r∈A,r∈B) {x:Nat→Int} (hx:In A x):In B x:=In.sub (fun r hr=>In.one (h r hr)) hx
theorem y1o {A:List (Nat→Int)}{x x0:Nat→Int}{c:Int} (hc:c≠0) (hs:Sm A fun j=>x j - c*x0 j) (h0:∀j,x j=0):In (x0::A)=In A:=by
 have hx:In A x0:=In.div hc (((In.of hs).mul (-1)).cast fun j=>by rw[h0];grind)
 refine In.same (fun r hr=>?_) (fun r hr=>In.one (q0j _ hr))
 rcases q0n.mp hr with rfl|hr
 ·exact hx
 ·exact In.one hr
theorem y4t {A:List (Nat→Int)}{m:Nat}{x:Nat→Int} (h:In A x) (h0:∀j,j<m→x j=0) (h1:x m≠0):dim (m+1) (In A)=dim m (In A)+1:=by
 rw[z9o,if_pos ⟨x,h,h0,h1⟩]
end Rk
end L2
namespace L2
open PySem PySem.Spec PyProof.Rows
open Builtin.Int (intBits)
namespace Rk
def fp (r:List Int):Nat:=r.findIdx (· != 0)
theorem y4m {r:List Int} (h:∃n∈r,n≠0):fp r<r.length:=by
 unfold fp
 rw[List.findIdx_lt_length]
 obtain⟨n,hn,h0⟩:=h
 exact⟨n,hn,by simpa using h0⟩
theorem z1K {r:List Int} (h:∃n∈r,n≠0):v r (fp r)≠0:=by
 have hl:=y4m h
 show r.getD (fp r) 0≠0
 rw[q0b,q0c hl,Option.getD_some]
 have:=List.findIdx_getElem (xs:=r) (p:=fun n=>n != 0) (w:=hl)
 intro z
 have z':r[List.findIdx (fun n=>n != 0) r]=0:=z
 rw[z'] at this
 exact absurd this (by decide)
theorem z0Z {r:List Int}{j:Nat} (h:j<fp r):v r j=0:=by
 show r.getD j 0=0
 rw[q0b]
 cases e:r[j]? with
 |none=>rfl
 |some n=>
  obtain⟨hl,e2⟩:=q0H.mp e
  have:=List.not_of_lt_findIdx (p:=fun n=>n != 0) (xs:=r) h
  rw[←e2]
  simpa using this
theorem z2j {r:List Int}{l:Nat} (h1:v r l≠0) (h2:∀j,j<l→v r j=0):fp r=l:=by
 have hex:∃n∈r,n≠0:=by
  have hl:l<r.length:=q0p fun hn=>h1 (by
   show r.getD l 0=0
   rw[q0b,q1p (by lia)];rfl)
  refine⟨r[l],q0z hl,fun z=>h1 ?_⟩
  show r.getD l 0=0
  rw[q0b,q0c hl,Option.getD_some,z]
 rcases Nat.lt_trichotomy (fp r) l with h|h|h
 ·exact absurd (h2 _ h) (z1K hex)
 ·exact h
 ·exact absurd (z0Z h) h1
theorem z5l:∀(r:List Int) (k:Nat),(∃n∈r,n≠0)→((((r.map V.int).mapIdx fun i x=>(V.int ((i+k:Nat):Int),x)).filter fun c=>match c.2 with| .int n=> !decide (V.int n=V.int 0)|_=>false).map Prod.fst)[0]? =some (V.int ((fp r+k:Nat):Int))
 |[],_,h=>by obtain⟨n,hn,_⟩:=h;simp at hn
 |m::r,k,h=>by
  rw[q0q,List.mapIdx_cons]
  by_cases hm:m=0
  ·subst hm
   rw[q0V (by simp)]
   have h':∃n∈r,n≠0:=by
        obtain⟨n,hn,h0⟩:=h
        rcases q0n.mp hn with rfl|hn
        ·exact absurd rfl h0
        ·exact⟨n,hn,h0⟩
   have ih:=z5l r (k+1) h'
   have e:fp (0::r)=fp r+1:=by unfold fp;rw[List.findIdx_cons];rfl
   rw[e,show fp r+1+k=fp r+(k+1) by lia]
   rw[show (fun i x=>(fun i x=>(V.int ((i+k:Nat):Int),x)) (i+1) x)=(fun (i:Nat) (x:V)=>(V.int ((i+(k+1):Nat):Int),x)) from by funext i x;show (V.int ((i+1+k:Nat):Int),x)=_;rw[show i+1+k=i+(k+1) by lia]]
   exact ih
  ·rw[q0O (by simp[hm])]
   have e:fp (m::r)=0:=by unfold fp;rw[List.findIdx_cons,show (m != 0)=true from by simpa using hm];rfl
   rw[e];rfl
def z3o (xs rs:List Int):Int:=(v rs (fp rs)).fdiv (Int.gcd (v rs (fp rs)) (v xs (fp rs)))
def z1J (xs rs:List Int):Int:=(v xs (fp rs)).fdiv (Int.gcd (v rs (fp rs)) (v xs (fp rs)))
def z0n (xs rs:List Int):List Int:=List.zipWith (fun one other=>z3o xs rs*one - z1J xs rs*other) xs rs
theorem z6W {a b:Int} (h:a≠0):((Int.gcd a b:Nat):Int)≠0:=fun z=>h (q2d.mp (Int.ofNat_eq_zero.mp z)).1
theorem z5e {xs rs:List Int} (h:∃n∈rs,n≠0):z3o xs rs≠0:=Wl.fdiv_ne (q1s ..) (z1K h)
theorem z2T {xs rs:List Int} (h:∃n∈rs,n≠0):z3o xs rs*v xs (fp rs)=z1J xs rs*v rs (fp rs):=by
 have g0:=z6W (b:=v xs (fp rs)) (z1K h)
 have e1:=Wl.fdiv_mul (q1s (a:=v rs (fp rs)) (b:=v xs (fp rs)))
 have e2:=Wl.fdiv_mul (q1L (a:=v rs (fp rs)) (b:=v xs (fp rs)))
 unfold z3o z1J
 generalize ((Int.gcd (v rs (fp rs)) (v xs (fp rs)):Nat):Int)=g at*
 generalize (v rs (fp rs)).fdiv g=o at*
 generalize (v xs (fp rs)).fdiv g=l at*
 rw[←e1,←e2]
 grind
theorem z1x {xs rs:List Int} (hl:xs.length=rs.length) (j:Nat):v (z0n xs rs) j=z3o xs rs*v xs j - z1J xs rs*v rs j:=
 y6K (f:=fun one other=>z3o xs rs*one - z1J xs rs*other) (by simp) xs rs hl j
theorem z1h {xs rs:List Int} (hl:xs.length=rs.length):(z0n xs rs).length =xs.length:=by
 unfold z0n;rw[List.length_zipWith];lia
end Rk
end L2
namespace L2
open PySem PySem.Spec PyProof.Rows
open Builtin.Int (intBits)
namespace Rk
open Wl
theorem z1X {r:List Int} (j:Nat):v (z0m r) j*byL r=v r j:=by
 show (z0m r).getD j 0*byL r=r.getD j 0
 unfold z0m
 rw[q0b,q0b,q0h]
 cases e:r[j]? with
 |none=>simp
 |some n=>
  show n.fdiv (byL r)*byL r=n
  exact fdiv_mul (z3u (q0A e))
theorem plain_len (r:List Int):(z0m r).length =r.length:=by unfold z0m;rw[List.length_map]
theorem z1I {r:List Int} (h:∃n∈r,n≠0) (j:Nat):v (z0m r) j=0↔v r j=0:=by
 constructor
 ·intro z
  rw[←z1X,z];lia
 ·intro z
  have:=z1X (r:=r) j
  rw[z] at this
  exact (q1q.mp this).resolve_right (z3d h)
theorem z5N {r:List Int} (h:∃n∈r,n≠0):∃n∈z0m r,n≠0:=by
 obtain⟨n,hn,h0⟩:=h
 refine⟨n.fdiv (byL r),?_,fdiv_ne (z3u hn) h0⟩
 unfold z0m
 exact q0L hn
theorem z8Z {s:Int}:∀(r:List Int),(∀n∈r,s∣n)→z0U (r.map fun n=>n.fdiv s)=(z0U r).fdiv s
 |[],_=>by show (0:Int)=(0:Int).fdiv s;simp
 |n::r,h=>by
  show (if n.fdiv s=0 then z0U (r.map fun n=>n.fdiv s) else n.fdiv s)=(if n=0 then z0U r else n).fdiv s
  have ih:=z8Z r fun m hm=>h m (q0j _ hm)
  by_cases h0:n=0
  ·subst h0
   rw[if_pos (by simp),if_pos rfl,ih]
  ·rw[if_neg (fdiv_ne (h n q0l) h0),if_neg h0]
theorem z1Y {r:List Int} (h:∃n∈r,n≠0):z0m (z0m r)=z0m r:=by
 have b0:=z3d h
 have dv:∀n∈r,byL r∣n:=fun n hn=>z3u hn
 have el:z0U (z0m r)=(z0U r).fdiv (byL r):=z8Z r dv
 have ln:=z6a h
 have ld:byL r∣z0U r:=by
  have:z0U r∈r∨z0U r=0:=by
   clear h b0 dv el ln
   induction r with
   |nil=>exact .inr rfl
   |cons n r ih=>
    by_cases h0:n=0
    ·have e:z0U (n::r)=z0U r:=if_pos h0
     rw[e]
     rcases ih with ih|ih
     ·exact .inl (q0j _ ih)
     ·exact .inr ih
    ·have e:z0U (n::r)=n:=if_neg h0
     rw[e];exact .inl q0l
  rcases this with h1|h1
  ·exact dv _ h1
  ·exact absurd h1 ln
 have em:=fdiv_mul ld
 have pos:0<z0U (z0m r):=by
  rw[el]
  generalize hq:(z0U r).fdiv (byL r)=q at*
  have hg:0<(z1z r:Int):=by have:=z1u h;lia
  by_cases hn:z0U r<0
  ·have eb:byL r= -(z1z r:Int):=by unfold byL;rw[if_pos hn]
   rw[eb] at em
   refine q0p fun hc=>?_
   have:0≤(-q)*(z1z r:Int):=q1r (by lia) (by lia)
   have e2:q* -(z1z r:Int)=(-q)*(z1z r:Int):=by grind
   lia
  ·have eb:byL r=(z1z r:Int):=by unfold byL;rw[if_neg hn]
   rw[eb] at em
   refine q0p fun hc=>?_
   have:0≤(-q)*(z1z r:Int):=q1r (by lia) (by lia)
   have e2:q*(z1z r:Int)= -((-q)*(z1z r:Int)):=by grind
   lia
 have g1:(z1z (z0m r):Int)∣1:=by
  have hb:∀n∈r,(z1z (z0m r):Int)*byL r∣n:=fun n hn=>by
   have h1:(z1z (z0m r):Int)∣n.fdiv (byL r):=z3N (by unfold z0m;exact List.mem_map_of_mem hn)
   have:=Int.mul_dvd_mul h1 (Int.dvd_refl (byL r))
   rw[fdiv_mul (dv n hn)] at this
   exact this
  have h2:=y4q hb
  have h3:(z1z r:Int)∣byL r:=by
   unfold byL
   split
   ·exact Int.dvd_neg.mpr (Int.dvd_refl _)
   ·exact Int.dvd_refl _
  have h4:=Int.dvd_trans h2 h3
  obtain⟨c,hc⟩:=h4
  refine⟨c,?_⟩
  have:byL r*(z1z (z0m r)*c)=byL r*1:=by rw[Int.mul_one];conv=>rhs;rw[hc]
                                         grind
  exact (Int.eq_of_mul_eq_mul_left b0 this).symm
 have g2:(z1z (z0m r):Int)=1:=by
  have:=Int.eq_one_of_dvd_one (by lia) g1
  exact this
 have eb:byL (z0m r)=1:=by
  unfold byL
  rw[if_neg (by lia),g2]
 have:z0m (z0m r)=(z0m r).map fun n=>n.fdiv 1:=by
  show (z0m r).map (fun n=>n.fdiv (byL (z0m r)))=_
  rw[eb]
 rw[this]
 conv=>rhs;rw[←List.map_id (z0m r)]
 exact q0S fun n _=>by simp
end Rk
end L2
namespace L2
namespace Rk
open Wl
structure Rws (m:Nat) (us:List (List Int)):Prop where
 row:∀t∈us,t.length=m+1∧fp t<m∧z0m t=t
 up:us.Pairwise fun a b=>fp a<fp b
 off:∀s∈us,∀t∈us,fp s≠fp t→v s (fp t)=0
theorem Rws.nil {m:Nat}:Rws m []:=⟨fun t h=>by simp at h,.nil,fun t h=>by simp at h⟩
theorem z1F {t:List Int}{j:Nat} (h:v t j≠0):∃n∈t,n≠0:=by
 have h':t.getD j 0≠0:=h
 rw[q0b] at h'
 cases e:t[j]? with
 |none=>rw[e] at h';exact absurd rfl h'
 |some n=>rw[e] at h';exact⟨n,List.mem_of_getElem? e,h'⟩
theorem z6P {t:List Int} (h:fp t<t.length):∃n∈t,n≠0:=by
 unfold fp at h
 rw[List.findIdx_lt_length] at h
 obtain⟨n,hn,h0⟩:=h
 exact⟨n,hn,by simpa using h0⟩
theorem z6f {r:List Int} (h:∃n∈r,n≠0):fp (z0m r)=fp r:=
 z2j (fun z=>z1K h ((z1I h _).mp z)) fun j hj=>(z1I h j).mpr (z0Z hj)
theorem Rws.nz {m:Nat}{us:List (List Int)} (h:Rws m us) {t:List Int} (ht:t∈us):∃n∈t,n≠0:=by
 obtain⟨a,b,_⟩:=h.row t ht
 exact z6P (by lia)
theorem Rws.inj {m:Nat}{us:List (List Int)} (h:Rws m us) {s t:List Int} (hs:s∈us) (ht:t∈us) (e:fp s=fp t):s=t:=by
 have hu:=h.up
 clear h
 induction hu with
 |nil=>simp at hs
 |cons h1 _ ih=>
  rcases q0n.mp hs with e1|h2<;>rcases q0n.mp ht with e2|h3
  ·rw[e1,e2]
  ·have:=h1 _ h3;rw[e1] at e;lia
  ·have:=h1 _ h2;rw[e2] at e;lia
  ·exact ih h2 h3
theorem Rws.red {m:Nat}{us:List (List Int)} (h:Rws m us):Red m (us.map fun t=>(v t,fp t)):=by
 refine⟨fun p hp=>?_,?_,fun p hp q hq hne=>?_⟩
 ·obtain⟨t,ht,rfl⟩:=q0f.mp hp
  exact⟨(h.row t ht).2.1,z1K (h.nz ht),fun j hj=>z0Z hj⟩
 ·rw[q1a];exact h.up
 ·obtain⟨s,hs,rfl⟩:=q0f.mp hp
  obtain⟨t,ht,rfl⟩:=q0f.mp hq
  exact h.off s hs t ht hne
theorem z4C (us:List (List Int)):(us.map fun t=>(v t,fp t)).map Prod.fst=us.map v:=by rw[q0K];rfl
theorem Rws.dim {m n:Nat}{us:List (List Int)} (h:Rws m us) (hn:m≤n):Rk.dim n (In (us.map v))=us.length:=by
 have:=h.red.dim hn
 rw[z4C,q0a] at this
 exact this
theorem y1p {m:Nat}{us:List (List Int)} (h:Rws m us) {xs:List Int}:∀(todo:List (List Int)) (y:List Int) (c:Int) (seen:List (List Int)),(∀t∈todo,t∈us)→(∀t∈seen,t∈us∧v y (fp t)=0)→y.length=m+1→c≠0→Sm (us.map v) (fun j=>v y j - c*v xs j)→
 (todo.foldl z0n y).length =m+1∧(∀t∈seen++todo,v (todo.foldl z0n y) (fp t)=0)∧∃c',c'≠0∧Sm (us.map v) fun j=>v (todo.foldl z0n y) j - c'*v xs j
 |[],y,c,seen,_,hs,hl,hc,hS=>⟨hl,fun t ht=>(hs t (by simpa using ht)).2,c,hc,hS⟩
 |t::todo,y,c,seen,ht,hs,hl,hc,hS=>by
  have htu:=ht t q0l
  have hlen:y.length=t.length:=by rw[hl,(h.row t htu).1]
  have st:=y1n (R:=us.map fun t=>(v t,fp t)) h.red (q:=(v t,fp t)) (q0f.mpr ⟨t,htu,rfl⟩) (x:=v y) (y:=v (z0n y t)) (x0:=v xs) (own:=z3o y t) (less:=z1J y t) (c:=c) (z5e (h.nz htu)) (z2T (h.nz htu)) (fun j=>z1x hlen j) hc (by rw[z4C];exact hS)
  rw[z4C] at st
  obtain⟨a1,a2,a3,a4⟩:=st
  have r:=y1p h (xs:=xs) todo (z0n y t) (z3o y t*c) (seen++[t]) (fun s hs'=>ht s (q0j _ hs')) (fun s hs'=>by
   rcases q0I.mp hs' with h1|h1
   ·obtain⟨b1,b2⟩:=hs s h1
    exact⟨b1,a2 (v s,fp s) (q0f.mpr ⟨s,b1,rfl⟩) b2⟩
   ·rw[q0g.mp h1];exact⟨htu,a1⟩) (by rw[z1h hlen,hl]) a3 a4
  rw[q1A,List.singleton_append] at r
  exact r
theorem Rws.rest {m:Nat}{us:List (List Int)} (h:Rws m us) {xs:List Int} (hl:xs.length=m+1):
 (us.foldl z0n xs).length =m+1∧(∀t∈us,v (us.foldl z0n xs) (fp t)=0)∧∃c,c≠0∧Sm (us.map v) fun j=>v (us.foldl z0n xs) j - c*v xs j:=by
 have:=y1p h (xs:=xs) us xs 1 [] (fun t ht=>ht) (fun t ht=>by simp at ht) hl (by decide) (Sm.zero.cast fun j=>by lia)
 simpa using this
def z1y (r:List Int) (t:List Int):List Int:=z0m (z0n t r)
theorem Rws.more {m:Nat}{us us':List (List Int)}{xs:List Int} (h:Rws m us) (hl:xs.length=m+1) (hnz:∃j,j<m∧v (us.foldl z0n xs) j≠0)
 (hp:us'.Perm (us.map (z1y (z0m (us.foldl z0n xs)))++[z0m (us.foldl z0n xs)])) (hs:us'.Pairwise fun a b=>fp a≤fp b):
 Rws m us'∧In (us'.map v)=In (v xs::us.map v)∧us'.length=us.length+1:=by
 obtain⟨r1,r2,c,c0,r3⟩:=h.rest hl
 generalize us.foldl z0n xs=rest at*
 obtain⟨j0,hj0,hj1⟩:=hnz
 have nzr:∃n∈rest,n≠0:=z1F hj1
 have ha:z0m (z0m rest)=z0m rest:=z1Y nzr
 have nza:=z5N nzr
 have la:(z0m rest).length =m+1:=by rw[plain_len,r1]
 have za:∀t∈us,v (z0m rest) (fp t)=0:=fun t ht=>(z1I nzr _).mpr (r2 t ht)
 have fpa:fp (z0m rest)<m:=by
  rw[z6f nzr]
  refine q0p fun hc=>hj1 (z0Z ?_)
  lia
 have spn:In (v (z0m rest)::us.map v)=In (v xs::us.map v):=by
  rw[←z6F c0 r3]
  refine In.same (fun r hr=>?_) (fun r hr=>?_)
  ·rcases q0n.mp hr with rfl|hr
   ·refine In.div (z3d nzr) ?_
    exact (In.one (r:=v rest) q0l).cast fun j=>by rw[←z1X (r:=rest) j,q2a]
   ·exact In.one (q0j _ hr)
  ·rcases q0n.mp hr with rfl|hr
   ·exact ((In.one (r:=v (z0m rest)) q0l).mul (byL rest)).cast fun j=>by rw[←z1X (r:=rest) j,q2a]
   ·exact In.one (q0j _ hr)
 generalize z0m rest=a at*
 have cl:∀t∈us,t.length=a.length:=fun t ht=>by rw[(h.row t ht).1,la]
 have cv:∀t∈us,∀j,v (z0n t a) j=z3o t a*v t j - z1J t a*v a j:=fun t ht j=>z1x (cl t ht) j
 have ne:∀t∈us,fp t≠fp a:=fun t ht e=>z1K nza (by rw[←e];exact za t ht)
 have l0:∀t∈us,fp a<fp t→z1J t a=0:=fun t ht hlt=>by
  have e:=z2T (xs:=t) nza
  rw[z0Z hlt,q0P] at e
  exact (q1q.mp e.symm).resolve_right (z1K nza)
 have kn0:∀t∈us,v (z0n t a) (fp t)≠0:=fun t ht=>by
  rw[cv t ht,za t ht,q0P,Int.sub_zero]
  exact q1g (z5e nza) (z1K (h.nz ht))
 have knz:∀t∈us,∃n∈z0n t a,n≠0:=fun t ht=>z1F (kn0 t ht)
 have kfp0:∀t∈us,fp (z0n t a)=fp t:=fun t ht=>z2j (kn0 t ht) fun j hj=>by
  rw[cv t ht,z0Z hj,q0P]
  by_cases hlt:fp a<fp t
  ·rw[l0 t ht hlt];lia
  ·rw[z0Z (r:=a) (j:=j) (by have:=ne t ht;lia)];lia
 have kfp:∀t∈us,fp (z1y a t)=fp t:=fun t ht=>by unfold z1y;rw[z6f (knz t ht),kfp0 t ht]
 have mem':∀u,u∈us'↔u=a∨∃t∈us,u=z1y a t:=fun u=>by
  rw[hp.mem_iff,q0I,q0f,q0g]
  constructor
  ·rintro (⟨t,ht,rfl⟩|rfl)
   ·exact .inr ⟨t,ht,rfl⟩
   ·exact .inl rfl
  ·rintro (rfl|⟨t,ht,rfl⟩)
   ·exact .inr rfl
   ·exact .inl ⟨t,ht,rfl⟩
 have nd:(us'.map fp).Nodup :=by
  have e:(us.map (z1y a)++[a]).map fp=us.map fp++[fp a]:=by
   rw[q0r,q0K]
   congr 1
   exact q0S fun t ht=>kfp t ht
  refine ((hp.map fp).nodup_iff).mpr ?_
  rw[e]
  refine List.nodup_append.mpr ⟨?_,by simp,fun x hx y hy=>?_⟩
  ·have:(us.map fp).Pairwise (· < ·):=by rw[q1a];exact h.up
   exact this.imp fun hlt=>by lia
  ·rw[q0g] at hy
   obtain⟨t,ht,rfl⟩:=q0f.mp hx
   rw[hy];exact ne t ht
 have up':us'.Pairwise fun a b=>fp a<fp b:=by
  have nd':us'.Pairwise fun a b=>fp a≠fp b:=by
   have:(us'.map fp).Pairwise (· ≠ ·):=nd
   rw[q1a] at this
   exact this
  exact hs.imp₂ (fun hle hne=>by lia) nd'
 let k:(Nat→Int)×Nat→Nat→Int:=fun p=>match us.find? fun t=>fp t==p.2 with
  |some t=>v (z1y a t)
  |none=>fun _=>0
 have kk:∀t∈us,k (v t,fp t)=v (z1y a t):=fun t ht=>by
  show (match us.find? fun s=>fp s==fp t with|some s=>v (z1y a s)|none=>fun _=>0)=_
  cases e:us.find? fun s=>fp s==fp t with
  |none=>
   have:=List.find?_eq_none.mp e t ht
   simp at this
  |some s=>
   have h1:=List.mem_of_find?_eq_some e
   have h2:=List.find?_some e
   rw[h.inj h1 ht (by simpa using h2)]
 have rm:=Red.more (R:=us.map fun t=>(v t,fp t)) (R':=us'.map fun t=>(v t,fp t)) (x:=v a) (l:=fp a) k h.red ⟨fpa,z1K nza,fun j hj=>z0Z hj⟩ (fun p hp=>by
  obtain⟨t,ht,rfl⟩:=q0f.mp hp
  exact za t ht) (fun p hp=>by
  obtain⟨t,ht,rfl⟩:=q0f.mp hp
  refine⟨byL (z0n t a),z3o t a,z1J t a,z3d (knz t ht),z5e nza,z2T nza,fun j=>?_⟩
  rw[kk t ht,q2a]
  show v (z0m (z0n t a)) j*_=_
  rw[z1X,cv t ht]) (fun q=>by
  rw[q0f]
  constructor
  ·rintro⟨u,hu,rfl⟩
   rcases (mem' u).mp hu with rfl|⟨t,ht,rfl⟩
   ·exact .inl rfl
   ·exact .inr ⟨(v t,fp t),q0f.mpr ⟨t,ht,rfl⟩,by rw[kk t ht,kfp t ht]⟩
  ·rintro (rfl|⟨p,hp,rfl⟩)
   ·exact⟨a,(mem' a).mpr (.inl rfl),rfl⟩
   ·obtain⟨t,ht,rfl⟩:=q0f.mp hp
    exact⟨z1y a t,(mem' _).mpr (.inr ⟨t,ht,rfl⟩),by rw[kk t ht,kfp t ht]⟩) (by rw[q1a];exact up')
 rw[z4C,z4C] at rm
 refine⟨⟨fun u hu=>?_,up',fun s hs t ht hne=>?_⟩,rm.2.trans spn,?_⟩
 ·rcases (mem' u).mp hu with rfl|⟨t,ht,rfl⟩
  ·exact⟨la,fpa,ha⟩
  ·refine⟨?_,?_,z1Y (knz t ht)⟩
   ·unfold z1y;rw[plain_len,z1h (cl t ht),cl t ht,la]
   ·rw[kfp t ht];exact (h.row t ht).2.1
 ·exact rm.1.off (v s,fp s) (q0f.mpr ⟨s,hs,rfl⟩) (v t,fp t) (q0f.mpr ⟨t,ht,rfl⟩) hne
 ·rw[hp.length_eq,q0k,q0a];rfl
theorem Rws.same {m:Nat}{us:List (List Int)}{xs:List Int} (h:Rws m us) (hl:xs.length=m+1) (h0:∀j,v (us.foldl z0n xs) j=0):In (us.map v)=In (v xs::us.map v):=by
 obtain⟨_,_,c,c0,r3⟩:=h.rest hl
 exact (y1o c0 r3 h0).symm
theorem Rws.off_all {m:Nat}{us:List (List Int)}{xs:List Int} (h:Rws m us) (hl:xs.length=m+1):In (v xs::us.map v) (v (us.foldl z0n xs)):=by
 obtain⟨_,_,c,c0,r3⟩:=h.rest hl
 rw[←z6F c0 r3]
 exact In.one q0l
end Rk
end L2
namespace L2
namespace Rk
open Wl
theorem v_map {c:Int} (rs:List Int) (j:Nat):v (rs.map fun n=>c*n) j=c*v rs j:=by
 show (rs.map fun n=>c*n).getD j 0=c*rs.getD j 0
 rw[q0b,q0b,q0h]
 cases rs[j]? with
 |none=>simp
 |some n=>rfl
theorem y4T:∀r:List Int,z0U r=v r (fp r)
 |[]=>rfl
 |n::r=>by
  by_cases h0:n=0
  ·have e:z0U (n::r)=z0U r:=if_pos h0
   have e2:fp (n::r)=fp r+1:=by unfold fp;rw[List.findIdx_cons,h0];rfl
   rw[e,e2,y4T r];rfl
  ·have e:z0U (n::r)=n:=if_neg h0
   have e2:fp (n::r)=0:=by unfold fp;rw[List.findIdx_cons,show (n != 0)=true from by simpa using h0];rfl
   rw[e,e2];rfl
end Rk
end L2
namespace L2
namespace Rk
open Wl
theorem z8G {r:List Int} (h:∃n∈r,n≠0) (hp:z0m r=r):byL r=1:=by
 have e:=z1X (r:=r) (fp r)
 rw[hp] at e
 have n0:=z1K h
 have:v r (fp r)*byL r=v r (fp r)*1:=by rw[Int.mul_one];exact e
 exact Int.eq_of_mul_eq_mul_left n0 this
theorem z6I {r:List Int} (h:∃n∈r,n≠0) (hp:z0m r=r):(z1z r:Int)=1:=by
 have hb:=z8G h hp
 unfold byL at hb
 have hg:=z1u h
 split at hb<;>lia
theorem mem_v {r:List Int}{n:Int} (h:n∈r):∃j,v r j=n:=by
 obtain⟨j,hj,e⟩:=q0B.mp h
 refine⟨j,?_⟩
 show r.getD j 0=n
 rw[q0b,q0c hj,e];rfl
theorem y0z {r s:List Int} (hl:r.length=s.length) (h:∀j,v r j=v s j):r=s:=by
 refine List.ext_getElem hl fun j h1 h2=>?_
 have:=h j
 have e1:v r j=r[j]:=by
  show r.getD j 0=_
  rw[q0b,q0c h1];rfl
 have e2:v s j=s[j]:=by
  show s.getD j 0=_
  rw[q0b,q0c h2];rfl
 rw[←e1,←e2,this]
theorem z8O {a b:Int} (ha:0<a):∀(r:List Int) (g0:Nat),b∣a*(g0:Int)→(∀n∈r,b∣a*n)→b∣a*((r.foldl (fun (g:Nat) n=>Int.gcd (g:Int) n) g0:Nat):Int)
 |[],g0,h,_=>h
 |n::r,g0,h,hr=>by
  rw[q1W]
  refine z8O ha r _ ?_ fun m hm=>hr m (q0j _ hm)
  have h1:b∣((Int.gcd (a*(g0:Int)) (a*n):Nat):Int):=Int.dvd_coe_gcd h (hr n q0l)
  rw[Int.gcd_mul_left] at h1
  rw[Int.natCast_mul,Int.natAbs_of_nonneg (by lia)] at h1
  exact h1
theorem y1t {r s:List Int}{a b:Int} (hl:r.length=s.length) (hr:∃n∈r,n≠0) (hs:∃n∈s,n≠0) (pr:z0m r=r) (ps:z0m s=s) (ha:0<a) (hb:0<b) (h:∀j,a*v r j=b*v s j):r=s:=by
 have g1:=z6I hr pr
 have g2:=z6I hs ps
 have d:∀{r s:List Int}{a b:Int},0<a→(z1z r:Int)=1→(∀j,a*v r j=b*v s j)→b∣a:=fun {r s a b} a0 g h=>by
  have:=z8O a0 r 0 (by simp) fun n hn=>by
   obtain⟨j,rfl⟩:=mem_v hn
   exact⟨v s j,h j⟩
  have e:((r.foldl (fun (g:Nat) n=>Int.gcd (g:Int) n) 0:Nat):Int)=1:=g
  rw[e,Int.mul_one] at this
  exact this
 have d1:=d ha g1 h
 have d2:=d hb g2 fun j=>(h j).symm
 have e:a=b:=Int.dvd_antisymm (by lia) (by lia) d2 d1
 subst e
 exact y0z hl fun j=>Int.eq_of_mul_eq_mul_left (by lia) (h j)
end Rk
end L2
namespace L2
open PySem PySem.Spec PyProof.Rows
open Builtin.Int (intBits)
namespace Rk
open Wl
end Rk
end L2
namespace L2
open PySem PySem.Spec PyProof.Rows
open Builtin.Int (intBits)
namespace Rk
open Wl
def dd (acc l:List (List Int)):List (List Int):=l.foldl (fun acc t=>if t∈acc then acc else acc++[t]) acc
theorem y2K (acc:List (List Int)):dd acc []=acc:=rfl
theorem y6y (acc l:List (List Int)) (t:List Int):dd acc (l++[t])=if t∈dd acc l then dd acc l else dd acc l++[t]:=by
 unfold dd
 rw[q1z];rfl
theorem z7d {x:List Int}:∀(l acc:List (List Int)),x∈dd acc l↔x∈acc∨x∈l
 |[],acc=>by simp[y2K]
 |t::l,acc=>by
  have:dd acc (t::l)=dd (if t∈acc then acc else acc++[t]) l:=rfl
  rw[this,z7d l]
  by_cases ht:t∈acc
  ·rw[if_pos ht,q0n]
   constructor
   ·rintro (h|h)
    ·exact .inl h
    ·exact .inr (.inr h)
   ·rintro (h|rfl|h)
    ·exact .inl h
    ·exact .inl ht
    ·exact .inr h
  ·rw[if_neg ht,q0I,q0g,q0n]
   grind
theorem y2J:∀(l acc:List (List Int)),(acc++l).Nodup →dd acc l=acc++l
 |[],acc,_=>by rw[y2K,List.append_nil]
 |t::l,acc,h=>by
  have hn:t∉acc:=fun z=>by
   rw[List.nodup_append] at h
   exact h.2.2 t z t q0l rfl
  have:dd acc (t::l)=dd (acc++[t]) l:=by unfold dd;rw[List.foldl_cons,if_neg hn]
  rw[this,y2J l (acc++[t]) (by rw[q1A];exact h),q1A];rfl
theorem z7e:∀(l acc:List (List Int)),(dd acc l).length ≤acc.length+l.length
 |[],acc=>by rw[y2K];simp
 |t::l,acc=>by
  have:dd acc (t::l)=dd (if t∈acc then acc else acc++[t]) l:=rfl
  rw[this]
  have:=z7e l (if t∈acc then acc else acc++[t])
  rw[q0J]
  split at this
  ·rw[if_pos (by assumption)];lia
  ·rw[if_neg (by assumption)];rw[q0k,q1j] at this;lia
end Rk
end L2
namespace L2
open PySem PySem.Spec PyProof.Rows
open Builtin.Int (intBits)
def LsA (H:Hp) (as:List Addr) (ts:List (List Int)):Prop:=as.length=ts.length∧∀(i:Nat) (a:Addr) (t:List Int),as[i]? =some a→ts[i]? =some t→H a=some (.lst (t.map V.int))
theorem LsA.same {H H':Hp}{as:List Addr}{ts:List (List Int)} (g:Same H H') (h:LsA H as ts):LsA H' as ts:=⟨h.1,fun i a t e1 e2=>g _ _ (h.2 i a t e1 e2)⟩
theorem z2Z {H1 H':Hp}{G F:List V→HO}{g:List Int→List Int} (inj:∀xs ys,G xs=G ys→xs=ys) {as:List Addr}{ts:List (List Int)}{us:List V} (hl:as.length=ts.length) (h:∀(i:Nat) (a:Addr) (t:List Int),as[i]? =some a→ts[i]? =some t→H1 a=some (G (t.map V.int)))
 (e:Each (fun x u=>∃(a:Addr) (t:List Int) (p:Addr),x=V.ref a∧u=V.ref p∧H1 a=some (G (t.map V.int))∧H' p=some (F ((g t).map V.int))) (as.map V.ref) us):
 ∃as':List Addr,us=as'.map V.ref∧as'.length=(ts.map g).length ∧∀(i:Nat) (a:Addr) (t:List Int),as'[i]? =some a→(ts.map g)[i]? =some t→H' a=some (F (t.map V.int)):=by
 induction us generalizing as ts with
 |nil=>
  have:=e.length
  rw[q0a] at this
  have h0:as=[]:=q0Y.mp this
  subst h0
  have h1:ts=[]:=q0Y.mp (by rw[←hl];rfl)
  subst h1
  exact⟨[],rfl,rfl,fun i a t e=>by simp at e⟩
 |cons u us ih=>
  cases as with
  |nil=>cases e
  |cons a as=>
   cases ts with
   |nil=>simp at hl
   |cons t ts=>
    cases e with
    |cons e1 e2=>
     obtain⟨b,t',p,hb,rfl,h1,h2⟩:=e1
     cases hb
     have ht:=h 0 a t rfl rfl
     rw[ht] at h1
     have et:t=t':=by
      have z:t.map V.int=t'.map V.int:=inj _ _ (Option.some.inj h1)
      exact List.map_inj_right (fun x y h=>by injection h) |>.mp z
     subst et
     obtain⟨as',rfl,hh1,hh2⟩:=ih (by simpa using hl) (fun i b u e1 e2=>h (i+1) b u (by simpa using e1) (by simpa using e2)) e2
     refine⟨p::as',rfl,by simpa using hh1,fun i b u e1 e2=>?_⟩
     cases i with
     |zero=>cases e1;cases e2;exact h2
     |succ i=>exact hh2 i b u (by simpa using e1) (by simpa using e2)
namespace Rk
end Rk
end L2
namespace L2
namespace Pt
open Rk
end Pt
end L2
namespace L2
namespace Dm
open Rk
end Dm
end L2
namespace L2
namespace Dm
open Rk Wl
end Dm
end L2
namespace L2
namespace Pt
open Rk Wl
end Pt
end L2
namespace L2
namespace Pt
open Rk Wl Dm
end Pt
end L2
namespace L2
open PySem PySem.Spec PyProof.Rows
section
variable {X:Cx}
end
section
variable {X:Cx}{pins:List (Addr×Obj)}{σ:St}{H:Hp}{s:Shared}
def y7c (K:PySem.W.Frag):R2:=fun x y H Q=>∃(a b:Addr) (xs:List V),x= .ref a∧y= .ref b∧SqL K H a xs∧SqL K H b []∧Q (.bl xs.isEmpty) H
theorem z5R {K:PySem.W.Frag} (hK:X.K=K) (hu:X.A.units+64<cLine):OpR X (compareOp .Eq) (y7c K):=by
 subst hK
 intro pins s σ H x y v u Q I r1 r2 h
 obtain⟨a,b,xs,rfl,rfl,q1,q2,q⟩:=h
 cases (show v=Value.ref a from r1)
 cases (show u=Value.ref b from r2)
 obtain⟨its,rv,p,hz⟩:=I.list q1
 obtain⟨its2,rv2,p2,hz2⟩:=I.list q2
 have l1:=rv.length
 have l2:=rv2.length
 have e2:its2=[]:=q0Y.mp (by rw[←l2];rfl)
 subst e2
 cases xs with
 |nil=>
  have e1:its=[]:=q0Y.mp (by rw[←l1];rfl)
  subst e1
  have t:=SeqAt.RcAt.lists (A:=X.A) (s:=s) (e:=fun _=>true) p.isList p2.isList rfl (by lia) (fun j h1 h2=>by simp at h1)
  exact t _ _ _ _ ⟨.bl true,H,I,rfl,q⟩
 |cons x0 xs=>
  have sz:(its.toArray.size != ([]:List Value).toArray.size)=true:=by
   rw[q0e,←l1]
   simp
  have t:=SeqAt.RcAt.lists_lengths (A:=X.A) (s:=s) p.isList p2.isList sz (by lia)
  exact t _ _ _ _ ⟨.bl false,H,I,rfl,q⟩
end
end L2
set_option maxHeartbeats 4000000
namespace L2
namespace Pt
open Rk Wl Dm
def skp (pl c:Nat):Nat:=if c<pl then c else c+1
def Drw (pl m:Nat) (t u d:List Int) (k:Int):Prop:=∀c,c<m→k*v d c=v t pl*v u (skp pl c) - v u pl*v t (skp pl c)
end Pt
end L2
namespace L2
namespace Pt
open Rk Wl Dm
end Pt
end L2
namespace L2
namespace Pt
open Rk Wl Dm
def z2s (pl:Nat) (z:Int) (y:List Int):List Int:=y.take pl++z::y.drop pl
theorem y7E {m pl:Nat}{x:List Int} (hpl:pl<m+1) (hx:x.length=m+1):x=z2s pl (v x pl) (x.eraseIdx pl):=by
 unfold z2s
 have e:v x pl=x[pl]'(by lia):=by
  show x.getD pl 0=_
  rw[q0b,q0c (by lia)];rfl
 rw[e,q1K,List.take_append_of_le_length (by rw[q0w];lia),List.take_take,Nat.min_self,List.drop_append_of_le_length (by rw[q0w];lia)]
 rw[show (x.take pl).drop pl=[] from List.drop_eq_nil_of_le (by rw[q0w];lia),List.nil_append]
 rw[←q1v (by lia),q1M]
def drR (t u:List Int):List Int:=(z0n u t).eraseIdx (fp t)
def drF (t u:List Int):Option (List Int):=if (drR t u).dropLast.any (· != 0) then some (z0m (drR t u)) else none
def wd (F:List Int→Option (List Int)) (ts:List (List Int)):List (List Int):=dd [] (ts.filterMap F)
theorem z1M (l:List Int) (pl c:Nat):v (l.eraseIdx pl) c=v l (skp pl c):=by
 show (l.eraseIdx pl).getD c 0=l.getD (skp pl c) 0
 rw[q0b,q0b,List.getElem?_eraseIdx]
 unfold skp
 split<;>rfl
theorem y2F {m:Nat}{t u:List Int} (hl:u.length=t.length) (hn:∃n∈t,n≠0):Drw (fp t) m t u (drR t u) (Int.gcd (v t (fp t)) (v u (fp t)):Nat):=by
 intro c _
 unfold drR
 rw[z1M,z1x hl]
 have e1:z3o u t*((Int.gcd (v t (fp t)) (v u (fp t)):Nat):Int)=v t (fp t):=fdiv_mul (q1s ..)
 have e2:z1J u t*((Int.gcd (v t (fp t)) (v u (fp t)):Nat):Int)=v u (fp t):=fdiv_mul (q1L ..)
 generalize ((Int.gcd (v t (fp t)) (v u (fp t)):Nat):Int)=g at*
 rw[←e1,←e2]
 grind
theorem z2k {t u:List Int} (hl:u.length=t.length) (hn:∃n∈t,n≠0):(drR t u).length +1=t.length:=by
 unfold drR
 have:=y4m hn
 rw[List.length_eraseIdx,if_pos (by rw[z1h hl];lia),z1h hl]
 lia
end Pt
end L2
namespace L2
namespace Pt
open Rk Wl Dm
structure WL (m:Nat) (t:List Int):Prop where
 len:t.length=m+1
 pl:z0m t=t
 way:∃j,j<m∧v t j≠0
theorem z6q {t:List Int}{j:Nat} (h:v t j≠0):j<t.length∧v t j∈t:=by
 have h':t.getD j 0≠0:=h
 rw[q0b] at h'
 cases e:t[j]? with
 |none=>rw[e] at h';exact absurd rfl h'
 |some n=>
  have hv:v t j=n:=by show t.getD j 0=n;rw[q0b,e];rfl
  exact⟨(q0H.mp e).1,by rw[hv];exact q0A e⟩
theorem WL.nz {m:Nat}{t:List Int} (h:WL m t):∃n∈t,n≠0:=let ⟨_,_,hj⟩:=h.way;⟨_,(z6q hj).2,hj⟩
theorem WL.fp {m:Nat}{t:List Int} (h:WL m t):fp t<m:=by
 obtain⟨j,hj,hn⟩:=h.way
 refine q0p fun c=>hn (z0Z (r:=t) (by lia))
theorem WL.pos {m:Nat}{t:List Int} (h:WL m t):0<v t (Rk.fp t):=by
 have h1:=z8G h.nz h.pl
 have h2:=z6a h.nz
 rw[←y4T]
 unfold byL at h1
 split at h1
 ·have:=z1u h.nz;lia
 ·lia
theorem z1m {m:Nat}{l:List Int} (hl:l.length=m+1):l.dropLast.any (· != 0)=true↔∃j,j<m∧v l j≠0:=by
 rw[List.any_eq_true]
 have hg:∀j,j<m→l.dropLast[j]? =l[j]? :=fun j hj=>by rw[List.getElem?_dropLast,if_pos (by lia)]
 constructor
 ·rintro⟨n,hn,h0⟩
  obtain⟨j,hj⟩:=q1N.mp hn
  have hjm:j<m:=by
   have:=(q0H.mp hj).1
   rw[List.length_dropLast] at this;lia
  rw[hg j hjm] at hj
  refine⟨j,hjm,?_⟩
  show l.getD j 0≠0
  rw[q0b,hj]
  simpa using h0
 ·rintro⟨j,hj,h0⟩
  have h1:=(z6q h0).1
  have e:l[j]? =some (v l j):=by
   rw[q0c h1]
   show _=some (l.getD j 0)
   rw[q0b,q0c h1];rfl
  exact⟨v l j,q0A (by rw[hg j hj];exact e),by simpa using h0⟩
theorem gcd0 {a b:Int} (h:a≠0):((Int.gcd a b:Nat):Int)≠0:=z6W h
theorem y2E {m:Nat}{t:List Int} (h:WL (m+1) t):drF t t=none:=by
 unfold drF
 have hl:=z2k (t:=t) rfl h.nz
 rw[if_neg]
 intro z
 obtain⟨j,hj,hn⟩:=(z1m (m:=m) (by have:=h.len;lia)).mp z
 have:=y2F (m:=m+2) (t:=t) (u:=t) rfl h.nz j (by lia)
 have e0:v t (fp t)*v t (skp (fp t) j) - v t (fp t)*v t (skp (fp t) j)=0:=by lia
 rw[e0] at this
 exact hn ((q1q.mp this).resolve_left (gcd0 (z1K h.nz)))
theorem y5p {m:Nat}{t:List Int}{ts:List (List Int)} (ht:WL (m+1) t) (hs:∀u∈ts,u.length=m+2):∀d∈wd (drF t) ts,WL m d:=fun d hd=>by
 unfold wd at hd
 rcases (z7d _ _).mp hd with hd|hd
 ·cases hd
 obtain⟨u,hu,hF⟩:=List.mem_filterMap.mp hd
 unfold drF at hF
 split at hF
 ·rename_i c
  have e:=Option.some.inj hF
  have hl:=z2k (t:=t) (u:=u) (by rw[hs u hu,ht.len]) ht.nz
  have hl':(drR t u).length =m+1:=by have:=ht.len;lia
  obtain⟨j,hj,hn⟩:=(z1m hl').mp c
  have nz:∃n∈drR t u,n≠0:=⟨_,(z6q hn).2,hn⟩
  subst e
  exact⟨by rw[plain_len];exact hl',z1Y nz,j,hj,fun z=>hn ((z1I nz j).mp z)⟩
 ·cases hF
theorem z3P:∀(l acc:List (List Int)),acc.Nodup→(dd acc l).Nodup
 |[],acc,h=>h
 |t::l,acc,h=>by
  show (dd (if t∈acc then acc else acc++[t]) l).Nodup
  by_cases ht:t∈acc
  ·rw[if_pos ht];exact z3P l acc h
  ·rw[if_neg ht]
   refine z3P l _ (List.nodup_append.mpr ⟨h,by simp,fun a ha b hb e=>?_⟩)
   rw[q0g.mp hb] at e
   exact ht (e▸ha)
theorem y1P {m:Nat}{t u:List Int} (ht:WL (m+1) t) (hu:WL (m+1) u) (hne:u≠t) (h:∀c,c<m→v (drR t u) c=0):v (drR t u) m≠0:=fun z=>by
 have hc:∀c,c<m+1→v (drR t u) c=0:=fun c hc=>by
  by_cases h':c<m
  ·exact h c h'
  ·rw[show c=m by lia];exact z
 have hd:=y2F (m:=m+1) (t:=t) (u:=u) (by rw[hu.len,ht.len]) ht.nz
 have hfp:fp t<m+1:=ht.fp
 have all:∀j,v t (fp t)*v u j=v u (fp t)*v t j:=fun j=>by
  by_cases hj:j=fp t
  ·rw[hj,q2a]
  by_cases hj2:j<m+2
  ·obtain⟨c,hc1,hc2⟩:∃c,c<m+1∧skp (fp t) c=j:=by
        by_cases h':j<fp t
        ·exact⟨j,by lia,by unfold skp;rw[if_pos h']⟩
        ·exact⟨j - 1,by lia,by unfold skp;rw[if_neg (by lia)];lia⟩
   have:=hd c hc1
   rw[hc c hc1,hc2,q0P] at this
   lia
  ·have e1:v u j=0:=q0p fun z=>by have:=(z6q z).1;rw[hu.len] at this;lia
   have e2:v t j=0:=q0p fun z=>by have:=(z6q z).1;rw[ht.len] at this;lia
   rw[e1,e2];lia
 have tp:=ht.pos
 have un:v u (fp t)≠0:=fun z=>by
  obtain⟨j,_,hj⟩:=hu.way
  have:=all j
  rw[z,Int.zero_mul] at this
  exact hj ((q1q.mp this).resolve_left (by lia))
 have ef:fp u=fp t:=z2j un fun j hj=>by
  have:=all j
  rw[z0Z hj,q0P] at this
  exact (q1q.mp this).resolve_left (by lia)
 have up:=hu.pos
 rw[ef] at up
 exact hne (y1t (by rw[hu.len,ht.len]) hu.nz ht.nz hu.pl ht.pl tp up all)
theorem z9l {t u d:List Int} (h:drF t u=some d):(drR t u).dropLast.any (· != 0)=true∧d=z0m (drR t u):=by
 unfold drF at h
 split at h
 ·exact⟨by assumption,(Option.some.inj h).symm⟩
 ·cases h
end Pt
end L2
namespace L2
namespace Pt
open Rk Wl Dm
def Wp (l:List Int) (q:Int):Int:=l.foldr (fun a acc=>acc*q+a) 0
def bto:Nat→Nat→List (List Int)→List Int
 |0,m,_=>List.replicate m 0++[1]
 |n+1,m,ts=>match ts.getLast? with
  |none=>List.replicate m 0++[1]
  |some t=>List.zipWith (fun a b=>a - b) (bto n m ts.dropLast) (bto n (m - 1) (wd (drF t) ts)++[0])
theorem z8i (n m:Nat):bto n m []=List.replicate m 0++[1]:=by cases n<;>rfl
theorem z6j (n m:Nat) (ts:List (List Int)) (t:List Int):bto (n+1) m (ts++[t])=List.zipWith (fun a b=>a - b) (bto n m ts) (bto n (m - 1) (wd (drF t) (ts++[t]))++[0]):=by
 show (match (ts++[t]).getLast? with|none=>_|some t'=>List.zipWith (fun a b=>a - b) (bto n m (ts++[t]).dropLast) (bto n (m - 1) (wd (drF t') (ts++[t]))++[0]))=_
 rw[List.getLast?_concat,List.dropLast_concat]
theorem z5y {ts:List (List Int)} (h:ts≠[]):∃ts' t,ts=ts'++[t]:=⟨ts.dropLast,ts.getLast h,(q0Q h).symm⟩
theorem z7t {m:Nat}{ts:List (List Int)}{t:List Int} (ht:WL (m+1) t):wd (drF t) (ts++[t])=wd (drF t) ts:=by
 unfold wd
 rw[List.filterMap_append,show [t].filterMap (drF t)=[] by simp[y2E ht],q1F]
theorem y4D (F:List Int→Option (List Int)) (ts:List (List Int)):(wd F ts).length ≤ts.length:=by
 unfold wd
 have:=z7e (ts.filterMap F) []
 have:=List.length_filterMap_le F ts
 simp at*
 lia
theorem z3v:∀(n m:Nat) (ts:List (List Int)),(∀t∈ts,WL m t)→(bto n m ts).length =m+1
 |0,m,ts,_=>by simp[bto]
 |n+1,m,ts,h=>by
  by_cases hn:ts=[]
  ·rw[hn,z8i];simp
  obtain⟨ts',t,rfl⟩:=z5y hn
  have ht:=h t (by simp)
  obtain⟨m,rfl⟩:∃k,m=k+1:=⟨m - 1,by have:=ht.fp;lia⟩
  rw[z6j,q1J,z3v n _ ts' fun u hu=>h u (q0G _ hu),q0k]
  rw[Nat.add_sub_cancel,z7t ht,z3v n m _ (y5p ht fun u hu=>(h u (q0G _ hu)).len)]
  simp
theorem y2X:∀(n m:Nat) (ts:List (List Int)),∀c∈bto n m ts,c.natAbs≤2^n
 |0,m,ts,c,hc=>by
  unfold bto at hc
  rcases q0I.mp hc with hc|hc
  ·rw[(List.mem_replicate.mp hc).2];decide
  ·rw[q0g.mp hc];decide
 |n+1,m,ts,c,hc=>by
  have one:1≤2^(n+1):=Nat.one_le_two_pow
  by_cases hn:ts=[]
  ·rw[hn,z8i] at hc
   rcases q0I.mp hc with hc|hc
   ·rw[(List.mem_replicate.mp hc).2];simp
   ·rw[q0g.mp hc];exact one
  obtain⟨ts',t,rfl⟩:=z5y hn
  rw[z6j] at hc
  have zw:∀(l k:List Int),c∈List.zipWith (fun a b=>a - b) l k→∃a∈l,∃b∈k,c=a - b:=by
   intro l
   induction l with
   |nil=>intro k h;simp at h
   |cons x l ih=>
    intro k h
    cases k with
    |nil=>simp at h
    |cons y k=>
     rw[List.zipWith_cons_cons] at h
     rcases q0n.mp h with h|h
     ·exact⟨x,by simp,y,by simp,h⟩
     ·obtain⟨a,ha,b,hb,e⟩:=ih k h
      exact⟨a,q0j _ ha,b,q0j _ hb,e⟩
  obtain⟨a,ha,b,hb,rfl⟩:=zw _ _ hc
  have h1:=y2X n m _ a ha
  have h2:b.natAbs≤2^n:=by
   rcases q0I.mp hb with hb|hb
   ·exact y2X n _ _ b hb
   ·rw[q0g.mp hb];simp
  have:2^(n+1)=2^n+2^n:=by rw[Nat.pow_succ];lia
  lia
end Pt
end L2
set_option maxHeartbeats 1000000
namespace L2
namespace Rk
open Wl
end Rk
end L2
namespace L2
open Fr Wl Pt
namespace Rk
def z8K (m:Nat) (L:List (List Int)):Prop:=∃z,In (L.map v) z∧(∀j,j<m→z j=0)∧z m≠0
open Classical in
noncomputable def gS (m:Nat) (L:List (List Int)) (k:Nat):Int:=if z8K m L then 0 else if dim m (In (L.map v))+k=m then 1 else 0
noncomputable def pS (m:Nat):List (List Int)→List (List Int)→Nat→Int
 |L,[],k=>gS m L k
 |L,w::ws,k=>pS m L ws k - pS m (w::L) ws k
theorem z8e {A B:List (Nat→Int)} (h:In A=In B) (x:Nat→Int):In (x::A)=In (x::B):=by
 have half:∀{A B:List (Nat→Int)},In A=In B→∀r∈x::A,In (x::B) r:=fun h r hr=>by
  rcases q0n.mp hr with rfl|hr
  ·exact In.one q0l
  ·exact In.mono (fun s hs=>q0j _ hs) (h▸In.one hr)
 exact In.same (half h) (half h.symm)
theorem y2l (A:List (Nat→Int)) (x y:Nat→Int):In (x::y::A)=In (y::x::A):=
 by
 have half:∀x y:Nat→Int,∀r∈x::y::A,In (y::x::A) r:=fun x y r hr=>In.one (by
  simp only[q0n] at*
  rcases hr with h|h|h
  ·exact .inr (.inl h)
  ·exact .inl h
  ·exact .inr (.inr h))
 exact In.same (half x y) (half y x)
theorem y6l {A:List (Nat→Int)}{x:Nat→Int} (h:In A x):In (x::A)=In A:=
 In.same (fun r hr=>by
  rcases q0n.mp hr with rfl|hr
  ·exact h
  ·exact In.one hr) (fun r hr=>In.one (q0j _ hr))
theorem z6N {m:Nat}{L L':List (List Int)} (h:In (L.map v)=In (L'.map v)):z8K m L↔z8K m L':=by unfold z8K;rw[h]
theorem y6r {m:Nat}{L L':List (List Int)} (h:In (L.map v)=In (L'.map v)) (k:Nat):gS m L k=gS m L' k:=by
 unfold gS
 rw[h]
 by_cases c:z8K m L
 ·rw[if_pos c,if_pos ((z6N h).mp c)]
 ·rw[if_neg c,if_neg fun z=>c ((z6N h).mpr z)]
theorem z2F {m:Nat}:∀(ws:List (List Int)) {L L':List (List Int)} (h:In (L.map v)=In (L'.map v)) (k:Nat),pS m L ws k=pS m L' ws k
 |[],_,_,h,k=>y6r h k
 |w::ws,L,L',h,k=>by
  rw[pS,pS,z2F ws h,z2F ws (L:=w::L) (L':=w::L') (by rw[q0q,q0q];exact z8e h _)]
theorem z6O {m:Nat}{L:List (List Int)} (h:z8K m L) (w:List Int):z8K m (w::L):=by
 obtain⟨z,h1,h2,h3⟩:=h
 exact⟨z,In.mono (fun s hs=>by rw[q0q];exact q0j _ hs) h1,h2,h3⟩
theorem z8J {m:Nat}:∀(ws:List (List Int)) {L:List (List Int)} (h:z8K m L) (k:Nat),pS m L ws k=0
 |[],_,h,k=>by rw[pS,gS,if_pos h]
 |w::ws,L,h,k=>by rw[pS,z8J ws h,z8J ws (z6O h w)];rfl
theorem y5J {m:Nat}{L:List (List Int)}{w:List Int} (h:z8K m (w::L)) (ws:List (List Int)) (k:Nat):pS m L (w::ws) k=pS m L ws k:=by
 rw[pS,z8J ws h,Int.sub_zero]
theorem y5K {m:Nat}{L:List (List Int)}{w:List Int} (h:In (L.map v) (v w)) (ws:List (List Int)) (k:Nat):pS m L (w::ws) k=0:=by
 rw[pS,z2F ws (L:=w::L) (L':=L) (by rw[q0q];exact y6l h)];lia
theorem z4p {m:Nat}{ws ws':List (List Int)} (h:ws.Perm ws'):∀(L:List (List Int)) (k:Nat),pS m L ws k=pS m L ws' k:=by
 induction h with
 |nil=>intro L k;rfl
 |cons w _ ih=>intro L k;rw[pS,pS,ih,ih]
 |swap a b ws=>
  intro L k
  rw[pS,pS,pS,pS,pS,pS,z2F ws (L:=a::b::L) (L':=b::a::L) (by rw[q0q,q0q,q0q,q0q];exact y2l _ _ _)]
  lia
 |trans _ _ ih1 ih2=>intro L k;rw[ih1,ih2]
theorem y7l {m:Nat}{L:List (List Int)} (w:List Int) (ws:List (List Int)) (k:Nat):pS m L (w::w::ws) k=pS m L (w::ws) k:=by
 have e:pS m (w::L) (w::ws) k=0:=y5K (In.one (by rw[q0q];exact q0l)) ws k
 rw[pS,e,Int.sub_zero]
theorem y7m {m:Nat}{L:List (List Int)} (k:Nat):∀(l acc:List (List Int)),pS m L (dd acc l) k=pS m L (acc++l) k
 |[],acc=>by rw[List.append_nil];rfl
 |t::l,acc=>by
  show pS m L (dd (if t∈acc then acc else acc++[t]) l) k=_
  rw[y7m k l]
  by_cases h:t∈acc
  ·rw[if_pos h]
   obtain⟨a1,a2,rfl⟩:=List.append_of_mem h
   have p1:((a1++t::a2)++l).Perm (t::(a1++a2++l)):=by
        rw[q1A,List.cons_append,q1A];exact List.perm_middle
   have p2:((a1++t::a2)++t::l).Perm (t::t::(a1++a2++l)):=by
        refine List.perm_middle.trans ((List.Perm.cons t p1))
   rw[z4p p1,z4p p2,y7l]
  ·rw[if_neg h,q1A];rfl
def lf (pl:Nat) (y:List Int):List Int:=z2s pl 0 y
theorem z5q {pl:Nat}{y:List Int} (h:pl≤y.length):v (lf pl y) pl=0:=by
 show (z2s pl 0 y).getD pl 0=0
 unfold z2s
 rw[q0b,q0v (by rw[q0w];lia),q0w,q1T h,q1y];rfl
theorem z7u {pl j:Nat}{y:List Int} (h:pl≤y.length) (hj:j<pl):v (lf pl y) j=v y j:=by
 show (z2s pl 0 y).getD j 0=y.getD j 0
 unfold z2s
 rw[q0b,q0b,q0D (by rw[q0w];lia),List.getElem?_take,if_pos hj]
theorem z7v {pl j:Nat}{y:List Int} (h:pl≤y.length) (hj:pl≤j):v (lf pl y) (j+1)=v y j:=by
 show (z2s pl 0 y).getD (j+1) 0=y.getD j 0
 unfold z2s
 rw[q0b,q0b,q0v (by rw[q0w];lia),q0w,q1T h,show j+1 - pl=(j - pl)+1 by lia,List.getElem?_cons_succ,List.getElem?_drop,show pl+(j - pl)=j by lia]
theorem z8X {pl:Nat}{y:List Int} (h:pl≤y.length):(lf pl y).length =y.length+1:=by
 show (z2s pl 0 y).length =_
 unfold z2s
 rw[q0k,q0J,q0w,List.length_drop];lia
def lfF (pl:Nat) (x:Nat→Int):Nat→Int:=fun j=>if j<pl then x j else if j=pl then 0 else x (j - 1)
theorem v_lf {pl:Nat}{y:List Int} (h:pl≤y.length):v (lf pl y)=lfF pl (v y):=by
 funext j
 unfold lfF
 by_cases h1:j<pl
 ·rw[if_pos h1,z7u h h1]
 ·rw[if_neg h1]
  by_cases h2:j=pl
  ·rw[if_pos h2,h2,z5q h]
  ·rw[if_neg h2]
   obtain⟨i,rfl⟩:∃i,j=i+1:=⟨j - 1,by lia⟩
   rw[z7v h (by lia)];rfl
theorem y6b (pl:Nat) (c:Int) (x y:Nat→Int):lfF pl (fun j=>c*x j+y j)=fun j=>c*lfF pl x j+lfF pl y j:=by
 funext j
 unfold lfF
 by_cases h1:j<pl
 ·rw[if_pos h1,if_pos h1,if_pos h1]
 ·rw[if_neg h1,if_neg h1,if_neg h1]
  by_cases h2:j=pl
  ·rw[if_pos h2,if_pos h2,if_pos h2];lia
  ·rw[if_neg h2,if_neg h2,if_neg h2]
theorem y6a (pl:Nat) (c:Int) (x:Nat→Int):lfF pl (fun j=>c*x j)=fun j=>c*lfF pl x j:=by
 funext j
 unfold lfF
 by_cases h1:j<pl
 ·rw[if_pos h1,if_pos h1]
 ·rw[if_neg h1,if_neg h1]
  by_cases h2:j=pl
  ·rw[if_pos h2,if_pos h2];lia
  ·rw[if_neg h2,if_neg h2]
theorem y4e (pl j:Nat):lfF pl (fun _=>0) j=0:=by
 unfold lfF
 split
 ·rfl
 ·split<;>rfl
theorem Sm.lf {A:List (Nat→Int)}{x:Nat→Int} (pl:Nat) (h:Sm A x):Sm (A.map (lfF pl)) (lfF pl x):=by
 induction h with
 |zero=>exact Sm.zero.cast fun j=>(y4e pl j).symm
 |more c hr _ ih=>rw[y6b];exact Sm.more c (List.mem_map_of_mem hr) ih
theorem In.lf {A:List (Nat→Int)}{x:Nat→Int} (pl:Nat) (h:In A x):In (A.map (lfF pl)) (lfF pl x):=by
 obtain⟨d,d0,hd⟩:=h
 exact⟨d,d0,by have:=hd.lf pl;rw[y6a] at this;exact this⟩
theorem in_lf {A B:List (Nat→Int)} (pl:Nat) (h:In A=In B):In (A.map (lfF pl))=In (B.map (lfF pl)):=by
 have half:∀{A B:List (Nat→Int)},In A=In B→∀r∈A.map (lfF pl),In (B.map (lfF pl)) r:=fun h r hr=>by
  obtain⟨x,hx,rfl⟩:=q0f.mp hr
  exact (h▸In.one hx:In _ x).lf pl
 exact In.same (half h) (half h.symm)
theorem z5p {pl j:Nat}{y:List Int} (h:pl≤y.length):v (lf pl y) (skp pl j)=v y j:=by
 unfold skp
 by_cases h1:j<pl
 ·rw[if_pos h1,z7u h h1]
 ·rw[if_neg h1,z7v h (by lia)]
theorem fp_lf {pl:Nat}{y:List Int} (h:pl≤y.length) (hn:∃n∈y,n≠0):fp (lf pl y)=skp pl (fp y):=by
 refine z2j (by rw[z5p h];exact z1K hn) fun j hj=>?_
 unfold skp at hj
 by_cases h1:j<pl
 ·rw[z7u h h1]
  refine z0Z ?_
  split at hj<;>lia
 ·by_cases h2:j=pl
  ·rw[h2,z5q h]
  ·obtain⟨i,rfl⟩:∃i,j=i+1:=⟨j - 1,by lia⟩
   rw[z7v h (by lia)]
   refine z0Z ?_
   split at hj<;>lia
theorem z9a:∀(a b:List Int),z0U (a++0::b)=z0U (a++b)
 |[],b=>if_pos rfl
 |n::a,b=>by
  show (if n=0 then z0U (a++0::b) else n)=if n=0 then z0U (a++b) else n
  rw[z9a a b]
theorem y6q (a b:List Int):z1z (a++0::b)=z1z (a++b):=by
 unfold z1z
 rw[q1z,q1z,q1W]
 congr 1
 generalize List.foldl (fun (g:Nat) (n:Int)=>Int.gcd (g:Int) n) 0 a=g
 rw[Int.gcd_zero_right,Int.natAbs_natCast]
theorem by_lf (pl:Nat) (y:List Int):byL (lf pl y)=byL y:=by
 show byL (y.take pl++0::y.drop pl)=byL y
 unfold byL
 rw[z9a,y6q,q1M]
theorem y3I (pl:Nat) (y:List Int):z0m (lf pl y)=lf pl (z0m y):=by
 unfold z0m
 rw[by_lf]
 show (y.take pl++0::y.drop pl).map _=(y.map _).take pl++0::(y.map _).drop pl
 rw[q0r,q0q,List.map_take,List.map_drop,Int.zero_fdiv]
theorem y6V {pl a b:Nat} (h:a<b):skp pl a<skp pl b:=by
 unfold skp
 split<;>split<;>lia
theorem Rws.lf {m pl:Nat}{us:List (List Int)} (h:Rws m us) (hpl:pl≤m):Rws (m+1) (us.map (Rk.lf pl)):=by
 have hlen:∀t∈us,pl≤t.length:=fun t ht=>by have:=(h.row t ht).1;lia
 have hfp:∀t∈us,fp (Rk.lf pl t)=skp pl (fp t):=fun t ht=>fp_lf (hlen t ht) (h.nz ht)
 refine⟨fun u hu=>?_,?_,fun s hs u hu hne=>?_⟩
 ·obtain⟨t,ht,rfl⟩:=q0f.mp hu
  obtain⟨h1,h2,h3⟩:=h.row t ht
  refine⟨by rw[z8X (hlen t ht),h1],?_,by rw[y3I,h3]⟩
  rw[hfp t ht]
  unfold skp
  split<;>lia
 ·rw[q1a]
  exact h.up.imp_of_mem fun {a b} ha hb hab=>by rw[hfp a ha,hfp b hb];exact y6V hab
 ·obtain⟨s,hs',rfl⟩:=q0f.mp hs
  obtain⟨u,hu',rfl⟩:=q0f.mp hu
  clear hs hu
  have hs:=hs'
  have hu:=hu'
  rw[hfp s hs,hfp u hu] at hne
  rw[hfp u hu,z5p (hlen s hs)]
  exact h.off s hs u hu fun e=>hne (by rw[e])
theorem Rws.noff {m:Nat}{us L:List (List Int)} (h:Rws m us) (e:In (us.map v)=In (L.map v)):¬z8K m L:=by
 rintro⟨z,h1,h2,h3⟩
 rw[←e] at h1
 have:=y4t h1 h2 h3
 rw[h.dim (q1t m),h.dim (q0i m)] at this
 lia
theorem Rws.gS {m:Nat}{us:List (List Int)} (h:Rws m us) (k:Nat):gS m us k=if us.length+k=m then 1 else 0:=by
 unfold Rk.gS
 rw[if_neg (h.noff rfl),h.dim (q0i m)]
theorem y1k {m:Nat}:∀(L:List (List Int)),(∀r∈L,r.length=m+1)→¬z8K m L→∃us,Rws m us∧In (us.map v)=In (L.map v)
 |[],_,_=>⟨[],Rws.nil,rfl⟩
 |xs::L,hL,ho=>by
  obtain⟨us,hR,hI⟩:=y1k L (fun r hr=>hL r (q0j _ hr)) fun z=>ho (z6O z xs)
  have xl:=hL xs q0l
  have hIx:In (v xs::us.map v)=In ((xs::L).map v):=by rw[q0q];exact z8e hI _
  by_cases hnz:∃j,j<m∧v (us.foldl z0n xs) j≠0
  ·obtain⟨us',p1,p2⟩:=(⟨(us.map (z1y (z0m (us.foldl z0n xs)))++[z0m (us.foldl z0n xs)]).mergeSort fun a b=>decide (fp a≤fp b),List.mergeSort_perm _ _,by
        have:=List.pairwise_mergeSort (le:=fun a b:List Int=>decide (fp a≤fp b)) (fun a b c h1 h2=>by simp at*;lia) (fun a b=>by simp;lia) (us.map (z1y (z0m (us.foldl z0n xs)))++[z0m (us.foldl z0n xs)])
        exact this.imp fun h=>by simpa using h⟩:∃us':List (List Int),us'.Perm (us.map (z1y (z0m (us.foldl z0n xs)))++[z0m (us.foldl z0n xs)])∧us'.Pairwise (fun a b=>fp a≤fp b))
   obtain⟨q1,q2,_⟩:=hR.more xl hnz p1 p2
   exact⟨us',q1,q2.trans hIx⟩
  ·have z0:∀j,j<m→v (us.foldl z0n xs) j=0:=fun j hj=>q0p fun hc=>hnz ⟨j,hj,hc⟩
   obtain⟨rl,_,_⟩:=hR.rest xl
   have zm:v (us.foldl z0n xs) m=0:=q0p fun hc=>ho ⟨_,hIx▸hR.off_all xl,z0,hc⟩
   refine⟨us,hR,?_⟩
   rw[←hIx]
   refine hR.same xl fun j=>?_
   by_cases hj:j<m
   ·exact z0 j hj
   ·by_cases hj2:j=m
    ·rw[hj2];exact zm
    ·show (us.foldl z0n xs).getD j 0=0
     rw[q0b,q1p (by lia)];rfl
theorem Sm.at0 {A:List (Nat→Int)}{j:Nat} (h:∀r∈A,r j=0) {x:Nat→Int} (hx:Sm A x):x j=0:=by
 induction hx with
 |zero=>rfl
 |more c hr _ ih=>dsimp only;rw[h _ hr,ih];lia
theorem lf_dr {m:Nat}{t u:List Int} (ht:WL (m+1) t) (hu:u.length=m+2):lf (fp t) (drR t u)=z0n u t:=by
 have hl:u.length=t.length:=by rw[hu,ht.len]
 have hc:(z0n u t).length =m+1+1:=by rw[z1h hl,hu]
 have z:v (z0n u t) (fp t)=0:=by rw[z1x hl,z2T ht.nz];lia
 have:=y7E (m:=m+1) (pl:=fp t) (by have:=ht.fp;lia) hc
 rw[z] at this
 exact this.symm
theorem y6m {m:Nat}{t:List Int} (ht:WL (m+1) t) {S:List (List Int)} (hS:∀u∈S,u.length=m+2):In (v t::((S.map (drR t)).map v).map (lfF (fp t)))=In ((t::S).map v):=by
 have hl:∀u∈S,u.length=t.length:=fun u hu=>by rw[hS u hu,ht.len]
 have e:((S.map (drR t)).map v).map (lfF (fp t))=S.map fun u=>v (z0n u t):=by
  rw[q0K,q0K]
  refine q0S fun u hu=>?_
  show lfF (fp t) (v (drR t u))=_
  rw[←v_lf (by have:=z2k (hl u hu) ht.nz;have:=ht.fp;have:=ht.len;lia),lf_dr ht (hS u hu)]
 rw[e,q0q]
 refine In.same (fun r hr=>?_) (fun r hr=>?_)
 ·rcases q0n.mp hr with rfl|hr
  ·exact In.one q0l
  ·obtain⟨u,hu,rfl⟩:=q0f.mp hr
   refine (((In.one (q0j _ (q0L (f:=v) hu))).mul (z3o u t)).add ((In.one (A:=v t::S.map v) q0l).mul (-z1J u t))).cast fun j=>?_
   rw[z1x (hl u hu)];grind
 ·rcases q0n.mp hr with rfl|hr
  ·exact In.one q0l
  ·obtain⟨u,hu,rfl⟩:=q0f.mp hr
   refine In.div (z5e (xs:=u) ht.nz) (((In.one (q0j _ (q0L (f:=fun u=>v (z0n u t)) hu))).add ((In.one (A:=v t::S.map fun u=>v (z0n u t)) q0l).mul (z1J u t))).cast fun j=>?_)
   rw[z1x (hl u hu)];grind
theorem y6s {m:Nat}{t:List Int} (ht:WL (m+1) t) {S:List (List Int)} (hS:∀u∈S,u.length=m+2) (k:Nat):gS (m+1) (t::S) k=gS m (S.map (drR t)) k:=by
 have hl:∀u∈S,u.length=t.length:=fun u hu=>by rw[hS u hu,ht.len]
 have hI:=y6m ht hS
 have hpl:fp t≤m:=by have:=ht.fp;lia
 by_cases ho:z8K m (S.map (drR t))
 ·have h2:z8K (m+1) (t::S):=by
   obtain⟨z,h1,h2,h3⟩:=ho
   refine⟨lfF (fp t) z,?_,fun j hj=>?_,?_⟩
   ·rw[←hI]
    exact In.mono (fun s hs=>q0j _ hs) (h1.lf (fp t))
   ·unfold lfF
    by_cases c1:j<fp t
    ·rw[if_pos c1];exact h2 j (by lia)
    ·rw[if_neg c1]
     by_cases c2:j=fp t
     ·rw[if_pos c2]
     ·rw[if_neg c2];exact h2 (j - 1) (by lia)
   ·unfold lfF
    rw[if_neg (by lia),if_neg (by lia)];exact h3
  unfold gS
  rw[if_pos ho,if_pos h2]
 ·obtain⟨us,hR,hU⟩:=y1k (S.map (drR t)) (fun r hr=>by
   obtain⟨u,hu,rfl⟩:=q0f.mp hr
   have:=z2k (hl u hu) ht.nz;have:=ht.len;lia) ho
  have hRl:=hR.lf hpl
  have hul:∀u∈us,fp t≤u.length:=fun u hu=>by have:=(hR.row u hu).1;lia
  have emap:(us.map (Rk.lf (fp t))).map v=(us.map v).map (lfF (fp t)):=by
   rw[q0K,q0K]
   exact q0S fun u hu=>v_lf (hul u hu)
  have hnz:∃j,j<m+1∧v ((us.map (Rk.lf (fp t))).foldl z0n t) j≠0:=by
   refine⟨fp t,by lia,?_⟩
   obtain⟨_,_,c,c0,hs⟩:=hRl.rest ht.len
   have:=Sm.at0 (j:=fp t) (fun r hr=>by
        obtain⟨x,hx,rfl⟩:=q0f.mp hr
        obtain⟨u,hu,rfl⟩:=q0f.mp hx
        exact z5q (hul u hu)) hs
   have n0:=q1g c0 (z1K ht.nz)
   intro z
   rw[z] at this
   lia
  obtain⟨us',p1,p2⟩:=(⟨((us.map (Rk.lf (fp t))).map (z1y (z0m ((us.map (Rk.lf (fp t))).foldl z0n t)))++[z0m ((us.map (Rk.lf (fp t))).foldl z0n t)]).mergeSort fun a b=>decide (fp a≤fp b),List.mergeSort_perm _ _,by
        have:=List.pairwise_mergeSort (le:=fun a b:List Int=>decide (fp a≤fp b)) (fun a b c h1 h2=>by simp at*;lia) (fun a b=>by simp;lia) ((us.map (Rk.lf (fp t))).map (z1y (z0m ((us.map (Rk.lf (fp t))).foldl z0n t)))++[z0m ((us.map (Rk.lf (fp t))).foldl z0n t)])
        exact this.imp fun h=>by simpa using h⟩:∃us':List (List Int),us'.Perm ((us.map (Rk.lf (fp t))).map (z1y (z0m ((us.map (Rk.lf (fp t))).foldl z0n t)))++[z0m ((us.map (Rk.lf (fp t))).foldl z0n t)])∧us'.Pairwise (fun a b=>fp a≤fp b))
  obtain⟨q1,q2,q3⟩:=hRl.more ht.len hnz p1 p2
  rw[q0a] at q3
  have e1:In (us'.map v)=In ((t::S).map v):=by
   rw[q2,emap,←hI]
   exact z8e (in_lf _ hU) _
  unfold gS
  rw[if_neg ho,if_neg (q1.noff e1),←e1,←hU,q1.dim (q0i _),hR.dim (q0i _),q3]
  by_cases c:us.length+k=m
  ·rw[if_pos c,if_pos (by lia)]
  ·rw[if_neg c,if_neg (by lia)]
theorem z7Q {m:Nat}{t:List Int} (ht:WL (m+1) t) (k:Nat):∀(ws S:List (List Int)),(∀u∈ws,u.length=m+2)→(∀u∈S,u.length=m+2)→pS (m+1) (t::S) ws k=pS m (S.map (drR t)) (ws.map (drR t)) k
 |[],S,_,hS=>y6s ht hS k
 |w::ws,S,hw,hS=>by
  have hw':∀u∈ws,u.length=m+2:=fun u hu=>hw u (q0j _ hu)
  have e:=z7Q ht k ws (w::S) hw' fun u hu=>by
   rcases q0n.mp hu with rfl|hu
   ·exact hw _ q0l
   ·exact hS u hu
  rw[q0q,pS,pS,z7Q ht k ws S hw' hS,z2F ws (L:=w::t::S) (L':=t::w::S) (by rw[q0q,q0q,q0q,q0q];exact y2l _ _ _),e]
  rfl
theorem z9y {r:List Int}{j:Nat} (h:r.length≤j):v r j=0:=by
 show r.getD j 0=0
 rw[q0b,q1p h];rfl
theorem z5P {m:Nat}{t:List Int} (ht:WL (m+1) t) (k:Nat):∀(ws L:List (List Int)),(∀u∈ws,WL (m+1) u∧u≠t)→pS m L (ws.map (drR t)) k=pS m L (ws.filterMap (drF t)) k
 |[],L,_=>rfl
 |u::ws,L,hw=>by
  obtain⟨hu,hne⟩:=hw u q0l
  have hw':∀u∈ws,WL (m+1) u∧u≠t:=fun u hu=>hw u (q0j _ hu)
  have hul:u.length=t.length:=by rw[hu.len,ht.len]
  have hl:(drR t u).length =m+1:=by have:=z2k hul ht.nz;have:=ht.len;lia
  rw[q0q]
  by_cases hc:(drR t u).dropLast.any (· != 0)=true
  ·have hF:drF t u=some (z0m (drR t u)):=by unfold drF;rw[if_pos hc]
   obtain⟨j,hj,hjn⟩:=(z1m hl).mp hc
   have hnz:∃n∈drR t u,n≠0:=⟨_,(z6q hjn).2,hjn⟩
   rw[List.filterMap_cons_some hF,pS,pS,z5P ht k ws L hw',z5P ht k ws (drR t u::L) hw']
   congr 1
   refine z2F _ ?_ k
   rw[q0q,q0q]
   refine In.same (fun r hr=>?_) (fun r hr=>?_)
   ·rcases q0n.mp hr with rfl|hr
    ·exact ((In.one (A:=v (z0m (drR t u))::L.map v) q0l).mul (byL (drR t u))).cast fun j=>by rw[←z1X (r:=drR t u) j,q2a]
    ·exact In.one (q0j _ hr)
   ·rcases q0n.mp hr with rfl|hr
    ·exact In.div (z3d hnz) ((In.one (A:=v (drR t u)::L.map v) q0l).cast fun j=>by rw[←z1X (r:=drR t u) j,q2a])
    ·exact In.one (q0j _ hr)
  ·have hF:drF t u=none:=by unfold drF;rw[if_neg hc]
   have z0:∀c,c<m→v (drR t u) c=0:=fun c hcm=>q0p fun z=>hc ((z1m hl).mpr ⟨c,hcm,z⟩)
   rw[List.filterMap_cons_none hF,y5J ⟨v (drR t u),In.one (by rw[q0q];exact q0l),z0,y1P ht hu hne z0⟩,z5P ht k ws L hw']
theorem y4L {m:Nat}{t:List Int}{A B:List (List Int)} (hw:∀u∈A++t::B,WL (m+1) u) (hn:(A++t::B).Nodup) (k:Nat):pS (m+1) [] (A++t::B) k=pS (m+1) [] (A++B) k - pS m [] (wd (drF t) (A++t::B)) k:=by
 have ht:=hw t (by simp)
 have hn':(t::(A++B)).Nodup :=(List.perm_middle.nodup_iff).mp hn
 have hw':∀u∈A++B,WL (m+1) u∧u≠t:=fun u hu=>by
  refine⟨hw u ?_,fun e=>(q1E.mp hn').1 (e▸hu)⟩
  rcases q0I.mp hu with h|h
  ·exact q0G _ h
  ·exact q0C _ (q0j _ h)
 have ew:wd (drF t) (A++t::B)=wd (drF t) (A++B):=by
  unfold wd
  rw[List.filterMap_append,List.filterMap_cons_none (y2E ht),←List.filterMap_append]
 rw[z4p List.perm_middle,pS,ew]
 congr 1
 rw[z7Q ht k (A++B) [] (fun u hu=>(hw' u hu).1.len) (by simp),z5P ht k (A++B) _ hw']
 unfold wd
 rw[y7m]
 rfl
end Rk
end L2
namespace L2
open Fr Wl Pt Rk
namespace Ld
def sumTo:Nat→(Nat→Int)→Int
 |0,_=>0
 |n+1,f=>sumTo n f+f n
def hg (w:Nat) (a s:Nat→Int):Int:=sumTo w (fun j=>a j*s j) - a w*s w
theorem z2f (c d:Int) (f g:Nat→Int):∀n,sumTo n (fun j=>c*f j+d*g j)=c*sumTo n f+d*sumTo n g
 |0=>by simp[sumTo]
 |n+1=>by rw[sumTo,sumTo,sumTo,z2f c d f g n];grind
theorem sumTo_congr {f g:Nat→Int}:∀n,(∀j,j<n→f j=g j)→sumTo n f=sumTo n g
 |0,_=>rfl
 |n+1,h=>by rw[sumTo,sumTo,sumTo_congr n fun j hj=>h j (by lia),h n (by lia)]
theorem z0J {w:Nat}{a b s t:Nat→Int} (h1:∀j,j≤w→a j=b j) (h2:∀j,j≤w→s j=t j):hg w a s=hg w b t:=by
 unfold hg
 rw[sumTo_congr w (g:=fun j=>b j*t j) fun j hj=>by rw[h1 j (by lia),h2 j (by lia)],h1 w (q0i _),h2 w (q0i _)]
theorem z6V (w:Nat) (a:Nat→Int) (c d:Int) (x y:Nat→Int):hg w a (fun j=>c*x j+d*y j)=c*hg w a x+d*hg w a y:=by
 unfold hg
 have:(fun j=>a j*(c*x j+d*y j))=fun j=>c*(a j*x j)+d*(a j*y j):=by funext j;grind
 rw[this,z2f]
 grind
theorem y2t (w:Nat) (s:Nat→Int) (c d:Int) (a b:Nat→Int):hg w (fun j=>c*a j+d*b j) s=c*hg w a s+d*hg w b s:=by
 unfold hg
 have:(fun j=>(c*a j+d*b j)*s j)=fun j=>c*(a j*s j)+d*(b j*s j):=by funext j;grind
 rw[this,z2f]
 grind
theorem z4B (w:Nat) (a:Nat→Int) (c:Int) (x:Nat→Int):hg w a (fun j=>c*x j)=c*hg w a x:=by
 have:=z6V w a c 0 x x
 rw[z0J (b:=a) (t:=fun j=>c*x j+0*x j) (fun _ _=>rfl) fun j _=>by lia,this]
 lia
theorem y2r (w:Nat) (s:Nat→Int) (c:Int) (a:Nat→Int):hg w (fun j=>c*a j) s=c*hg w a s:=by
 have:=y2t w s c 0 a a
 rw[z0J (b:=fun j=>c*a j+0*a j) (t:=s) (fun j _=>by lia) fun _ _=>rfl,this]
 lia
theorem z4U {p:Nat}{f:Nat→Int}:∀{w:Nat},p≤w→sumTo (w+1) f=sumTo w (fun j=>f (skp p j))+f p
 |0,h=>by
  have:p=0:=by lia
  subst this
  rfl
 |w+1,h=>by
  by_cases c:p≤w
  ·rw[sumTo,z4U c,sumTo]
   have:skp p w=w+1:=by unfold skp;rw[if_neg (by lia)]
   rw[this];lia
  ·have:p=w+1:=by lia
   subst this
   rw[sumTo]
   congr 1
   exact sumTo_congr _ fun j hj=>by unfold skp;rw[if_pos hj]
theorem z6e {p w:Nat}{a s:Nat→Int} (h:p≤w):hg (w+1) a s=hg w (fun j=>a (skp p j)) (fun j=>s (skp p j))+a p*s p:=by
 unfold hg
 rw[z4U h]
 have:skp p w=w+1:=by unfold skp;rw[if_neg (by lia)]
 dsimp only
 rw[this]
 lia
def Spt (w:Nat) (s:List Int):Prop:=s.length=w+1∧0<v s w
def Win (w:Nat) (bs:List (List Int)) (s:List Int):Prop:=Spt w s∧∀b∈bs,0<hg w (v b) (v s)
def Pw (w:Nat) (bs:List (List Int)):Prop:=∃s,Win w bs s
def mkL (w:Nat) (f:Nat→Int):List Int:=(List.range (w+1)).map f
theorem z7Y (w:Nat) (f:Nat→Int):(mkL w f).length =w+1:=by unfold mkL;rw[List.length_map,List.length_range]
theorem y4c {w j:Nat}{f:Nat→Int} (h:j≤w):v (mkL w f) j=f j:=by
 show (mkL w f).getD j 0=f j
 unfold mkL
 rw[q0b,q0h,q2c (by lia)];rfl
theorem y2s {w:Nat}{a f:Nat→Int}:hg w a (v (mkL w f))=hg w a f:=z0J (fun _ _=>rfl) fun j hj=>y4c hj
theorem z3r {w:Nat}{t u:List Int}{s:Nat→Int} (hp:fp t≤w) (ht:t.length=w+2) (hu:u.length=w+2) (hn:∃n∈t,n≠0):
 hg w (v (drR t u)) (fun j=>s (skp (fp t) j))=z3o u t*hg (w+1) (v u) s+(-z1J u t)*hg (w+1) (v t) s:=by
 have hl:u.length=t.length:=by lia
 rw[←y2t]
 have e:∀j,v (z0n u t) j=z3o u t*v u j+ -z1J u t*v t j:=fun j=>by rw[z1x hl];grind
 rw[z0J (w:=w+1) (b:=v (z0n u t)) (t:=s) (fun j _=>(e j).symm) (fun _ _=>rfl),z6e hp]
 have z:v (z0n u t) (fp t)=0:=by rw[z1x hl,z2T hn];lia
 rw[z,Int.zero_mul,q1m]
 exact z0J (fun j _=>by unfold drR;rw[z1M]) fun _ _=>rfl
theorem z3n {u t:List Int} (h:0<v t (fp t)):0<z3o u t:=by
 unfold z3o
 have g0:0<Int.gcd (v t (fp t)) (v u (fp t)):=Nat.pos_of_ne_zero fun z=>by
  have:=(q2d.mp z).1;lia
 have:=fdiv_mul (q1s (a:=v t (fp t)) (b:=v u (fp t)))
 refine q0p fun c=>?_
 have h2:(v t (fp t)).fdiv (Int.gcd (v t (fp t)) (v u (fp t)))*((Int.gcd (v t (fp t)) (v u (fp t)):Nat):Int)≤0:=Int.mul_nonpos_of_nonpos_of_nonneg (by lia) (by lia)
 lia
theorem y7P {w:Nat}{bs:List (List Int)}{b s0 s1:List Int} (h0:Win w bs s0) (h0b:hg w (v b) (v s0)≤0) (h1:Win w bs s1) (h1b:0<hg w (v b) (v s1)):
 ∃s,Win w bs s∧hg w (v b) (v s)=0:=by
 generalize e0:hg w (v b) (v s0)=x0 at*
 generalize e1:hg w (v b) (v s1)=x1 at*
 refine⟨mkL w fun j=>(-x0)*v s1 j+x1*v s0 j,⟨⟨z7Y _ _,?_⟩,fun c hc=>?_⟩,?_⟩
 ·rw[y4c (q0i _)]
  have a:=h0.1.2;have b:=h1.1.2
  have:=q1R h1b a
  have:=q1r (show 0≤ -x0 by lia) (q1B b)
  lia
 ·rw[y2s,z6V]
  have:=q1R h1b (h0.2 c hc)
  have:=q1r (show 0≤ -x0 by lia) (q1B (h1.2 c hc))
  lia
 ·rw[y2s,z6V,e0,e1]
  grind
def z4u (s:List Int):List Int:=s.map fun n=>n.fdiv (z1z s:Int)
theorem y1X {s:List Int} (j:Nat):(z1z s:Int)*v (z4u s) j=v s j:=by
 show (z1z s:Int)*(z4u s).getD j 0=s.getD j 0
 unfold z4u
 rw[q0b,q0b,q0h]
 cases e:s[j]? with
 |none=>simp
 |some n=>
  show (z1z s:Int)*n.fdiv (z1z s:Int)=n
  rw[q2a]
  exact fdiv_mul ((z3O s 0).2 n (q0A e))
theorem z8V (s:List Int):(z4u s).length =s.length:=by unfold z4u;rw[List.length_map]
theorem z8b {w:Nat}{s:List Int}{a:Nat→Int}:(z1z s:Int)*hg w a (v (z4u s))=hg w a (v s):=by
 rw[←z4B]
 exact z0J (fun _ _=>rfl) fun j _=>y1X j
theorem z2q {a b c:Int} (ha:0<a) (h:a*b=c) (hc:0<c):0<b:=by
 refine q0p fun z=>?_
 have:=Int.mul_nonpos_of_nonneg_of_nonpos (q1B ha) (show b≤0 by lia)
 lia
theorem z5j {s:List Int}{w:Nat} (h:0<v s w):0<(z1z s:Int):=by
 have:=z1u (rs:=s) (z1F (j:=w) (by lia))
 lia
theorem Win.low {w:Nat}{bs:List (List Int)}{s:List Int} (h:Win w bs s):Win w bs (z4u s):=by
 have g:=z5j h.1.2
 exact⟨⟨by rw[z8V,h.1.1],z2q g (y1X w) h.1.2⟩,fun b hb=>z2q g z8b (h.2 b hb)⟩
theorem y4d {w:Nat}{s:List Int}{a:Nat→Int} (hs:0<v s w) (h:hg w a (v s)=0):hg w a (v (z4u s))=0:=by
 have g:=z5j hs
 have:=z8b (w:=w) (s:=s) (a:=a)
 rw[h] at this
 exact (q1q.mp this).resolve_left (by lia)
def upL (w:Nat) (t f:List Int):List Int:=(((z2s (fp t) 0 f).map fun n=>v t (fp t)*n).set (fp t) (0 - hg w (v t) (v (z2s (fp t) 0 f))))
theorem y2j {pl j:Nat}{f:List Int} (h:pl≤f.length):v (z2s pl 0 f) (skp pl j)=v f j:=z5p h
theorem y7F {pl:Nat}{f:List Int} (h:pl≤f.length):v (z2s pl 0 f) pl=0:=z5q h
theorem y0B {w:Nat}{t f:List Int} (hf:f.length=w+1) (hp:fp t≤w):(upL (w+1) t f).length =w+2:=by
 unfold upL
 rw[List.length_set,q0a]
 have:=z8X (pl:=fp t) (y:=f) (by lia)
 show (lf (fp t) f).length =_
 lia
theorem z8o {c:Int}{l:List Int}{j:Nat}:v (l.map fun n=>c*n) j=c*v l j:=v_map l j
theorem z2M {w j:Nat}{t f:List Int} (hf:f.length=w+1) (hp:fp t≤w):v (upL (w+1) t f) (skp (fp t) j)=v t (fp t)*v f j:=by
 have ne:fp t≠skp (fp t) j:=by unfold skp;split<;>lia
 have:v (upL (w+1) t f) (skp (fp t) j)=v ((z2s (fp t) 0 f).map fun n=>v t (fp t)*n) (skp (fp t) j):=by
  show (upL (w+1) t f).getD _ 0=List.getD _ _ 0
  unfold upL
  rw[q0b,q0b,q1S ne]
 rw[this,z8o,y2j (by lia)]
theorem up_at {w:Nat}{t f:List Int} (hf:f.length=w+1) (hp:fp t≤w):v (upL (w+1) t f) (fp t)=0 - hg (w+1) (v t) (v (z2s (fp t) 0 f)):=by
 show (upL (w+1) t f).getD _ 0=_
 unfold upL
 rw[q0b,q1O]
 ·rfl
 ·rw[q0a]
  have:=z8X (pl:=fp t) (y:=f) (by lia)
  show fp t<(lf (fp t) f).length
  lia
theorem y3n {w:Nat}{t f:List Int} (hf:f.length=w+1) (hp:fp t≤w):hg (w+1) (v t) (v (upL (w+1) t f))=0:=by
 rw[z6e hp,up_at hf hp]
 have e1:hg w (fun j=>v t (skp (fp t) j)) (fun j=>v (upL (w+1) t f) (skp (fp t) j))=v t (fp t)*hg w (fun j=>v t (skp (fp t) j)) (v f):=by
  rw[←z4B]
  exact z0J (fun _ _=>rfl) fun j _=>z2M hf hp
 have e2:hg (w+1) (v t) (v (z2s (fp t) 0 f))=hg w (fun j=>v t (skp (fp t) j)) (v f):=by
  rw[z6e hp,y7F (by lia),q0P,q1m]
  exact z0J (fun _ _=>rfl) fun j _=>y2j (by lia)
 rw[e1,e2]
 grind
theorem y0A {w:Nat}{t f:List Int}{bs:List (List Int)} (hp:fp t≤w) (ht:t.length=w+2) (hpos:0<v t (fp t)) (hb:∀u∈bs,u.length=w+2) (hf:Win w (bs.map (drR t)) f):
 Win (w+1) bs (upL (w+1) t f):=by
 have hn:∃n∈t,n≠0:=z1F (j:=fp t) (by lia)
 have hfl:=hf.1.1
 refine⟨⟨y0B hfl hp,?_⟩,fun u hu=>?_⟩
 ·have e:skp (fp t) w=w+1:=by unfold skp;rw[if_neg (by lia)]
  have e2:=z2M (j:=w) hfl hp
  rw[e] at e2
  rw[e2]
  exact q1R hpos hf.1.2
 ·have h1:=z3r (s:=v (upL (w+1) t f)) hp ht (hb u hu) hn
  rw[y3n hfl hp,q0P,q1m] at h1
  have h2:hg w (v (drR t u)) (fun j=>v (upL (w+1) t f) (skp (fp t) j))=v t (fp t)*hg w (v (drR t u)) (v f):=by
   rw[←z4B]
   exact z0J (fun _ _=>rfl) fun j _=>z2M hfl hp
  have h3:=q1R hpos (hf.2 _ (q0L hu))
  exact z2q (z3n hpos) h1.symm (by rw[h2];exact h3)
theorem z9m {w:Nat}{t s:List Int}{bs:List (List Int)} (hp:fp t≤w) (ht:t.length=w+2) (hpos:0<v t (fp t)) (hb:∀u∈bs,u.length=w+2) (hs:Win (w+1) bs s) (ho:hg (w+1) (v t) (v s)=0):
 Win w (bs.map (drR t)) (s.eraseIdx (fp t)):=by
 have hn:∃n∈t,n≠0:=z1F (j:=fp t) (by lia)
 have hsl:=hs.1.1
 refine⟨⟨by rw[List.length_eraseIdx,if_pos (by lia)];lia,?_⟩,fun d hd=>?_⟩
 ·rw[z1M]
  have e:skp (fp t) w=w+1:=by unfold skp;rw[if_neg (by lia)]
  rw[e];exact hs.1.2
 ·obtain⟨u,hu,rfl⟩:=q0f.mp hd
  have h1:=z3r (s:=v s) hp ht (hb u hu) hn
  rw[ho,q0P,q1m] at h1
  rw[z0J (w:=w) (a:=v (drR t u)) (b:=v (drR t u)) (s:=v (s.eraseIdx (fp t))) (t:=fun j=>v s (skp (fp t) j)) (fun _ _=>rfl) (fun j _=>z1M _ _ _),h1]
  exact q1R (z3n hpos) (hs.2 u hu)
def z3Q (w p:Nat) (s:List Int) (bs:List (List Int)):Int:=bs.foldl (fun z b=>max z (((v b p).natAbs :Int)*v s w/hg w (v b) (v s)+1)) 1
theorem z7k {w p:Nat}{s:List Int}:∀(bs:List (List Int)) (z:Int),z≤bs.foldl (fun z b=>max z (((v b p).natAbs :Int)*v s w/hg w (v b) (v s)+1)) z∧∀b∈bs,((v b p).natAbs :Int)*v s w/hg w (v b) (v s)+1≤bs.foldl (fun z b=>max z (((v b p).natAbs :Int)*v s w/hg w (v b) (v s)+1)) z
 |[],z=>⟨Int.le_refl _,fun b h=>by cases h⟩
 |c::bs,z=>by
  obtain⟨h1,h2⟩:=z7k (w:=w) (p:=p) (s:=s) bs (max z (((v c p).natAbs :Int)*v s w/hg w (v c) (v s)+1))
  rw[q1W]
  refine⟨by lia,fun b hb=>?_⟩
  rcases q0n.mp hb with rfl|hb
  ·lia
  ·exact h2 b hb
def z7r (w p:Nat) (sg:Int) (s:List Int) (bs:List (List Int)):List Int:=(s.map fun n=>z3Q w p s bs*n).set p (z3Q w p s bs*v s p+sg*v s w)
theorem y0I {w p:Nat}{sg:Int}{s:List Int}{bs:List (List Int)}:(z7r w p sg s bs).length =s.length:=by unfold z7r;rw[List.length_set,List.length_map]
theorem y0H {w p j:Nat}{sg:Int}{s:List Int}{bs:List (List Int)} (hp:p<s.length):v (z7r w p sg s bs) j=z3Q w p s bs*v s j+if j=p then sg*v s w else 0:=by
 show (z7r w p sg s bs).getD j 0=_
 unfold z7r
 rw[q0b]
 by_cases h:j=p
 ·subst h
  rw[q1O (by rw[q0a];exact hp),if_pos rfl];rfl
 ·rw[q1S (fun z=>h z.symm),if_neg h,←q0b]
  show v (s.map fun n=>z3Q w p s bs*n) j=_
  rw[z8o,q1m]
theorem z6s {p:Nat}{f:Nat→Int} (hf:∀j,j≠p→f j=0):∀n,sumTo n f=if p<n then f p else 0
 |0=>rfl
 |n+1=>by
  rw[sumTo,z6s hf n]
  by_cases h:p<n
  ·rw[if_pos h,if_pos (by lia),hf n (by lia),q1m]
  ·rw[if_neg h]
   by_cases h2:p=n
   ·subst h2;rw[if_pos (by lia)];lia
   ·rw[if_neg (by lia),hf n (fun z=>h2 z.symm)];rfl
theorem y7J {w p:Nat}{sg:Int}{s:List Int}{bs:List (List Int)}{a:Nat→Int} (hs:s.length=w+1) (hp:p<w):hg w a (v (z7r w p sg s bs))=z3Q w p s bs*hg w a (v s)+a p*(sg*v s w):=by
 have e:hg w a (v (z7r w p sg s bs))=hg w a (fun j=>z3Q w p s bs*v s j+1*(if j=p then sg*v s w else 0)):=z0J (fun _ _=>rfl) fun j _=>by rw[y0H (by lia),Int.one_mul]
 rw[e,z6V,Int.one_mul]
 congr 1
 unfold hg
 dsimp only
 rw[z6s (p:=p) (fun j hj=>by rw[if_neg hj,q0P]),if_pos hp,if_pos rfl,if_neg (by lia),q0P,Int.sub_zero]
theorem y4s {a h:Int} (ha:0≤a) (hh:0<h) {z:Int} (hz:a/h+1≤z):a<z*h:=by
 have h1:=Int.lt_ediv_add_one_mul_self a hh
 have h2:=Int.mul_le_mul_of_nonneg_right hz (q1B hh)
 lia
theorem z5u {w p:Nat}{sg:Int}{s b:List Int}{bs:List (List Int)} (hs:Win w bs s) (hp:p<w) (hsg:sg=1∨sg= -1) (hb0:hg w (v b) (v s)=0) (hb:0<v b p*sg):Win w (bs++[b]) (z7r w p sg s bs):=by
 have hl:=hs.1.1
 have hw:=hs.1.2
 have bt1:1≤z3Q w p s bs:=(z7k bs 1).1
 refine⟨⟨by rw[y0I,hl],?_⟩,fun c hc=>?_⟩
 ·rw[y0H (by lia),if_neg (by lia),q1m]
  exact q1R (by lia) hw
 ·rw[y7J hl hp]
  rcases q0I.mp hc with hc|hc
  ·have h1:=hs.2 c hc
   have h2:=(z7k (w:=w) (p:=p) (s:=s) bs 1).2 c hc
   have h3:=y4s (q1r (Int.natCast_nonneg (v c p).natAbs) (q1B hw)) h1 h2
   have h4: -(((v c p).natAbs :Int)*v s w)≤v c p*(sg*v s w):=by
     rcases Int.natAbs_eq (v c p) with e|e
     ·generalize (v c p).natAbs =n at*
      rw[e]
      rcases hsg with rfl|rfl
      ·have:=q1r (Int.natCast_nonneg n) (q1B hw);grind
      ·grind
     ·generalize (v c p).natAbs =n at*
      rw[e]
      rcases hsg with rfl|rfl
      ·grind
      ·have:=q1r (Int.natCast_nonneg n) (q1B hw);grind
   have h5:z3Q w p s bs*hg w (v c) (v s)=bs.foldl (fun z b=>max z (((v b p).natAbs :Int)*v s w/hg w (v b) (v s)+1)) 1*hg w (v c) (v s):=rfl
   lia
  ·rw[q0g.mp hc,hb0,q0P,Int.zero_add]
   have:=q1R hb hw
   rw[←Int.mul_assoc];exact this
end Ld
end L2
namespace L2
open Fr Wl Pt Rk
namespace Ld
def z0o (sg:Int) (r:List Int):List Int:=r.map fun n=>sg*n
theorem z1i {sg:Int}{r:List Int} (j:Nat):v (z0o sg r) j=sg*v r j:=z8o
theorem z1N {sg:Int}{r:List Int}:(z0o sg r).length =r.length:=by unfold z0o;rw[List.length_map]
theorem z0Y {w:Nat}{sg:Int}{r:List Int}{s:Nat→Int}:hg w (v (z0o sg r)) s=sg*hg w (v r) s:=by
 rw[←y2r]
 exact z0J (fun j _=>z1i j) fun _ _=>rfl
def ldL (b:List Int):Int:=if 0<v b (fp b) then 1 else -1
theorem z0O (b:List Int):ldL b=1∨ldL b= -1:=by unfold ldL;split<;>simp
theorem z2B {b:List Int} (h:∃n∈b,n≠0):0<ldL b*v b (fp b):=by
 have:=z1K h
 unfold ldL
 split<;>lia
theorem z3s {b:List Int} (h:∃n∈b,n≠0) {sg:Int} (hs:sg=1∨sg= -1):fp (z0o sg b)=fp b:=by
 refine z2j ?_ fun j hj=>?_
 ·rw[z1i]
  exact q1g (by rcases hs with h|h<;>rw[h]<;>decide) (z1K h)
 ·rw[z1i,z0Z hj,q0P]
theorem y2v {w:Nat}{bs:List (List Int)}{b s0:List Int} (hz:∀j,j<w→v b j=0) (h0:Spt w s0) (hb:hg w (v b) (v s0)≤0):¬Pw w (bs++[b]):=by
 rintro⟨s,hs,hw⟩
 have e:∀s:Nat→Int,hg w (v b) s= -(v b w*s w):=fun s=>by
  unfold hg
  rw[sumTo_congr w (g:=fun _=>0) fun j hj=>by rw[hz j hj,Int.zero_mul]]
  have:∀n,sumTo n (fun _=>0)=0:=fun n=>by
   induction n with
   |zero=>rfl
   |succ n ih=>rw[sumTo,ih];rfl
  rw[this];lia
 have h1:=hw b (by simp)
 rw[e] at h1 hb
 have c0:0≤v b w:=by
  refine q0p fun z=>?_
  have:=Int.mul_neg_of_neg_of_pos (show v b w<0 by lia) h0.2
  lia
 have:=q1r c0 (q1B hs.2)
 lia
theorem z8k {w:Nat}{bs:List (List Int)}{b s0:List Int} (hbl:b.length=w+2) (hl:∀u∈bs,u.length=w+2) (hfp:fp b≤w) (h0:Win (w+1) bs s0) (hb:hg (w+1) (v b) (v s0)≤0)
 (hn:¬Pw w (bs.map (drR (z0o (ldL b) b)))):¬Pw (w+1) (bs++[b]):=by
 rintro⟨s1,h1,h2⟩
 have nz:∃n∈b,n≠0:=z6P (by lia)
 obtain⟨s,hs,ho⟩:=y7P h0 hb ⟨h1,fun c hc=>h2 c (q0G _ hc)⟩ (h2 b (by simp))
 have ft:=z3s nz (z0O b)
 refine hn ⟨_,z9m (t:=z0o (ldL b) b) (by lia) (by rw[z1N,hbl]) (by rw[z1i,ft];exact z2B nz) hl hs (by rw[z0Y,ho,q0P])⟩
theorem z8j {w:Nat}{bs:List (List Int)}{b f:List Int} (hbl:b.length=w+2) (hl:∀u∈bs,u.length=w+2) (hfp:fp b≤w) (hf:Win w (bs.map (drR (z0o (ldL b) b))) f):
 Win (w+1) bs (z4u (upL (w+1) (z0o (ldL b) b) f))∧hg (w+1) (v b) (v (z4u (upL (w+1) (z0o (ldL b) b) f)))=0∧
 Win (w+1) (bs++[b]) (z4u (z7r (w+1) (fp b) (ldL b) (z4u (upL (w+1) (z0o (ldL b) b) f)) bs)):=by
 have nz:∃n∈b,n≠0:=z6P (by lia)
 have ft:=z3s nz (z0O b)
 have hpos:0<v (z0o (ldL b) b) (fp (z0o (ldL b) b)):=by rw[z1i,ft];exact z2B nz
 have hw:=y0A (t:=z0o (ldL b) b) (by lia) (by rw[z1N,hbl]) hpos hl hf
 have ho:=y3n (w:=w) (t:=z0o (ldL b) b) hf.1.1 (by lia)
 have hob:hg (w+1) (v b) (v (upL (w+1) (z0o (ldL b) b) f))=0:=by
  rw[z0Y] at ho
  exact (q1q.mp ho).resolve_left (by rcases z0O b with h|h<;>rw[h]<;>decide)
 have hlow:=hw.low
 have holow:=y4d hw.1.2 hob
 refine⟨hlow,holow,(z5u hlow (by lia) (z0O b) holow ?_).low⟩
 rw[q2a];exact z2B nz
def bdL (ts:List (List Int)) (sg:List Int):List (List Int):=List.zipWith (fun t s=>z0o s t) ts sg
def z6n (w:Nat) (ts:List (List Int)) (sg:List Int):Prop:=Pw w (bdL ts sg)
theorem z2K {ts:List (List Int)}{sg:List Int} (h:ts.length=sg.length) (t:List Int) (s:Int):bdL (ts++[t]) (sg++[s])=bdL ts sg++[z0o s t]:=by
 unfold bdL
 rw[List.zipWith_append h];rfl
theorem Pw.less {w:Nat}{bs cs:List (List Int)} (h:Pw w (bs++cs)):Pw w bs:=let ⟨s,a,b⟩:=h;⟨s,a,fun c hc=>b c (q0G _ hc)⟩
open Classical in
noncomputable def z1e (w:Nat) (ts:List (List Int)) (t s:List Int):List (List Int):=[s++[-1],s++[1]].filter fun s'=>decide (z6n w (ts++[t]) s')
noncomputable def sgN (w:Nat) (ts:List (List Int)):Nat→List (List Int)
 |0=>[[]]
 |i+1=>(sgN w ts i).flatMap (z1e w (ts.take i) (ts.getD i []))
def Sgn (s:List Int):Prop:=∀x∈s,x=1∨x= -1
open Classical in
theorem z5X {w:Nat}{ts:List (List Int)}:∀{i:Nat},i≤ts.length→∀{s:List Int},s∈sgN w ts i↔s.length=i∧Sgn s∧z6n w (ts.take i) s
 |0,_,s=>by
  show s∈[[]]↔_
  rw[q0g,List.take_zero]
  constructor
  ·rintro rfl
   refine⟨rfl,(fun x h=>by cases h),mkL w (fun _=>1),⟨z7Y _ _,by rw[y4c (q0i _)];decide⟩,fun b hb=>?_⟩
   exact absurd hb (by unfold bdL;simp)
  ·exact fun h=>q0Y.mp h.1
 |i+1,hi,s=>by
  have ih:=fun {s}=>z5X (w:=w) (ts:=ts) (i:=i) (by lia) (s:=s)
  have et:ts[i]? =some (ts.getD i []):=by rw[q0b,q0c (by lia)];rfl
  have tk:ts.take (i+1)=ts.take i++[ts.getD i []]:=by rw[q0R,et];rfl
  have tl:(ts.take i).length =i:=by rw[q0w];lia
  rw[sgN,q1H,tk]
  constructor
  ·rintro⟨u,hu,hs⟩
   obtain⟨h1,h2,h3⟩:=ih.mp hu
   unfold z1e at hs
   obtain⟨h4,h5⟩:=q1u.mp hs
   have h6:=of_decide_eq_true h5
   simp only[q0n,q2e,or_false] at h4
   rcases h4 with rfl|rfl
   ·exact⟨by simp[h1],fun x hx=>by rcases q0I.mp hx with h|h;exact h2 x h;exact .inr (q0g.mp h),h6⟩
   ·exact⟨by simp[h1],fun x hx=>by rcases q0I.mp hx with h|h;exact h2 x h;exact .inl (q0g.mp h),h6⟩
  ·rintro⟨h1,h2,h3⟩
   obtain⟨u,x,rfl⟩:∃u x,s=u++[x]:=⟨s.dropLast,s.getLast (fun z=>by rw[z] at h1;simp at h1),(q0Q _).symm⟩
   have ul:u.length=i:=by simpa using h1
   refine⟨u,ih.mpr ⟨ul,fun y hy=>h2 y (q0G _ hy),?_⟩,?_⟩
   ·unfold z6n at h3 ⊢
    rw[z2K (by lia)] at h3
    exact h3.less
   ·unfold z1e
    refine q1u.mpr ⟨?_,decide_eq_true h3⟩
    rcases h2 x (by simp) with rfl|rfl<;>simp
theorem y5u (w:Nat) (ts:List (List Int)) (t s:List Int):(z1e w ts t s).length ≤2:=by
 unfold z1e
 exact q1o _ _
theorem z7B (w:Nat) (ts:List (List Int)):∀i,(sgN w ts i).length ≤2^i
 |0=>Nat.le_refl _
 |i+1=>by
  have ih:=z7B w ts i
  rw[sgN]
  generalize sgN w ts i=L at*
  have:∀L:List (List Int),(L.flatMap (z1e w (ts.take i) (ts.getD i []))).length ≤2*L.length:=fun L=>by
   induction L with
   |nil=>simp
   |cons a L ih2=>
    rw[q1Y,q0k,q0J]
    have:=y5u w (ts.take i) (ts.getD i []) a
    lia
  have:=this L
  rw[Nat.pow_succ];lia
theorem y1q {w:Nat}{ts:List (List Int)}{t s:List Int} (hl:ts.length=s.length) (htl:t.length=w+1) (ht:fp t<w) (hr:z6n w ts s):∃x,(x=1∨x= -1)∧z6n w (ts++[t]) (s++[x]):=by
 obtain⟨p,hp⟩:=hr
 unfold z6n
 have app:∀x:Int,0<hg w (v (z0o x t)) (v p)→Pw w (bdL (ts++[t]) (s++[x])):=fun x h=>by
  rw[z2K hl]
  refine⟨p,hp.1,fun b hb=>?_⟩
  rcases q0I.mp hb with hb|hb
  ·exact hp.2 b hb
  ·rw[q0g.mp hb];exact h
 rcases (by lia:0<hg w (v t) (v p)∨hg w (v t) (v p)<0∨hg w (v t) (v p)=0) with h|h|h
 ·exact⟨1,.inl rfl,app 1 (by rw[z0Y];lia)⟩
 ·exact⟨-1,.inr rfl,app (-1) (by rw[z0Y];lia)⟩
 ·refine⟨1,.inl rfl,?_⟩
  rw[z2K hl]
  have nz:∃n∈t,n≠0:=z6P (by lia)
  obtain⟨h1,h2⟩:=z5u (b:=t) (sg:=ldL t) (p:=fp t) hp ht (z0O t) h (by rw[q2a];exact z2B nz)
  refine⟨_,h1,fun b hb=>?_⟩
  rcases q0I.mp hb with hb|hb
  ·exact h2 b (q0G _ hb)
  ·rw[q0g.mp hb,z0Y,Int.one_mul]
   exact h2 t (by simp)
end Ld
end L2
namespace L2
open Fr Wl Pt Rk
namespace Ld
theorem y7U {ts:List (List Int)}{s:List Int}{i:Nat} (h:i<ts.length) (hl:s.length=ts.length):(bdL ts s)[i]? =some (z0o (v s i) (ts[i])):=by
 unfold bdL
 rw[List.getElem?_zipWith,q0c h,q0c (by lia)]
 have e:v s i=s[i]'(by lia):=by
  show s.getD i 0=_
  rw[q0b,q0c (by lia)];rfl
 show some (z0o (s[i]'(by lia)) ts[i])=_
 rw[e]
theorem z5g {ts:List (List Int)}{s:List Int} (hl:s.length=ts.length) {b:List Int}:b∈bdL ts s↔∃i,∃h:i<ts.length,b=z0o (v s i) ts[i]:=by
 constructor
 ·intro hb
  obtain⟨i,hi⟩:=q1N.mp hb
  have hlt:i<ts.length:=by
   have:=(q0H.mp hi).1
   unfold bdL at this
   rw[q1J] at this;lia
  rw[y7U hlt hl] at hi
  exact⟨i,hlt,(Option.some.inj hi).symm⟩
 ·rintro⟨i,h,rfl⟩
  exact q0A (y7U h hl)
theorem y0Z {s:List Int} (h:Sgn s) {i:Nat} (hi:i<s.length):v s i=1∨v s i= -1:=by
 have:v s i=s[i]:=by
  show s.getD i 0=s[i]
  rw[q0b,q0c hi];rfl
 rw[this]
 exact h _ (q0z hi)
end Ld
end L2
namespace L2
open Fr Wl Pt Rk
namespace Ld
def Way (w:Nat) (d:List Int):Prop:=d.length=w+1∧v d w=0∧∃j,j<w∧v d j≠0
def Wy (w:Nat) (bs:List (List Int)) (d:List Int):Prop:=Way w d∧∀b∈bs,0≤hg w (v b) (v d)
def PWy (w:Nat) (bs:List (List Int)):Prop:=∃d,Wy w bs d
theorem PWy.less {w:Nat}{bs cs:List (List Int)} (h:PWy w (bs++cs)):PWy w bs:=let ⟨d,a,b⟩:=h;⟨d,a,fun c hc=>b c (q0G _ hc)⟩
theorem y1Q (bs:List (List Int)):¬PWy 0 bs:=by
 rintro⟨d,⟨_,_,j,hj,_⟩,_⟩
 lia
theorem y2q {w:Nat}{a s:Nat→Int} (h:∀j,j≤w→s j=0):hg w a s=0:=by
 rw[z0J (b:=a) (t:=fun j=>0*s j) (fun _ _=>rfl) fun j hj=>by rw[h j hj,q0P],z4B];lia
theorem y6J {w:Nat}{d:List Int}{a:Nat→Int} (hl:d.length=w+1) (h0:v d w=0) (h:hg w a (v d)≠0):Way w d:=by
 refine⟨hl,h0,q0p fun hc=>h (y2q fun j hj=>?_)⟩
 by_cases c:j<w
 ·exact q0p fun z=>hc ⟨j,c,z⟩
 ·rw[show j=w by lia];exact h0
theorem y0o {w:Nat}{bs:List (List Int)}{b d:List Int} (hd:Wy w bs d) (hz:∀c∈bs,hg w (v c) (v d)=0) (hb:hg w (v b) (v d)<0):Wy w (bs++[b]) (z0o (-1) d):=by
 have e:∀a:Nat→Int,hg w a (v (z0o (-1) d))= -1*hg w a (v d):=fun a=>by
  rw[←z4B];exact z0J (fun _ _=>rfl) fun j _=>z1i j
 obtain⟨⟨h1,h2,j,hj,hn⟩,_⟩:=hd
 refine⟨⟨by rw[z1N,h1],by rw[z1i,h2];rfl,j,hj,by rw[z1i];lia⟩,fun c hc=>?_⟩
 rw[e]
 rcases q0I.mp hc with hc|hc
 ·rw[hz c hc];decide
 ·rw[q0g.mp hc];lia
theorem z9u {w:Nat}{b d:List Int} (hl:b.length=w+1) (hd:Way w d) (hb:hg w (v b) (v d)<0):Rk.fp b<w:=by
 refine q0p fun hc=>?_
 have z0:∀j,j<w→v b j=0:=fun j hj=>z0Z (by lia)
 have:hg w (v b) (v d)=0:=by
  unfold hg
  rw[sumTo_congr w (g:=fun _=>0) fun j hj=>by rw[z0 j hj,Int.zero_mul],hd.2.1,q0P]
  have:∀n,sumTo n (fun _=>0)=0:=fun n=>by
   induction n with
   |zero=>rfl
   |succ n ih=>rw[sumTo,ih];rfl
  rw[this];rfl
 lia
theorem y0q {w:Nat}{bs:List (List Int)}{b d0:List Int} (hbl:b.length=w+2) (hl:∀u∈bs,u.length=w+2) (h0:Wy (w+1) bs d0) (hb:hg (w+1) (v b) (v d0)<0) (hsome:∃c∈bs,hg (w+1) (v c) (v d0)≠0)
 (hn:¬PWy w (bs.map (drR (z0o (ldL b) b)))):¬PWy (w+1) (bs++[b]):=by
 rintro⟨d1,hd1,h2⟩
 have hfp:=z9u hbl h0.1 hb
 have nz:∃n∈b,n≠0:=z6P (by lia)
 have ft:=z3s nz (z0O b)
 have tl:(z0o (ldL b) b).length =w+2:=by rw[z1N,hbl]
 have tpos:0<v (z0o (ldL b) b) (Rk.fp (z0o (ldL b) b)):=by rw[z1i,ft];exact z2B nz
 have tnz:∃n∈z0o (ldL b) b,n≠0:=z1F (j:=Rk.fp (z0o (ldL b) b)) (by lia)
 obtain⟨d,hd,hw,ho⟩:∃d:List Int,Way (w+1) d∧(∀c∈bs,0≤hg (w+1) (v c) (v d))∧hg (w+1) (v b) (v d)=0:=by
  have hb1:=h2 b (by simp)
  by_cases hz:hg (w+1) (v b) (v d1)=0
  ·exact⟨d1,hd1,fun c hc=>h2 c (q0G _ hc),hz⟩
  ·generalize e1:hg (w+1) (v b) (v d1)=x1 at*
   generalize e0:hg (w+1) (v b) (v d0)=x0 at*
   have ev:∀a:Nat→Int,hg (w+1) a (v (mkL (w+1) fun j=>x1*v d0 j+(-x0)*v d1 j))=x1*hg (w+1) a (v d0)+(-x0)*hg (w+1) a (v d1):=fun a=>by rw[y2s,z6V]
   obtain⟨c,hc,hcn⟩:=hsome
   have x1p:0<x1:=by lia
   refine⟨mkL (w+1) fun j=>x1*v d0 j+(-x0)*v d1 j,y6J (a:=v c) (z7Y _ _) (by rw[y4c (q0i _),h0.1.2.1,hd1.2.1];lia) ?_,fun c' hc'=>?_,by rw[ev,e0,e1];grind⟩
   ·rw[ev]
    have a1:=h0.2 c hc
    have a2:=q1R x1p (show 0<hg (w+1) (v c) (v d0) by lia)
    have a3:=q1r (show 0≤ -x0 by lia) (h2 c (q0G _ hc))
    lia
   ·rw[ev]
    have a2:=q1r (q1B x1p) (h0.2 c' hc')
    have a3:=q1r (show 0≤ -x0 by lia) (h2 c' (q0G _ hc'))
    lia
 have hot:hg (w+1) (v (z0o (ldL b) b)) (v d)=0:=by rw[z0Y,ho,q0P]
 have hpw:Rk.fp (z0o (ldL b) b)≤w:=by lia
 have esk:skp (Rk.fp (z0o (ldL b) b)) w=w+1:=by unfold skp;rw[if_neg (by lia)]
 refine hn ⟨d.eraseIdx (Rk.fp (z0o (ldL b) b)),⟨by rw[List.length_eraseIdx,if_pos (by have:=hd.1;lia),hd.1];rfl,by rw[z1M,esk];exact hd.2.1,q0p fun hc=>?_⟩,fun c hc=>?_⟩
 · -- all other numbers 0:so that of the wall's own way too
   have z:∀j,j<w→v d (skp (Rk.fp (z0o (ldL b) b)) j)=0:=fun j hj=>by
    refine q0p fun zz=>hc ⟨j,hj,?_⟩
    rw[z1M];exact zz
   have e:=z6e (w:=w) (a:=v (z0o (ldL b) b)) (s:=v d) hpw
   rw[hot,y2q (s:=fun j=>v d (skp (Rk.fp (z0o (ldL b) b)) j)) fun j hj=>by
    by_cases cj:j<w
    ·exact z j cj
    ·rw[show j=w by lia,esk];exact hd.2.1] at e
   have hp0:v d (Rk.fp (z0o (ldL b) b))=0:=by
    have:v (z0o (ldL b) b) (Rk.fp (z0o (ldL b) b))*v d (Rk.fp (z0o (ldL b) b))=0:=by lia
    exact (q1q.mp this).resolve_left (by lia)
   obtain⟨j,hj,hjn⟩:=hd.2.2
   by_cases c1:j=Rk.fp (z0o (ldL b) b)
   ·exact hjn (by rw[c1];exact hp0)
   ·by_cases c2:j<Rk.fp (z0o (ldL b) b)
    ·have:=z j (by lia)
     unfold skp at this
     rw[if_pos c2] at this
     exact hjn this
    ·have:=z (j - 1) (by lia)
     unfold skp at this
     rw[if_neg (by lia),show j - 1+1=j by lia] at this
     exact hjn this
 ·obtain⟨u,hu,rfl⟩:=q0f.mp hc
  have h1:=z3r (s:=v d) hpw tl (hl u hu) tnz
  rw[hot,q0P,q1m] at h1
  rw[z0J (w:=w) (a:=v (drR (z0o (ldL b) b) u)) (b:=v (drR (z0o (ldL b) b) u)) (s:=v (d.eraseIdx (Rk.fp (z0o (ldL b) b)))) (t:=fun j=>v d (skp (Rk.fp (z0o (ldL b) b)) j)) (fun _ _=>rfl) (fun j _=>z1M _ _ _),h1]
  exact q1r (q1B (z3n tpos)) (hw u hu)
theorem y0p {w:Nat}{bs:List (List Int)}{b f:List Int} (hbl:b.length=w+2) (hl:∀u∈bs,u.length=w+2) (hfp:Rk.fp b≤w) (hf:Wy w (bs.map (drR (z0o (ldL b) b))) f):Wy (w+1) (bs++[b]) (z4u (upL (w+1) (z0o (ldL b) b) f)):=by
 have nz:∃n∈b,n≠0:=z6P (by lia)
 have ft:=z3s nz (z0O b)
 have tl:(z0o (ldL b) b).length =w+2:=by rw[z1N,hbl]
 have tpos:0<v (z0o (ldL b) b) (Rk.fp (z0o (ldL b) b)):=by rw[z1i,ft];exact z2B nz
 have tnz:∃n∈z0o (ldL b) b,n≠0:=z1F (j:=Rk.fp (z0o (ldL b) b)) (by lia)
 have hpw:Rk.fp (z0o (ldL b) b)≤w:=by lia
 obtain⟨⟨f1,f2,j,hj,hjn⟩,f4⟩:=hf
 have ul:=y0B (t:=z0o (ldL b) b) f1 hpw
 have uo:=y3n (t:=z0o (ldL b) b) f1 hpw
 have esk:skp (Rk.fp (z0o (ldL b) b)) w=w+1:=by unfold skp;rw[if_neg (by lia)]
 have unz:v (upL (w+1) (z0o (ldL b) b) f) (skp (Rk.fp (z0o (ldL b) b)) j)≠0:=by
  rw[z2M f1 hpw];exact q1g (by lia) hjn
 have gp:0<(z1z (upL (w+1) (z0o (ldL b) b) f):Int):=by
  have:=z1u (z1F unz);lia
 have lv:=fun i=>y1X (s:=upL (w+1) (z0o (ldL b) b) f) i
 have hjs:skp (Rk.fp (z0o (ldL b) b)) j<w+1:=by unfold skp;split<;>lia
 refine⟨⟨by rw[z8V,ul],?_,skp (Rk.fp (z0o (ldL b) b)) j,hjs,fun z=>unz ?_⟩,fun c hc=>?_⟩
 ·have e:=lv (w+1)
  have e2:=z2M (j:=w) (t:=z0o (ldL b) b) f1 hpw
  rw[esk,f2,q0P] at e2
  rw[e2] at e
  exact (q1q.mp e).resolve_left (by lia)
 ·rw[←lv,z,q0P]
 ·have hlo:=z8b (w:=w+1) (s:=upL (w+1) (z0o (ldL b) b) f) (a:=v c)
  have fin:0≤hg (w+1) (v c) (v (upL (w+1) (z0o (ldL b) b) f)):=by
   rcases q0I.mp hc with hc|hc
   ·have h1:=z3r (s:=v (upL (w+1) (z0o (ldL b) b) f)) hpw tl (hl c hc) tnz
    rw[uo,q0P,q1m] at h1
    have h2:hg w (v (drR (z0o (ldL b) b) c)) (fun j=>v (upL (w+1) (z0o (ldL b) b) f) (skp (Rk.fp (z0o (ldL b) b)) j))=v (z0o (ldL b) b) (Rk.fp (z0o (ldL b) b))*hg w (v (drR (z0o (ldL b) b) c)) (v f):=by
     rw[←z4B]
     exact z0J (fun _ _=>rfl) fun j _=>z2M f1 hpw
    have h3:=q1r (q1B tpos) (f4 _ (q0L hc))
    rw[←h2,h1] at h3
    refine q0p fun z=>?_
    have:=Int.mul_neg_of_pos_of_neg (z3n (u:=c) tpos) (show hg (w+1) (v c) (v (upL (w+1) (z0o (ldL b) b) f))<0 by lia)
    lia
   ·rw[q0g.mp hc]
    rw[z0Y] at uo
    have:=(q1q.mp uo).resolve_left (by rcases z0O b with h|h<;>rw[h]<;>decide)
    lia
  refine q0p fun z=>?_
  have:=Int.mul_neg_of_pos_of_neg gp (show hg (w+1) (v c) (v (z4u (upL (w+1) (z0o (ldL b) b) f)))<0 by lia)
  lia
end Ld
end L2
namespace L2
open Fr Wl Pt Rk
namespace Ld
def sgn (n:Int):Int:=if 0<n then 1 else -1
theorem z3Z {n:Int} (h:n≠0):0<sgn n*n:=by
 unfold sgn
 split<;>lia
theorem z6B (n:Int):sgn n=1∨sgn n= -1:=by unfold sgn;split<;>simp
theorem z2Q {s n:Int} (hs:s=1∨s= -1) (h:0<s*n):n≠0∧s=sgn n:=by
 unfold sgn
 rcases hs with rfl|rfl
 ·exact⟨by lia,by rw[if_pos (by lia)]⟩
 ·exact⟨by lia,by rw[if_neg (by lia)]⟩
def Off (m:Nat) (ts:List (List Int)) (x:List Int):Prop:=Spt m x∧∀t∈ts,hg m (v t) (v x)≠0
def sgs (m:Nat) (ts:List (List Int)) (x:List Int):List Int:=ts.map fun t=>sgn (hg m (v t) (v x))
theorem y3w {m:Nat}{ts:List (List Int)}{x:List Int}{i:Nat} (h:i<ts.length):v (sgs m ts x) i=sgn (hg m (v ts[i]) (v x)):=by
 show (sgs m ts x).getD i 0=_
 unfold sgs
 rw[q0b,q0h,q0c h];rfl
theorem mem_pt {m:Nat}{ts:List (List Int)}{s:List Int}:s∈sgN m ts ts.length↔∃x,Off m ts x∧s=sgs m ts x:=by
 rw[z5X (q0i _),q0T]
 constructor
 ·rintro⟨h1,h2,x,hx,hw⟩
  have key:∀i (h:i<ts.length),hg m (v ts[i]) (v x)≠0∧v s i=sgn (hg m (v ts[i]) (v x)):=fun i h=>by
   have:=hw _ ((z5g h1).mpr ⟨i,h,rfl⟩)
   rw[z0Y] at this
   exact z2Q (y0Z h2 (by lia)) this
  refine⟨x,⟨hx,fun t ht=>?_⟩,y0z (by unfold sgs;rw[List.length_map,h1]) fun j=>?_⟩
  ·obtain⟨i,hi,rfl⟩:=q0B.mp ht
   exact (key i hi).1
  ·by_cases hj:j<ts.length
   ·rw[y3w hj];exact (key j hj).2
   ·rw[z9y (by lia),z9y (by unfold sgs;rw[List.length_map];lia)]
 ·rintro⟨x,⟨hx,ho⟩,rfl⟩
  have hl:(sgs m ts x).length =ts.length:=by unfold sgs;rw[List.length_map]
  refine⟨hl,fun y hy=>?_,x,hx,fun b hb=>?_⟩
  ·obtain⟨t,_,rfl⟩:=q0f.mp hy
   exact z6B _
  ·obtain⟨i,h,rfl⟩:=(z5g hl).mp hb
   rw[z0Y,y3w h]
   exact z3Z (ho _ (q0z h))
open Classical in
theorem z9C (w:Nat) (ts:List (List Int)) (t s:List Int):(z1e w ts t s).Nodup :=by
 unfold z1e
 refine List.Pairwise.filter _ ?_
 simp
open Classical in
theorem z8P {w:Nat}{ts:List (List Int)}{t s s':List Int} (h:s'∈z1e w ts t s):∃x,s'=s++[x]:=by
 unfold z1e at h
 have:=(q1u.mp h).1
 simp only[q0n,q2e,or_false] at this
 rcases this with rfl|rfl
 ·exact⟨_,rfl⟩
 ·exact⟨_,rfl⟩
theorem z2R (w:Nat) (ts:List (List Int)):∀i,(sgN w ts i).Nodup
 |0=>by show ([[]]:List (List Int)).Nodup;simp
 |i+1=>by
  rw[sgN]
  have ih:=z2R w ts i
  generalize sgN w ts i=L at*
  induction L with
  |nil=>simp
  |cons s L ih2=>
   obtain⟨h1,h2⟩:=q1E.mp ih
   rw[q1Y]
   refine List.nodup_append.mpr ⟨z9C _ _ _ _,ih2 h2,fun a ha b hb e=>?_⟩
   obtain⟨s2,hs2,hb2⟩:=q1H.mp hb
   obtain⟨x,rfl⟩:=z8P ha
   obtain⟨y,rfl⟩:=z8P hb2
   have:=(List.append_inj' e rfl).1
   exact h1 (this▸hs2)
def y5m (w:Nat) (ts:List (List Int)) (t s:List Int):Prop:=z6n w (ts++[t]) (s++[-1])∧z6n w (ts++[t]) (s++[1])
open Classical in
theorem z9D {w:Nat}{ts:List (List Int)}{t s:List Int} (h:∃x,(x=1∨x= -1)∧z6n w (ts++[t]) (s++[x])):(z1e w ts t s).length =1+if y5m w ts t s then 1 else 0:=by
 unfold z1e y5m
 by_cases h1:z6n w (ts++[t]) (s++[-1])
 ·by_cases h2:z6n w (ts++[t]) (s++[1])
  ·rw[q0O (by simpa using h1),q0O (by simpa using h2),if_pos ⟨h1,h2⟩];rfl
  ·rw[q0O (by simpa using h1),q0V (by simpa using h2),if_neg (fun z=>h2 z.2)];rfl
 ·by_cases h2:z6n w (ts++[t]) (s++[1])
  ·rw[q0V (by simpa using h1),q0O (by simpa using h2),if_neg (fun z=>h1 z.1)];rfl
  ·obtain⟨x,hx,hr⟩:=h
   rcases hx with rfl|rfl
   ·exact absurd hr h2
   ·exact absurd hr h1
open Classical in
theorem z5k {w:Nat}{ts:List (List Int)}{t:List Int}:∀(L:List (List Int)),(∀s∈L,∃x,(x=1∨x= -1)∧z6n w (ts++[t]) (s++[x]))→(L.flatMap (z1e w ts t)).length =L.length+(L.filter fun s=>decide (y5m w ts t s)).length
 |[],_=>rfl
 |s::L,h=>by
  rw[q1Y,q0k,z9D (h s q0l),z5k L fun s' hs'=>h s' (q0j _ hs'),q0J]
  by_cases hb:y5m w ts t s
  ·rw[if_pos hb,q0O (by simpa using hb),q0J];lia
  ·rw[if_neg hb,q0V (by simpa using hb)];lia
theorem y1U {X Y:List (List Int)} (hX:X.Nodup) (hY:Y.Nodup) (R:List Int→List Int→Prop) (h1:∀x∈X,∃y∈Y,R x y) (h2:∀y∈Y,∃x∈X,R x y) (i1:∀x x' y,R x y→R x' y→x=x') (i2:∀x y y',R x y→R x y'→y=y'):X.length=Y.length:=by
 have hf:∀x:List Int,∃y:List Int,x∈X→y∈Y∧R x y:=fun x=>by
  by_cases h:x∈X
  ·obtain⟨y,hy,r⟩:=h1 x h
   exact⟨y,fun _=>⟨hy,r⟩⟩
  ·exact⟨[],fun z=>absurd z h⟩
 obtain⟨f,hf⟩:=Classical.axiomOfChoice hf
 have hp:(X.map f).Perm Y:=by
  refine (List.perm_ext_iff_of_nodup ?_ hY).mpr fun y=>?_
  ·refine q1a.mpr (hX.imp_of_mem fun {a b} ha hb hab e=>hab ?_)
   exact i1 a b (f a) (hf a ha).2 (e▸(hf b hb).2)
  ·rw[q0f]
   constructor
   ·rintro⟨x,hx,rfl⟩
    exact (hf x hx).1
   ·intro hy
    obtain⟨x,hx,r⟩:=h2 y hy
    exact⟨x,hx,i2 x _ _ (hf x hx).2 r⟩
 have:=hp.length_eq
 rwa[q0a] at this
end Ld
end L2
namespace L2
open Fr Wl Pt Rk
namespace Ld
theorem z7A {b x y:Int} (hb:b≠0) (hx:x≠0) (hy:y≠0):sgn (b*x)=sgn (b*y)↔sgn x=sgn y:=by
 have key:∀z:Int,z≠0→sgn (b*z)=sgn b*sgn z:=fun z hz=>by
  have h1:=z3Z hb
  have h2:=z3Z hz
  refine ((z2Q (s:=sgn b*sgn z) ?_ ?_).2).symm
  ·rcases z6B b with h|h<;>rcases z6B z with h'|h'<;>rw[h,h']<;>simp
  ·have:=q1R h1 h2
   have e:sgn b*sgn z*(b*z)=sgn b*b*(sgn z*z):=by grind
   rw[e];exact this
 rw[key x hx,key y hy]
 constructor
 ·intro h
  rcases z6B b with e|e<;>rw[e] at h<;>lia
 ·intro h;rw[h]
theorem y6u {m:Nat}{b:List Int} (hz:∀j,j<m→v b j=0) (s:Nat→Int):hg m (v b) s= -(v b m*s m):=by
 unfold hg
 rw[sumTo_congr m (g:=fun _=>0) fun j hj=>by rw[hz j hj,Int.zero_mul]]
 have:∀n,sumTo n (fun _=>0)=0:=fun n=>by
  induction n with
  |zero=>rfl
  |succ n ih=>rw[sumTo,ih];rfl
 rw[this];lia
theorem z3M {m:Nat}{r:List Int}{s:Nat→Int}:hg m (v r) s=byL r*hg m (v (z0m r)) s:=by
 rw[←y2r]
 exact z0J (fun j _=>by rw[←z1X (r:=r) j,q2a]) fun _ _=>rfl
theorem y2Y {m:Nat}{A:List (List Int)}{t s:List Int} (ht:WL m t) (hl:A.length=s.length):y5m m A t s↔∃x,Win m (bdL A s) x∧hg m (v t) (v x)=0:=by
 unfold y5m z6n
 rw[z2K hl,z2K hl]
 constructor
 ·rintro⟨⟨x,hx,hw⟩,⟨y,hy,hw'⟩⟩
  have h1:=hw (z0o (-1) t) (by simp)
  have h2:=hw' (z0o 1 t) (by simp)
  rw[z0Y] at h1 h2
  exact y7P (b:=t) ⟨hx,fun c hc=>hw c (q0G _ hc)⟩ (by lia) ⟨hy,fun c hc=>hw' c (q0G _ hc)⟩ (by lia)
 ·rintro⟨x,hx,h0⟩
  have tp:=ht.pos
  exact⟨⟨_,z5u (b:=z0o (-1) t) (p:=Rk.fp t) (sg:= -1) hx ht.fp (.inr rfl) (by rw[z0Y,h0];rfl) (by rw[z1i];lia)⟩,⟨_,z5u (b:=z0o 1 t) (p:=Rk.fp t) (sg:=1) hx ht.fp (.inl rfl) (by rw[z0Y,h0];rfl) (by rw[z1i];lia)⟩⟩
def z9I (m:Nat) (t:List Int) (A:List (List Int)) (y:List Int):List Int:=A.map fun u=>sgn (hg m (v (drR t u)) (v y))
def OffR (m:Nat) (t:List Int) (A:List (List Int)) (y:List Int):Prop:=Spt m y∧∀u∈A,hg m (v (drR t u)) (v y)≠0
theorem z8R {m:Nat}{t:List Int}{A:List (List Int)}{s:List Int} (ht:WL (m+1) t) (hA:∀u∈A,WL (m+1) u):(s∈sgN (m+1) A A.length∧y5m (m+1) A t s)↔∃y,OffR m t A y∧s=z9I m t A y:=by
 have hp:Rk.fp t≤m:=by have:=ht.fp;lia
 have tpos:=ht.pos
 constructor
 ·rintro⟨hs,hb⟩
  obtain⟨h1,h2,_⟩:=(z5X (q0i _)).mp hs
  obtain⟨x,hx,h0⟩:=(y2Y ht h1.symm).mp hb
  have hy:=z9m hp ht.len tpos (fun b hb=>by
   obtain⟨i,h,rfl⟩:=(z5g h1).mp hb
   rw[z1N];exact (hA _ (q0z h)).len) hx h0
  have key:∀i (h:i<A.length),hg m (v (drR t A[i])) (v (x.eraseIdx (Rk.fp t)))≠0∧v s i=sgn (hg m (v (drR t A[i])) (v (x.eraseIdx (Rk.fp t)))):=fun i h=>by
   have e:=z3r (s:=v x) hp ht.len (hA _ (q0z h)).len ht.nz
   rw[h0,q0P,q1m] at e
   have e2:hg m (v (drR t A[i])) (v (x.eraseIdx (Rk.fp t)))=z3o A[i] t*hg (m+1) (v A[i]) (v x):=by
        rw[←e];exact z0J (fun _ _=>rfl) fun j _=>z1M _ _ _
   have hw:=hx.2 _ ((z5g h1).mpr ⟨i,h,rfl⟩)
   rw[z0Y] at hw
   refine z2Q (y0Z h2 (by lia)) ?_
   rw[e2]
   have:=q1R (z3n (u:=A[i]) tpos) hw
   have e3:v s i*(z3o A[i] t*hg (m+1) (v A[i]) (v x))=z3o A[i] t*(v s i*hg (m+1) (v A[i]) (v x)):=by grind
   rw[e3];exact this
  refine⟨x.eraseIdx (Rk.fp t),⟨hy.1,fun u hu=>?_⟩,y0z (by unfold z9I;rw[List.length_map,h1]) fun j=>?_⟩
  ·obtain⟨i,hi,rfl⟩:=q0B.mp hu
   exact (key i hi).1
  ·by_cases hj:j<A.length
   ·rw[(key j hj).2]
    show _=(z9I m t A (x.eraseIdx (Rk.fp t))).getD j 0
    unfold z9I
    rw[q0b,q0h,q0c hj];rfl
   ·rw[z9y (by lia),z9y (by unfold z9I;rw[List.length_map];lia)]
 ·rintro⟨y,⟨hy,ho⟩,rfl⟩
  have hw0:Win (m+1) [] (upL (m+1) t y):=y0A hp ht.len tpos (fun u hu=>by cases hu) ⟨hy,fun b hb=>by cases hb⟩
  have h0:=y3n (t:=t) hy.1 hp
  have key:∀u∈A,hg (m+1) (v u) (v (upL (m+1) t y))≠0∧sgn (hg m (v (drR t u)) (v y))=sgn (hg (m+1) (v u) (v (upL (m+1) t y))):=fun u hu=>by
   have e:=z3r (s:=v (upL (m+1) t y)) hp ht.len (hA u hu).len ht.nz
   rw[h0,q0P,q1m] at e
   have e2:hg m (v (drR t u)) (fun j=>v (upL (m+1) t y) (skp (Rk.fp t) j))=v t (Rk.fp t)*hg m (v (drR t u)) (v y):=by
        rw[←z4B]
        exact z0J (fun _ _=>rfl) fun j _=>z2M hy.1 hp
   rw[e2] at e
   have s1:=z3Z (ho u hu)
   have h3:=q1R tpos s1
   have e3:v t (Rk.fp t)*(sgn (hg m (v (drR t u)) (v y))*hg m (v (drR t u)) (v y))=z3o u t*(sgn (hg m (v (drR t u)) (v y))*hg (m+1) (v u) (v (upL (m+1) t y))):=by
        have:sgn (hg m (v (drR t u)) (v y))*(v t (Rk.fp t)*hg m (v (drR t u)) (v y))=sgn (hg m (v (drR t u)) (v y))*(z3o u t*hg (m+1) (v u) (v (upL (m+1) t y))):=by rw[e]
        grind
   rw[e3] at h3
   exact z2Q (z6B _) (z2q (z3n (u:=u) tpos) rfl h3)
  have es:z9I m t A y=sgs (m+1) A (upL (m+1) t y):=q0S fun u hu=>(key u hu).2
  have hoff:Off (m+1) A (upL (m+1) t y):=⟨hw0.1,fun u hu=>(key u hu).1⟩
  have hl:(z9I m t A y).length =A.length:=by unfold z9I;rw[List.length_map]
  refine⟨mem_pt.mpr ⟨_,hoff,es⟩,(y2Y ht hl.symm).mpr ⟨_,⟨hw0.1,fun b hb=>?_⟩,h0⟩⟩
  obtain⟨i,h,rfl⟩:=(z5g hl).mp hb
  rw[z0Y,es,y3w h]
  exact z3Z (hoff.2 _ (q0z h))
theorem mem_wd {F:List Int→Option (List Int)}{A:List (List Int)}{d:List Int}:d∈wd F A↔∃u∈A,F u=some d:=by
 unfold wd
 rw[z7d]
 constructor
 ·rintro (h|h)
  ·cases h
  ·exact List.mem_filterMap.mp h
 ·exact fun h=> .inr (List.mem_filterMap.mpr h)
theorem z5m {m:Nat}{t u:List Int} (ht:WL (m+1) t) (hu:WL (m+1) u) (hne:u≠t):(∃d,drF t u=some d∧∃c:Int,c≠0∧∀s:Nat→Int,hg m (v (drR t u)) s=c*hg m (v d) s)∨(∃c:Int,c≠0∧∀s:Nat→Int,hg m (v (drR t u)) s=c*s m):=by
 have hul:u.length=t.length:=by rw[hu.len,ht.len]
 have hl:(drR t u).length =m+1:=by have:=z2k hul ht.nz;have:=ht.len;lia
 by_cases hc:(drR t u).dropLast.any (· != 0)=true
 ·obtain⟨j,hj,hjn⟩:=(z1m hl).mp hc
  exact .inl ⟨_,by unfold drF;rw[if_pos hc],byL (drR t u),z3d ⟨_,(z6q hjn).2,hjn⟩,fun s=>z3M⟩
 ·have z0:∀c,c<m→v (drR t u) c=0:=fun c hcm=>q0p fun z=>hc ((z1m hl).mpr ⟨c,hcm,z⟩)
  exact .inr ⟨-(v (drR t u) m),by have:=y1P ht hu hne z0;lia,fun s=>by rw[y6u z0];grind⟩
open Classical in
theorem y0c {m:Nat}{t:List Int}{A:List (List Int)} (ht:WL (m+1) t) (hA:∀u∈A,WL (m+1) u∧u≠t):((sgN (m+1) A A.length).filter fun s=>decide (y5m (m+1) A t s)).length =(sgN m (wd (drF t) A) (wd (drF t) A).length).length :=by
 have hA':∀u∈A,WL (m+1) u:=fun u hu=>(hA u hu).1
 have off:∀y,OffR m t A y↔Off m (wd (drF t) A) y:=fun y=>by
  constructor
  ·rintro⟨h1,h2⟩
   refine⟨h1,fun d hd=>?_⟩
   obtain⟨u,hu,e⟩:=mem_wd.mp hd
   have:=h2 u hu
   obtain⟨c,rfl⟩:=z9l e
   rw[z3M] at this
   exact fun z=>this (by rw[z,q0P])
  ·rintro⟨h1,h2⟩
   refine⟨h1,fun u hu=>?_⟩
   rcases z5m ht (hA u hu).1 (hA u hu).2 with⟨d,e,c,c0,hc⟩|⟨c,c0,hc⟩
   ·rw[hc];exact q1g c0 (h2 d (mem_wd.mpr ⟨u,hu,e⟩))
   ·rw[hc];exact q1g c0 (by have:=h1.2;lia)
 have same:∀y y',Off m (wd (drF t) A) y→Off m (wd (drF t) A) y'→(z9I m t A y=z9I m t A y'↔sgs m (wd (drF t) A) y=sgs m (wd (drF t) A) y'):=fun y y' h h'=>by
  unfold z9I sgs
  rw[List.map_inj_left,List.map_inj_left]
  constructor
  ·intro hr d hd
   obtain⟨u,hu,e⟩:=mem_wd.mp hd
   have:=hr u hu
   obtain⟨hc,rfl⟩:=z9l e
   have hul:u.length=t.length:=by rw[(hA' u hu).len,ht.len]
   have hl:(drR t u).length =m+1:=by have:=z2k hul ht.nz;have:=ht.len;lia
   obtain⟨j,hj,hjn⟩:=(z1m hl).mp hc
   rw[z3M,z3M (r:=drR t u) (s:=v y')] at this
   exact (z7A (z3d ⟨_,(z6q hjn).2,hjn⟩) (h.2 _ hd) (h'.2 _ hd)).mp this
  ·intro hr u hu
   rcases z5m ht (hA u hu).1 (hA u hu).2 with⟨d,e,c,c0,hc⟩|⟨c,c0,hc⟩
   ·have hd:=mem_wd.mpr ⟨u,hu,e⟩
    rw[hc,hc]
    exact (z7A c0 (h.2 d hd) (h'.2 d hd)).mpr (hr d hd)
   ·rw[hc,hc]
    refine (z7A c0 (by have:=h.1.2;lia) (by have:=h'.1.2;lia)).mpr ?_
    unfold sgn
    rw[if_pos h.1.2,if_pos h'.1.2]
 refine y1U (List.Pairwise.filter _ (z2R _ _ _)) (z2R _ _ _) (fun s s'=>∃y,Off m (wd (drF t) A) y∧s=z9I m t A y∧s'=sgs m (wd (drF t) A) y) ?_ ?_ ?_ ?_
 ·intro s hs
  obtain⟨h1,h2⟩:=q1u.mp hs
  obtain⟨y,hy,rfl⟩:=(z8R ht hA').mp ⟨h1,of_decide_eq_true h2⟩
  exact⟨_,mem_pt.mpr ⟨y,(off y).mp hy,rfl⟩,y,(off y).mp hy,rfl,rfl⟩
 ·intro s' hs'
  obtain⟨y,hy,rfl⟩:=mem_pt.mp hs'
  obtain⟨h1,h2⟩:=(z8R (s:=z9I m t A y) ht hA').mpr ⟨y,(off y).mpr hy,rfl⟩
  exact⟨_,q1u.mpr ⟨h1,decide_eq_true h2⟩,y,hy,rfl,rfl⟩
 ·rintro s s2 s' ⟨y,hy,rfl,rfl⟩ ⟨y',hy',rfl,e⟩
  exact (same y y' hy hy').mpr e
 ·rintro s s' s2 ⟨y,hy,rfl,rfl⟩ ⟨y',hy',e,rfl⟩
  exact (same y y' hy hy').mp e
theorem y1a (w:Nat) (A B:List (List Int)):∀i,i≤A.length→sgN w (A++B) i=sgN w A i
 |0,_=>rfl
 |i+1,h=>by
  rw[sgN,sgN,y1a w A B i (by lia),List.take_append_of_le_length (by lia)]
  have e:(A++B).getD i []=A.getD i []:=by rw[q0b,q0b,q0D (by lia)]
  rw[e]
theorem y0b {m:Nat}{t:List Int}{A:List (List Int)} (ht:WL (m+1) t) (hA:∀u∈A,WL (m+1) u∧u≠t):(sgN (m+1) (A++[t]) (A++[t]).length).length =(sgN (m+1) A A.length).length +(sgN m (wd (drF t) A) (wd (drF t) A).length).length :=by
 rw[←y0c ht hA,q0k,q1j,sgN,y1a _ _ _ _ (q0i _),List.take_append_of_le_length (q0i _),q0T]
 have e:(A++[t]).getD A.length []=t:=by rw[q0b,q0v (q0i _),q1y];rfl
 rw[e]
 exact z5k _ fun s hs=>by
  obtain⟨h1,_,h3⟩:=(z5X (q0i _)).mp hs
  rw[q0T] at h3
  exact y1q h1.symm ht.len ht.fp h3
def alt (m:Nat) (f:Nat→Int):Int:=sumTo (m+1) fun k=>(-1)^(m+k)*f k
theorem y6C {m:Nat}{f g:Nat→Int} (hg0:g (m+1)=0):alt (m+1) (fun k=>f k - g k)=alt (m+1) f+alt m g:=by
 have e1:alt (m+1) (fun k=>f k - g k)=sumTo (m+2) (fun k=>1*((-1)^(m+1+k)*f k)+(-1)*((-1)^(m+1+k)*g k)):=sumTo_congr _ fun k _=>by dsimp only;grind
 rw[e1,z2f]
 have e2:sumTo (m+2) (fun k=>(-1)^(m+1+k)*g k)= -1*alt m g:=by
  rw[sumTo,hg0,q0P,q1m]
  unfold alt
  have h3:sumTo (m+1) (fun k=>(-1)^(m+1+k)*g k)=sumTo (m+1) (fun k=>(-1)*((-1)^(m+k)*g k)+0*((-1)^(m+k)*g k)):=sumTo_congr _ fun k _=>by
   rw[show m+1+k=m+k+1 by lia,Int.pow_succ]
   grind
  rw[h3,z2f,Int.zero_mul,q1m]
 rw[e2]
 show 1*alt (m+1) f+_=_
 grind
theorem z7R {m k:Nat} (h:m<k):∀(ws L:List (List Int)),pS m L ws k=0
 |[],L=>by
  rw[pS]
  unfold gS
  split
  ·rfl
  ·rw[if_neg (by lia)]
 |u::ws,L=>by rw[pS,z7R h ws,z7R h ws];rfl
theorem y4A (m:Nat):alt m (pS m [] [])=1:=by
 have e:∀k,pS m [] [] k=if k=m then 1 else 0:=fun k=>by
  rw[pS,(Rws.nil (m:=m)).gS]
  show (if 0+k=m then (1:Int) else 0)=_
  rw[Nat.zero_add]
 unfold alt
 rw[sumTo,sumTo_congr m (g:=fun _=>0) fun k hk=>by rw[e,if_neg (by lia),q0P]]
 have:∀n,sumTo n (fun _=>0)=0:=fun n=>by
  induction n with
  |zero=>rfl
  |succ n ih=>rw[sumTo,ih];rfl
 rw[this,e,if_pos rfl,Int.zero_add,Int.mul_one,←Nat.two_mul,Int.pow_mul]
 show ((-1:Int)^2)^m=1
 rw[show ((-1:Int)^2)=1 by decide,Int.one_pow]
theorem z2H:∀(n m:Nat) (ts:List (List Int)),ts.length=n→(∀t∈ts,WL m t)→ts.Nodup→(((sgN m ts ts.length).length :Nat):Int)=alt m (pS m [] ts)
 |0,m,ts,hn,_,_=>by
  rw[q0Y.mp hn,y4A]
  rfl
 |n+1,m,ts,hn,hw,nd=>by
  obtain⟨A,t,rfl⟩:=z5y (ts:=ts) (fun z=>by rw[z] at hn;simp at hn)
  have ht:=hw t (by simp)
  obtain⟨m,rfl⟩:∃k,m=k+1:=⟨m - 1,by have:=ht.fp;lia⟩
  have hAn:A.length=n:=by simpa using hn
  have nd':=List.nodup_append.mp nd
  have hA:∀u∈A,WL (m+1) u∧u≠t:=fun u hu=>⟨hw u (q0G _ hu),fun e=>nd'.2.2 u hu t (by simp) e⟩
  have hout:=y4L (m:=m) (A:=A) (B:=[]) (t:=t) hw nd
  rw[z7t ht,q1F] at hout
  have ef:pS (m+1) [] (A++[t])=fun k=>pS (m+1) [] A k - pS m [] (wd (drF t) A) k:=funext hout
  have hD:=y5p ht (fun u hu=>(hA u hu).1.len) (ts:=A)
  have hDn:(wd (drF t) A).Nodup :=by unfold wd;exact z3P _ _ (by simp)
  have hDl:=y4D (drF t) A
  rw[y0b ht hA,ef,y6C (z7R (by lia) _ _),Int.natCast_add,z2H n (m+1) A hAn (fun u hu=>(hA u hu).1) nd'.1]
  rw[z2H (wd (drF t) A).length m _ rfl hD hDn]
termination_by n _ ts=>n
decreasing_by
 all_goals first|lia|(simp_wf;lia)|simp_wf
end Ld
end L2
set_option maxHeartbeats 4000000
namespace L2
namespace Ld
open Rk Wl Pt Fr
theorem z9s:∀(n m:Nat) (ts:List (List Int)),ts.length≤n→(∀t∈ts,WL m t)→ts.Nodup→∀k,(bto n m ts).getD k 0=pS m [] ts k
 |n,m,ts,hl,hw,nd,k=>by
  by_cases he:ts=[]
  ·rw[he,z8i,pS,(Rws.nil (m:=m)).gS]
   show _=if 0+k=m then (1:Int) else 0
   rw[Nat.zero_add]
   by_cases h1:k<m
   ·rw[if_neg (by lia),q0b,q0D (by simpa using h1),q2b,if_pos h1];rfl
   ·rw[q0b,q0v (by simpa using h1),q1c]
    by_cases h2:k=m
    ·rw[if_pos h2,h2,q1y];rfl
    ·rw[if_neg h2]
     obtain⟨i,hi⟩:∃i,k - m=i+1:=⟨k - m - 1,by lia⟩
     rw[hi];rfl
  obtain⟨A,t,rfl⟩:=z5y he
  have ht:=hw t (by simp)
  obtain⟨m,rfl⟩:∃k,m=k+1:=⟨m - 1,by have:=ht.fp;lia⟩
  rw[q0k,q1j] at hl
  obtain⟨n,rfl⟩:∃k,n=k+1:=⟨n - 1,by lia⟩
  have nd':=List.nodup_append.mp nd
  have hA:∀u∈A,WL (m+1) u:=fun u hu=>hw u (q0G _ hu)
  have hout:=y4L (m:=m) (A:=A) (B:=[]) (t:=t) hw nd k
  rw[q1F] at hout
  have hD:=y5p ht (fun u hu=>(hA u hu).len) (ts:=A)
  have hDn:(wd (drF t) A).Nodup :=by unfold wd;exact z3P _ _ (by simp)
  have hDl:=y4D (drF t) A
  have i1:=z9s n (m+1) A (by lia) hA nd'.1 k
  have i2:=z9s n m (wd (drF t) A) (by lia) hD hDn
  have l1:=z3v n (m+1) A hA
  have l2:=z3v n m (wd (drF t) A) hD
  rw[hout,z6j,←i1,z7t ht,Nat.add_sub_cancel,←i2 k]
  generalize bto n (m+1) A=x at l1 ⊢
  generalize bto n m (wd (drF t) A)=y at l2 ⊢
  rw[q0b,q0b,q0b,List.getElem?_zipWith]
  by_cases h1:k<m+1
  ·rw[q0D (by lia),q0c (by lia:k<x.length),q0c (by lia:k<y.length)];rfl
  ·rw[q1p (by lia:y.length≤k),q0v (by lia)]
   by_cases h2:k=m+1
   ·rw[q0c (by lia:k<x.length),show k - y.length=0 by lia];rfl
   ·rw[q1p (by lia:x.length≤k)];rfl
termination_by n _ ts=>n
end Ld
end L2
namespace L2
namespace Srt
open PyProof.Rows
open PySem.W (KasT kas_sort kas_count kas_bin kas_place kas_descPart kas_tail3 kas_desc kas_asc kas_rev)
structure Ord (c:Nat→Nat→Bool):Prop where
 asym:∀i j,c i j=true→c j i=false
 neg:∀i j k,c i j=false→c j k=false→c i k=false
def at0 (p:Array Nat) (i:Nat):Nat:=p.getD i 0
theorem z3D {p:Array Nat}{i:Nat}:at0 p i=(p[i]?).getD 0:=by unfold at0;rw[Array.getD_eq_getD_getElem?]
def Up (c:Nat→Nat→Bool) (p:Array Nat) (k:Nat):Prop:=∀i j,i≤j→j<k→c (at0 p j) (at0 p i)=false
def Dn (c:Nat→Nat→Bool) (p:Array Nat) (k:Nat):Prop:=∀i j,i≤j→j<k→c (at0 p i) (at0 p j)=false
theorem z7p {p:Array Nat}{src d:Nat} (hs:src<p.size) (hd:d≤src) (k:Nat):at0 (bubble p src d) k=if k=src - d then at0 p src else if src - d<k∧k≤src then at0 p (k - 1) else at0 p k:=by
 have e:=getElem?_bubble hs d hd k
 rw[z3D]
 by_cases h1:k=src - d
 ·rw[if_pos h1] at e ⊢;rw[z3D,e]
 ·rw[if_neg h1] at e ⊢
  by_cases h2:src - d<k∧k≤src
  ·rw[if_pos h2] at e ⊢;rw[z3D,e]
  ·rw[if_neg h2] at e ⊢;rw[z3D,e]
theorem z3C {p:Array Nat}{i j:Nat} (hj:j≤p.size) (k:Nat):at0 (kas_rev p i j) k=if i≤k∧k<j then at0 p (i+j - 1 - k) else at0 p k:=by
 have e:=getElem?_mirror_all (i:=i) hj k
 rw[z3D]
 unfold kas_rev
 by_cases h1:i≤k∧k<j
 ·rw[if_pos h1] at e ⊢;rw[z3D,e]
 ·rw[if_neg h1] at e ⊢;rw[z3D,e]
section
variable {c:Nat→Nat→Bool} (O:Ord c)
include O
theorem Ord.irr (i:Nat):c i i=false:=by
 cases h:c i i with
 |false=>rfl
 |true=>have:=O.asym i i h;rw[h] at this;exact this
theorem Up.of {p:Array Nat}{k:Nat} (h:∀i,1≤i→i<k→c (at0 p i) (at0 p (i - 1))=false):Up c p k:=by
 intro i j hij hj
 obtain⟨d,rfl⟩:∃d,j=i+d:=⟨j - i,by lia⟩
 induction d with
 |zero=>exact O.irr _
 |succ d ih=>
  have h1:=h (i+(d+1)) (by lia) hj
  exact O.neg _ _ _ h1 (ih (by lia) (by lia))
theorem Up.step {p:Array Nat}{k:Nat} (h:Up c p k) (hk:0<k→c (at0 p k) (at0 p (k - 1))=false):Up c p (k+1):=by
 refine Up.of O fun i h1 h2=>?_
 by_cases e:i=k
 ·subst e;exact hk (by lia)
 ·exact h (i - 1) i (by lia) (by lia)
theorem Dn.of {p:Array Nat}{k:Nat} (h:∀i,1≤i→i<k→c (at0 p (i - 1)) (at0 p i)=false):Dn c p k:=by
 intro i j hij hj
 obtain⟨d,rfl⟩:∃d,j=i+d:=⟨j - i,by lia⟩
 induction d with
 |zero=>exact O.irr _
 |succ d ih=>exact O.neg _ _ _ (ih (by lia) (by lia)) (h (i+(d+1)) (by lia) hj)
theorem Dn.step {p:Array Nat}{k:Nat} (h:Dn c p k) (hk:0<k→c (at0 p (k - 1)) (at0 p k)=false):Dn c p (k+1):=by
 refine Dn.of O fun i h1 h2=>?_
 by_cases e:i=k
 ·subst e;exact hk (by lia)
 ·exact h (i - 1) i (by lia) (by lia)
omit O in
theorem Dn.rev {p:Array Nat}{k:Nat} (h:Dn c p k) (hk:k≤p.size):Up c (kas_rev p 0 k) k:=by
 intro i j hij hj
 rw[z3C hk,z3C hk,if_pos (by lia),if_pos (by lia)]
 exact h _ _ (by lia) (by lia)
theorem z7L (p:Array Nat):∀f a,1≤a→Up c p a→a≤z1c c (kas_asc p f a)∧z1c c (kas_asc p f a)≤a+f∧Up c p (z1c c (kas_asc p f a))∧(z1c c (kas_asc p f a)<a+f→c (at0 p (z1c c (kas_asc p f a))) (at0 p (z1c c (kas_asc p f a) - 1))=true)
 |0,a,_,h=>⟨Nat.le_refl _,Nat.le_refl _,h,fun z=>absurd z (Nat.lt_irrefl _)⟩
 |f+1,a,ha,h=>by
  rw[kas_asc,z1c]
  cases e:c (p.getD a 0) (p.getD (a - 1) 0) with
  |true=>
   rw[if_pos rfl,z1c]
   exact⟨q0i _,by lia,h,fun _=>e⟩
  |false=>
   rw[if_neg (by decide)]
   obtain⟨h1,h2,h3,h4⟩:=z7L p f (a+1) (by lia) (h.step O fun _=>e)
   exact⟨by lia,by lia,h3,fun z=>h4 (by lia)⟩
omit O in
theorem z1H {α β:Type}{f:α→KasT β}:∀(t:KasT α),z1c c (t.bind f)=z1c c (f (z1c c t))
 | .ret _=>rfl
 | .ask i j k=>z1H (k (c i j))
omit O in
theorem z1T (p:Array Nat) (i j:Nat):(kas_rev p i j).size =p.size:=mirror_size _ _ _ _
omit O in
theorem z9r (p:Array Nat) (i j:Nat):(bubble p i j).size =p.size:=bubble_size _ _ _
def Eqs (c:Nat→Nat→Bool) (p:Array Nat) (lo hi:Nat):Prop:=∀i j,lo≤i→i<hi→lo≤j→j<hi→c (at0 p i) (at0 p j)=false
omit O in
theorem Dn.turn {p:Array Nat}{lo k:Nat} (h:Dn c p k) (he:Eqs c p lo k) (hk:k≤p.size):Dn c (kas_rev p lo k) k:=by
 intro i j hij hj
 rw[z3C hk,z3C hk]
 by_cases h1:lo≤i
 ·rw[if_pos (by lia),if_pos (by lia)]
  exact he _ _ (by lia) (by lia) (by lia) (by lia)
 ·rw[if_neg (by lia)]
  by_cases h2:lo≤j
  ·rw[if_pos (by lia)]
   exact h _ _ (by lia) (by lia)
  ·rw[if_neg (by lia)]
   exact h _ _ hij hj
theorem z3I:∀f (p:Array Nat) a q,q+1≤a→a+f≤p.size→Dn c p a→Eqs c p (a - (q+1)) a→
 (z1c c (kas_desc f p a q)).1.size =p.size∧a≤(z1c c (kas_desc f p a q)).2.1 ∧(z1c c (kas_desc f p a q)).2.1 ≤a+f∧(z1c c (kas_desc f p a q)).2.2 +1≤(z1c c (kas_desc f p a q)).2.1 ∧Dn c (z1c c (kas_desc f p a q)).1 (z1c c (kas_desc f p a q)).2.1 ∧Eqs c (z1c c (kas_desc f p a q)).1 ((z1c c (kas_desc f p a q)).2.1 - ((z1c c (kas_desc f p a q)).2.2 +1)) (z1c c (kas_desc f p a q)).2.1
 |0,p,a,q,hq,hs,hd,he=>⟨rfl,Nat.le_refl _,Nat.le_refl _,hq,hd,he⟩
 |f+1,p,a,q,hq,hs,hd,he=>by
  have one:∀(p:Array Nat) (b:Nat),Eqs c p (b+1 - (0+1)) (b+1):=fun p b i j h1 h2 h3 h4=>by
   rw[show i=j by lia];exact O.irr _
  rw[kas_desc,z1c]
  cases e:c (p.getD a 0) (p.getD (a - 1) 0) with
  |true=>
   rw[if_pos rfl]
   have e':c (at0 p a) (at0 p (a - 1))=true:=e
   by_cases hq0:q>0
   ·rw[if_pos hq0]
    have hk:a≤p.size:=by lia
    have hd2:Dn c (kas_rev p (a - (q+1)) a) (a+1):=(hd.turn he hk).step O fun _=>by
     rw[z3C hk,z3C hk,if_pos (by lia),if_neg (by lia)]
     refine O.neg _ (at0 p (a - 1)) _ (he _ _ (by lia) (by lia) (by lia) (by lia)) (O.asym _ _ e')
    obtain⟨z1,z2,z3,z4,z5,z6⟩:=z3I f _ (a+1) 0 (by lia) (by rw[z1T];lia) hd2 (one _ _)
    exact⟨by rw[z1,z1T],by lia,by lia,z4,z5,z6⟩
   ·rw[if_neg hq0]
    obtain⟨z1,z2,z3,z4,z5,z6⟩:=z3I f p (a+1) 0 (by lia) (by lia) (hd.step O fun _=>O.asym _ _ e') (one _ _)
    exact⟨z1,by lia,by lia,z4,z5,z6⟩
  |false=>
   rw[if_neg (by decide),z1c]
   have e':c (at0 p a) (at0 p (a - 1))=false:=e
   cases e2:c (p.getD (a - 1) 0) (p.getD a 0) with
   |true=>
    rw[if_pos rfl]
    exact⟨rfl,q0i _,by show a≤_;lia,hq,hd,he⟩
   |false=>
    rw[if_neg (by decide)]
    have e2':c (at0 p (a - 1)) (at0 p a)=false:=e2
    have he2:Eqs c p (a+1 - (q+1+1)) (a+1):=fun i j h1 h2 h3 h4=>by
     have toA:∀i,a - (q+1)≤i→i<a+1→c (at0 p i) (at0 p (a - 1))=false∧c (at0 p (a - 1)) (at0 p i)=false:=fun i h1 h2=>by
        by_cases hi:i=a
        ·subst hi;exact⟨e',e2'⟩
        ·exact⟨he _ _ (by lia) (by lia) (by lia) (by lia),he _ _ (by lia) (by lia) (by lia) (by lia)⟩
     exact O.neg _ _ _ (toA i (by lia) h2).1 (toA j (by lia) h4).2
    obtain⟨z1,z2,z3,z4,z5,z6⟩:=z3I f p (a+1) (q+1) (by lia) (by lia) (hd.step O fun _=>e2') he2
    exact⟨z1,by lia,by lia,z4,z5,z6⟩
theorem z6D {p:Array Nat}{a m:Nat} (h1:1≤a) (h2:a≤m) (h3:m≤p.size) (hd:Dn c p a):(z1c c (kas_tail3 a m p)).2.size =p.size∧1≤(z1c c (kas_tail3 a m p)).1 ∧(z1c c (kas_tail3 a m p)).1 ≤m∧Up c (z1c c (kas_tail3 a m p)).2 (z1c c (kas_tail3 a m p)).1 :=by
 unfold kas_tail3
 rw[z1H,z1c]
 obtain⟨z1,z2,z3,_⟩:=z7L O (kas_rev p 0 a) (m - a) a h1 (hd.rev (by lia))
 exact⟨z1T _ _ _,by lia,by lia,z3⟩
theorem z3w {p:Array Nat}{a m:Nat} (h1:1≤a) (h2:a+1≤m) (h3:m≤p.size) (hd:Dn c p (a+1)):(z1c c (kas_descPart a m p)).2.size =p.size∧1≤(z1c c (kas_descPart a m p)).1 ∧(z1c c (kas_descPart a m p)).1 ≤m∧Up c (z1c c (kas_descPart a m p)).2 (z1c c (kas_descPart a m p)).1 :=by
 unfold kas_descPart
 rw[z1H]
 obtain⟨z1,z2,z3,z4,z5,z6⟩:=z3I O (m - (a+1)) p (a+1) 0 (by lia) (by lia) hd (fun i j _ _ _ _=>by rw[show i=j by lia];exact O.irr _)
 generalize z1c c (kas_desc (m - (a+1)) p (a+1) 0)=r at*
 split
 ·obtain⟨y1,y2,y3,y4⟩:=z6D O (p:=kas_rev r.1 (r.2.1 - (r.2.2+1)) r.2.1) (a:=r.2.1) (m:=m) (by lia) (by lia) (by rw[z1T];lia) (z5.turn z6 (by lia))
  exact⟨by rw[y1,z1T,z1],y2,y3,y4⟩
 ·obtain⟨y1,y2,y3,y4⟩:=z6D O (p:=r.1) (a:=r.2.1) (m:=m) (by lia) (by lia) (by lia) z5
  exact⟨by rw[y1,z1],y2,y3,y4⟩
theorem y1i {p:Array Nat}{m:Nat} (h1:1≤m) (h3:m≤p.size):(z1c c (kas_count m p)).2.size =p.size∧1≤(z1c c (kas_count m p)).1 ∧(z1c c (kas_count m p)).1 ≤m∧Up c (z1c c (kas_count m p)).2 (z1c c (kas_count m p)).1 :=by
 unfold kas_count
 rw[z1H]
 obtain⟨z1,z2,z3,z4⟩:=z7L O p (m - 1) 1 (by lia) (Up.of O fun i h1 h2=>by lia)
 generalize z1c c (kas_asc p (m - 1) 1)=a at*
 by_cases ha:(a==m)=true
 ·rw[if_pos ha]
  exact⟨rfl,z1,by show a≤m;lia,z3⟩
 ·rw[if_neg ha]
  have ham:a≠m:=by simpa using ha
  have e4:=z4 (by lia)
  by_cases h2:a>1
  ·rw[if_pos h2,z1c]
   cases e:c (p.getD 0 0) (p.getD (a - 1) 0) with
   |true=>
    rw[if_pos rfl]
    exact⟨rfl,z1,by show a≤m;lia,z3⟩
   |false=>
    rw[if_neg (by decide)]
    have e':c (at0 p 0) (at0 p (a - 1))=false:=e
    have heq:Eqs c p 0 a:=fun i j _ hi _ hj=>O.neg _ _ _ (O.neg _ _ _ (z3 0 i (by lia) hi) e') (z3 j (a - 1) (by lia) (by lia))
    have hk:a≤p.size:=by lia
    have hd:Dn c (kas_rev p 0 a) (a+1):=(Dn.turn (lo:=0) (fun i j _ hj=>heq i j (by lia) (by lia) (by lia) hj) heq hk).step O fun _=>by
      rw[z3C hk,z3C hk,if_pos (by lia),if_neg (by lia)]
      exact O.neg _ (at0 p (a - 1)) _ (heq _ _ (by lia) (by lia) (by lia) (by lia)) (O.asym _ _ e4)
    obtain⟨y1,y2,y3,y4⟩:=z3w O (p:=kas_rev p 0 a) (a:=a) (m:=m) (by lia) (by lia) (by rw[z1T];exact h3) hd
    exact⟨by rw[y1,z1T],y2,y3,y4⟩
  ·rw[if_neg h2]
   have a1:a=1:=by lia
   subst a1
   exact z3w O (by lia) (by lia) h3 (Dn.of O fun i h1 h2=>by rw[show i=1 by lia];exact O.asym _ _ e4)
theorem z4m {p:Array Nat}{k:Nat} (hu:Up c p k):∀f l r,r - l≤f→l≤r→r≤k→(∀i,i<l→c (at0 p k) (at0 p i)=false)→(∀i,r≤i→i<k→c (at0 p k) (at0 p i)=true)→
 z1c c (kas_place p k f l r)≤k∧(∀i,i<z1c c (kas_place p k f l r)→c (at0 p k) (at0 p i)=false)∧(∀i,z1c c (kas_place p k f l r)≤i→i<k→c (at0 p k) (at0 p i)=true)
 |0,l,r,hf,hlr,hr,h1,h2=>by
  rw[kas_place,z1c]
  exact⟨by lia,h1,fun i hi hk=>h2 i (by lia) hk⟩
 |f+1,l,r,hf,hlr,hr,h1,h2=>by
  rw[kas_place]
  by_cases c0:l≥r
  ·rw[if_pos c0,z1c]
   exact⟨by lia,h1,fun i hi hk=>h2 i (by lia) hk⟩
  ·rw[if_neg c0,z1c]
   cases e:c (p.getD k 0) (p.getD ((l+r)/2) 0) with
   |true=>
    rw[if_pos rfl]
    have e':c (at0 p k) (at0 p ((l+r)/2))=true:=e
    refine z4m hu f l ((l+r)/2) (by lia) (by lia) (by lia) h1 fun i hi hk=>?_
    cases z:c (at0 p k) (at0 p i) with
    |true=>rfl
    |false=>
     have:=O.neg _ _ _ z (hu ((l+r)/2) i hi hk)
     rw[e'] at this
     exact this.symm
   |false=>
    rw[if_neg (by decide)]
    have e':c (at0 p k) (at0 p ((l+r)/2))=false:=e
    refine z4m hu f ((l+r)/2+1) r (by lia) (by lia) hr (fun i hi=>?_) h2
    exact O.neg _ _ _ e' (hu i ((l+r)/2) (by lia) (by lia))
theorem y1j:∀f (p:Array Nat) k,k+f≤p.size→Up c p k→(z1c c (kas_bin f p k)).size =p.size∧Up c (z1c c (kas_bin f p k)) (k+f)
 |0,p,k,_,h=>⟨rfl,h⟩
 |f+1,p,k,hs,h=>by
  rw[kas_bin,z1H]
  obtain⟨l1,l2,l3⟩:=z4m O h k 0 k (by lia) (by lia) (q0i _) (fun i hi=>absurd hi (Nat.not_lt_zero _)) (fun i h1 h2=>absurd h2 (by lia))
  generalize z1c c (kas_place p k k 0 k)=l at*
  have hk:k<p.size:=by lia
  have hu:Up c (bubble p k (k - l)) (k+1):=fun i j hij hj=>by
   rw[z7p hk (by lia),z7p hk (by lia),show k - (k - l)=l by lia]
   by_cases i1:i=l
   ·rw[if_pos i1]
    by_cases j1:j=l
    ·rw[if_pos j1];exact O.irr _
    ·rw[if_neg j1,if_pos (by lia)]
     exact O.asym _ _ (l3 (j - 1) (by lia) (by lia))
   ·rw[if_neg i1]
    by_cases i2:l<i∧i≤k
    ·rw[if_pos i2,if_neg (by lia),if_pos (by lia)]
     exact h (i - 1) (j - 1) (by lia) (by lia)
    ·rw[if_neg i2]
     by_cases j1:j=l
     ·rw[if_pos j1];exact l2 i (by lia)
     ·rw[if_neg j1]
      by_cases j2:l<j∧j≤k
      ·rw[if_pos j2];exact h i (j - 1) (by lia) (by lia)
      ·rw[if_neg j2];exact h i j hij (by lia)
  obtain⟨y1,y2⟩:=y1j f (bubble p k (k - l)) (k+1) (by rw[z9r];lia) hu
  exact⟨by rw[y1,z9r],by rw[show k+(f+1)=k+1+f by lia];exact y2⟩
theorem y3D {n:Nat} (hn:1≤n):(z1c c (kas_sort n)).size =n∧Up c (z1c c (kas_sort n)) n:=by
 unfold kas_sort
 rw[z1H]
 have hsz:(List.toArray (List.range n)).size =n:=by rw[q0e,q0W]
 obtain⟨z1,z2,z3,z4⟩:=y1i O (p:=List.toArray (List.range n)) (m:=n) hn (by lia)
 generalize z1c c (kas_count n (List.toArray (List.range n)))=r at*
 by_cases h:r.1<n
 ·rw[if_pos h]
  have hm:max r.1 1=r.1:=by lia
  rw[hm]
  obtain⟨y1,y2⟩:=y1j O (n - r.1) r.2 r.1 (by lia) z4
  exact⟨by lia,by rw[show r.1+(n - r.1)=n by lia] at y2;exact y2⟩
 ·rw[if_neg h]
  have:r.1=n:=by lia
  rw[this] at z4
  exact⟨by show r.2.size=n;lia,z4⟩
end
structure STO {α:Type} (lt:α→α→Bool):Prop where
 irr:∀x,lt x x=false
 trans:∀x y z,lt x y=true→lt y z=true→lt x z=true
 tot:∀x y,x≠y→lt x y=true∨lt y x=true
theorem STO.asym {α:Type}{lt:α→α→Bool} (h:STO lt) {x y:α} (e:lt x y=true):lt y x=false:=by
 cases z:lt y x with
 |false=>rfl
 |true=>have:=h.trans x y x e z;rw[h.irr] at this;exact this.symm
theorem STO.anti {α:Type}{lt:α→α→Bool} (h:STO lt) {x y:α} (e1:lt x y=false) (e2:lt y x=false):x=y:=by
 apply Classical.byContradiction
 intro hn
 rcases h.tot x y hn with z|z
 ·rw[e1] at z;cases z
 ·rw[e2] at z;cases z
theorem STO.neg {α:Type}{lt:α→α→Bool} (h:STO lt) {x y z:α} (e1:lt x y=false) (e2:lt y z=false):lt x z=false:=by
 cases e:lt x z with
 |false=>rfl
 |true=>
  by_cases hxy:x=y
  ·subst hxy;rw[e] at e2;cases e2
  ·rcases h.tot x y hxy with w|w
   ·rw[e1] at w;cases w
   ·have:=h.trans y x z w e
    rw[e2] at this;cases this
theorem STO.ord {α:Type}{lt:α→α→Bool} (h:STO lt) (f:Nat→α):Ord fun i j=>lt (f i) (f j):=⟨fun _ _ e=>h.asym e,fun _ _ _ e1 e2=>h.neg e1 e2⟩
def z8Y {α:Type} [DecidableEq α] (lt:α→α→Bool):List α→List α→Bool
 |[],[]=>false
 |[],_::_=>true
 |_::_,[]=>false
 |x::a,y::b=>if x=y then z8Y lt a b else lt x y
theorem y1Z {α:Type} [DecidableEq α] {lt:α→α→Bool} (h:STO lt):STO (z8Y lt):=by
 refine⟨fun x=>?_,fun x=>?_,fun x=>?_⟩
 ·induction x with
  |nil=>rfl
  |cons a x ih=>rw[z8Y,if_pos rfl,ih]
 ·induction x with
  |nil=>
   intro y z e1 e2
   cases z with
   |nil=>cases y<;>simp[z8Y] at e1 e2
   |cons _ _=>rfl
  |cons a x ih=>
   intro y z e1 e2
   cases y with
   |nil=>simp[z8Y] at e1
   |cons b y=>
    cases z with
    |nil=>simp[z8Y] at e2
    |cons d z=>
     rw[z8Y] at e1 e2 ⊢
     by_cases h1:a=b
     ·subst h1
      rw[if_pos rfl] at e1
      by_cases h2:a=d
      ·rw[if_pos h2] at e2 ⊢;exact ih _ _ e1 e2
      ·rw[if_neg h2] at e2 ⊢;exact e2
     ·rw[if_neg h1] at e1
      by_cases h2:b=d
      ·subst h2
       rw[if_neg h1];exact e1
      ·rw[if_neg h2] at e2
       have e3:=h.trans _ _ _ e1 e2
       rw[if_neg (fun z=>by subst z;rw[h.irr] at e3;cases e3)]
       exact e3
 ·induction x with
  |nil=>
   intro y hn
   cases y with
   |nil=>exact absurd rfl hn
   |cons _ _=>exact .inl rfl
  |cons a x ih=>
   intro y hn
   cases y with
   |nil=>exact .inr rfl
   |cons b y=>
    rw[z8Y,z8Y]
    by_cases h1:a=b
    ·subst h1
     rw[if_pos rfl,if_pos rfl]
     exact ih y fun z=>hn (by rw[z])
    ·rw[if_neg h1,if_neg (fun z=>h1 z.symm)]
     exact h.tot a b h1
theorem y6i:STO fun a b:Int=>decide (a<b):=⟨fun x=>by simp,fun x y z h1 h2=>by simp at*;lia,fun x y h=>by simp;lia⟩
def z4t:List (List Int)→List (List Int)→Bool:=z8Y (z8Y fun a b:Int=>decide (a<b))
theorem row_sto:STO z4t:=y1Z (y1Z y6i)
theorem z8U:∀a b:List Int,lts (a.map Dt.i) (b.map Dt.i)=z8Y (fun a b:Int=>decide (a<b)) a b
 |[],[]=>rfl
 |[],_::_=>rfl
 |_::_,[]=>rfl
 |x::a,y::b=>by
  rw[q0q,q0q,lts,z8Y,z8U a b]
  have e:(Dt.eqb (.i x) (.i y)=true)↔x=y:=by rw[Dt.eqb];simp
  by_cases h:x=y
  ·rw[if_pos h,if_pos (e.mpr h)]
  ·rw[if_neg h,if_neg fun z=>h (e.mp z)];rfl
theorem z8T:∀a b:List (List Int),lts (a.map dtT) (b.map dtT)=z4t a b
 |[],[]=>rfl
 |[],_::_=>rfl
 |_::_,[]=>rfl
 |x::a,y::b=>by
  have ih:=z8T a b
  unfold z4t at ih ⊢
  rw[q0q,q0q,lts,z8Y,ih]
  have e:(Dt.eqb (dtT x) (dtT y)=true)↔x=y:=by
   rw[Dt.eqb_iff]
   unfold dtT
   rw[Dt.t.injEq]
   exact List.map_inj_right fun x y h=>by injection h
  by_cases h:x=y
  ·rw[if_pos h,if_pos (e.mpr h)]
  ·rw[if_neg h,if_neg fun z=>h (e.mp z)]
   exact z8U x y
def z5x (rs:List (List (List Int))):List (List (List Int)):=(z4q (rs.map fun r=>r.map dtT)).map fun i=>rs.getD i []
theorem z4Y (rs:List (List (List Int))):(z5x rs).Perm rs:=by
 have h:=(z2U (rs.map fun r=>r.map dtT)).map fun i=>rs.getD i []
 rw[q0a] at h
 refine h.trans ?_
 rw[show (List.range rs.length).map (fun i=>rs.getD i [])=rs from List.ext_getElem (by simp) fun i h1 h2=>by
  rw[List.getElem_map,List.getElem_range,q0b,q0c h2];rfl]
theorem z8C (rs:List (List (List Int))):(z5x rs).Pairwise fun a b=>z4t b a=false:=by
 unfold z5x z4q
 rw[q0a]
 by_cases h:rs.length<2
 ·rw[if_pos h,q1a,List.pairwise_iff_getElem]
  intro i j hi hj hij
  rw[q0W] at hi hj
  lia
 ·rw[if_neg h]
  have ec:(fun i j=>lts ((rs.map fun r=>r.map dtT).getD i []) ((rs.map fun r=>r.map dtT).getD j []))=fun i j=>z4t (rs.getD i []) (rs.getD j []):=by
   funext i j
   have g:∀i,(rs.map fun r=>r.map dtT).getD i []=(rs.getD i []).map dtT:=fun i=>by
     rw[q0b,q0h,q0b]
     cases rs[i]? <;>rfl
   rw[g,g,z8T]
  rw[ec]
  obtain⟨z1,z2⟩:=y3D (c:=fun i j=>z4t (rs.getD i []) (rs.getD j [])) (row_sto.ord fun i=>rs.getD i []) (n:=rs.length) (by lia)
  rw[q1a,List.pairwise_iff_getElem]
  intro i j hi hj hij
  have:=z2 i j (by lia) (by rw[q1w] at hj;lia)
  have e:∀i (h:i<(z1c (fun i j=>z4t (rs.getD i []) (rs.getD j [])) (kas_sort rs.length)).toList.length),(z1c (fun i j=>z4t (rs.getD i []) (rs.getD j [])) (kas_sort rs.length)).toList[i]=at0 (z1c (fun i j=>z4t (rs.getD i []) (rs.getD j [])) (kas_sort rs.length)) i:=fun i h=>by
   rw[z3D,Array.getElem?_eq_getElem (by rw[q1w] at h;exact h)]
   simp
  rw[e i hi,e j hj]
  exact this
theorem z6z {rs ss:List (List (List Int))} (h:rs.Perm ss):z5x rs=z5x ss:=by
 have hp:(z5x rs).Perm (z5x ss):=(z4Y rs).trans (h.trans (z4Y ss).symm)
 have key:∀(a b:List (List (List Int))),a.Perm b→a.Pairwise (fun x y=>z4t y x=false)→b.Pairwise (fun x y=>z4t y x=false)→a=b:=by
  intro a
  induction a with
  |nil=>intro b hp _ _;exact (hp.nil_eq)
  |cons x a ih=>
   intro b hp ha hb
   cases b with
   |nil=>have:=hp.length_eq;simp at this
   |cons y b=>
    have exy:x=y:=by
     rcases q0n.mp (hp.mem_iff.mp (q0l ..)) with e|e
     ·exact e
     ·rcases q0n.mp (hp.mem_iff.mpr (q0l ..)) with e2|e2
      ·exact e2.symm
      ·exact row_sto.anti (List.rel_of_pairwise_cons hb e) (List.rel_of_pairwise_cons ha e2)
    subst exy
    rw[ih b (List.perm_cons x |>.mp hp) (List.Pairwise.of_cons ha) (List.Pairwise.of_cons hb)]
 exact key _ _ hp (z8C rs) (z8C ss)
end Srt
end L2
namespace L2
open PySem PySem.Spec PyProof.Rows
def top (i:Nat):Stmt:=PySem.Challenge.pw_wallspace_k93_whole_webs_of_pairs.main.body.getD i (.Pass ⟨0,0,0,0⟩)
structure Txt (mg:Str→Option Value):Prop where
 abs:mg "abs"=none
 len:mg "len"=none
 isinstance:mg "isinstance"=none
 int:mg "int"=none
 bool:mg "bool"=none
 tuple:mg "tuple"=none
 list:mg "list"=none
 any:mg "any"=none
 min:mg "min"=none
 max:mg "max"=none
 range:mg "range"=none
 enumerate:mg "enumerate"=none
 zip:mg "zip"=none
 sum:mg "sum"=none
 reversed:mg "reversed"=none
 sorted:mg "sorted"=none
 all:mg "all"=none
def y0L:Sp:=fun vs H Q _=>∃i:Int,vs=[.int i]∧Q (.bl true) H
section
open Fr
open Builtin.Int (intBits)
variable {P:Program}{w:World}{K:PySem.W.Frag}{mg:Str→Option Value}{base:Heap}{f:Addr}{fd:FuncData}
abbrev z4g:Stmt:=top 6
theorem sc_divisor:z0u ["one","other","rest"] ["one","other"] (z0l z4g):=⟨rfl,rfl,rfl,by decide+kernel,rfl,by decide+kernel,by decide+kernel⟩
def z2O:Sp:=fun vs H Q _=>∃a b:Int,vs=[.int a,.int b]∧Q (.int (Int.gcd a b:Int)) H
theorem z9U (T:Txt mg) (F:Fun K "divisor" "divisor" z4g f fd):FnOk P w K mg base CX0 1 f fd ["one","other"] z2O:=by
 refine F.ok sc_divisor (fun vs H Q E h=>?_) (fun cdv A outer s H vs Q E hr h=>?_)
 ·obtain⟨a,b,rfl,_⟩:=h;rfl
 obtain⟨a,b,rfl,q⟩:=h
 refine⟨_,(z0d (y3G PassesOwn.never (z0D y1A (pv 1) z0j (z0M _)) (z0d (z0q (i:=2) sc_divisor.nd rfl (Or.inl rfl) (z0y y5Q (pv 0) (pv 1)))
  (z0d (z0q (i:=0) sc_divisor.nd rfl (Or.inl rfl) (pv 1))
  (z0g (z0q (i:=1) sc_divisor.nd rfl (Or.inl rfl) (pv 2))))))
  (z0g (z0v (z0A z9q rfl T.abs boot_abs (z0a (pv 0) z0c))))),?_⟩
 refine y3k (fun σ H'=>H'=H∧∃x y r,σ=[some (.int x),some (.int y),r]∧Int.gcd x y=Int.gcd a b) (fun σ _=>match σ with|[_,some (.int y),_]=>y.natAbs|_=>0) ⟨rfl,a,b,none,rfl,rfl⟩ ?_ ?_
 ·rintro σ H' ⟨rfl,x,y,r,rfl,hg⟩
  refine⟨_,rfl,rfl,_,rfl,?_⟩
  by_cases hy:y=0
  ·subst hy
   refine z5i ?_
   refine⟨_,rfl,_,rfl,?_⟩
   rw[y6E hg rfl]
   exact q
  ·rw[show (!decide (V.int y=V.int 0))=true from by simp[hy]]
   refine z5h ?_
   refine⟨_,rfl,_,rfl,_,_,rfl,rfl,hy,?_⟩
   refine⟨_,rfl,?_⟩
   refine⟨_,rfl,?_⟩
   exact⟨⟨rfl,y,x.fmod y,_,rfl,turn hg⟩,less hy⟩
 ·rintro σ H' Q1 Q2 hQ ⟨v,e,e2,k,ek,qk⟩
  exact⟨v,e,e2,k,ek,hQ _ _ qk⟩
end
end L2
namespace L2
open PySem PySem.Spec PyProof.Rows
section
open Fr Wl
open Builtin.Int (intBits)
variable {P:Program}{w:World}{K:PySem.W.Frag}{mg:Str→Option Value}{base:Heap}{f:Addr}{fd:FuncData}
theorem y0X {K:PySem.W.Frag}{b:Bool}{H:Hp}{a:Addr}{xs:List V}{v:V}{Q:VK} (h:SqB b K H a (xs++[v])) (q:∀p H',Same H H'→SqA K H' p xs→Q (.ref p) H'):rSlA K (.ref a) none (some (-1)) H Q:=by
 cases b with
 |true=>
  refine .inl ⟨a,_,rfl,h,fun p hp=>?_⟩
  rw[z2t]
  exact q p _ (z0e hp _) (.inl (SqL.of z0b))
 |false=>
  refine .inr ⟨a,_,rfl,h,y2O,fun p hp=>?_⟩
  rw[z2t]
  exact q p _ (z0e hp _) (.inr (SqT.of z0b))
theorem z2b (rs:List Int):(rs.map V.int).any trV=true↔∃n∈rs,n≠0:=by
 rw[List.any_map,List.any_eq_true]
 constructor
 ·rintro⟨n,hn,h⟩
  exact⟨n,hn,by simpa[trV] using h⟩
 ·rintro⟨n,hn,h⟩
  exact⟨n,hn,by simpa[trV] using h⟩
theorem z2r (rs:List Int):∀y∈rs.map V.int,PlV y:=fun y hy=>by
 obtain⟨n,_,rfl⟩:=q0f.mp hy
 trivial
abbrev z1o:Stmt:=top 7
theorem sc_divisor_of_all:z0u ["numbers","shared","number"] ["numbers"] (z0l z1o):=⟨rfl,rfl,rfl,by decide+kernel,rfl,by decide+kernel,by decide+kernel⟩
def z5w (K:PySem.W.Frag):Sp:=fun vs H Q _=>∃(p:Addr) (rs:List Int),vs=[.ref p]∧SqA K H p (rs.map V.int)∧rs.length≤1000∧Q (.int (z1z rs:Nat)) H
theorem z3p (T:Txt mg) (F:Fun K "divisor_of_all" "divisor_of_all" z1o f fd) (c_divisor:Cal P w K mg base 1 "divisor" ["one","other"] z2O):FnOk P w K mg base CX0 2 f fd ["numbers"] (z5w K):=by
 refine F.ok sc_divisor_of_all (fun vs H Q E h=>?_) (fun cdv A outer s H vs Q E hr h=>?_)
 ·obtain⟨_,_,rfl,_⟩:=h;rfl
 obtain⟨p,rs,rfl,hS,hlen,q⟩:=h
 obtain⟨b,hB⟩:=hS.toB
 refine⟨_,(z0d (z0q (i:=1) sc_divisor_of_all.nd rfl (Or.inl rfl) z0j)
  (z0d (z0W PassesOwn.never rfl (z8H (K:=K) rfl (pv 0)) (z0k (i:=2) sc_divisor_of_all.nd rfl (Or.inl rfl)) (z0g (z0q (i:=1) sc_divisor_of_all.nd rfl (Or.inl rfl) (z0p c_divisor hr rfl (z0a (pv 1) (z0a (pv 2) z0c))))))
  (z0g (z0v (pv 1))))),?_⟩
 refine⟨_,rfl,p,b,_,rfl,hB,?_⟩
 refine z0C (z5K K b p (rs.map V.int)) (fun i σ H'=>H'=H∧∃s2,σ=[some (.ref p),some (.int (z1z (rs.take i):Nat)),s2]) ⟨rfl,_,rfl⟩ (fun i σ H' _ h=>h.1▸hB) ?_ ?_
 ·rintro i x σ H4 H5 hi ⟨rfl,s2,rfl⟩ ⟨rfl,hx⟩
  rw[q0h] at hx
  obtain⟨n,hn,rfl⟩:=q0u.mp hx
  have tk:rs.take (i+1)=rs.take i++[n]:=by rw[q0R,hn];rfl
  refine⟨_,rfl,_,rfl,_,_,rfl,?_⟩
  rw[tk,y2u]
  exact⟨rfl,_,rfl⟩
 ·rintro σ H4 ⟨rfl,s2,rfl⟩
  rw[q0a,q0T]
  exact⟨_,rfl,q⟩
abbrev y1e:Stmt:=top 11
theorem sc_wall:z0u ["numbers","shared","leading"] ["numbers"] (z0l y1e):=⟨rfl,rfl,rfl,by decide+kernel,rfl,by decide+kernel,by decide+kernel⟩
def y0M (K:PySem.W.Frag):Sp:=fun vs H Q _=>∃(p:Addr) (ns:List Int) (last:Int),vs=[.ref p]∧SqA K H p ((ns++[last]).map V.int)∧(ns++[last]).length ≤1000∧(∀n∈ns++[last],intBits n≤9000)∧
 (∃n∈ns,n≠0)∧∀t H',Same H H'→H' t=some (.tup ((z0m (ns++[last])).map V.int))→Q (.ref t) H'
theorem z8f (rs:List Int) (h:z0U rs≠0):atI (((rs.map V.int).filter fun v=>match v with| .int n=> !decide (V.int n=V.int 0)|_=>false).map fun v=>v) 0=some (.int (z0U rs)):=by
 rw[List.map_id']
 induction rs with
 |nil=>exact absurd rfl h
 |cons m r ih=>
  rw[q0q]
  by_cases hm:m=0
  ·subst hm
   rw[q0V (by simp)]
   have e:z0U (0::r)=z0U r:=if_pos rfl
   rw[e] at h ⊢
   exact ih h
  ·rw[q0O (by simp[hm])]
   have e:z0U (m::r)=m:=if_neg hm
   rw[e]
   exact z2a (j:=0) rfl
theorem y5U (T:Txt mg) (F:Fun K "wall" "wall" y1e f fd) (c_divisor_of_all:Cal P w K mg base 2 "divisor_of_all" ["numbers"] (z5w K)):FnOk P w K mg base CX0 3 f fd ["numbers"] (y0M K):=by
 refine F.ok sc_wall (fun vs H Q E h=>?_) (fun cdv A outer s H vs Q E hr h=>?_)
 ·obtain⟨_,_,_,rfl,_⟩:=h;rfl
 obtain⟨p,ns,last,rfl,hS,hlen,zb,hnz,q⟩:=h
 obtain⟨b,hB⟩:=hS.toB
 refine⟨_,(z0d (z1k (z5b (z3x (z0A (z3c (K:=K) rfl rfl) rfl T.any boot_any (z0a (z1t (y0Y (K:=K) rfl) (pv 0) z1W (z1V (z1Z z1d z0j))) z0c)))) (z0g z5M) z0E)
  (z0d (z0q (i:=1) sc_wall.nd rfl (Or.inr rfl) (z0p c_divisor_of_all hr rfl (z0a (pv 0) z0c)))
  (z0d (z0q (i:=2) sc_wall.nd rfl (Or.inl rfl) (z0N (z0F (K:=K) rfl) (z0H (Nc:=["number"]) (fr:=[none]) rfl (z8H (K:=K) rfl (pv 0)) rfl (by decide) rfl (by decide) rfl trivial trivial (fun _ _ _ _=>(z0k (i:=0) (show List.Nodup (["number"]:List Str) from by decide) rfl (Or.inl rfl))) (fun _ _ _ _=>(z1U (z0D y1A (pv 0) z0j (z0M _)))) (fun _ _ _ _=>(pv 0))) z0j (fun _ _=>rfl)))
  (z0d (z1k (z0D y3P (pv 2) z0j (z0M _)) (z0g (z0q (i:=1) sc_wall.nd rfl (Or.inr rfl) (z1Z z1d (pv 1)))) z0E)
  (z0g (z0v (z0T (z2J (K:=K) rfl) rfl T.tuple boot_tuple (z0a (z0H (Nc:=["number","shared"]) (fr:=[none,some 1]) rfl (z8H (K:=K) rfl (pv 0)) rfl (by decide) rfl (by decide) rfl ⟨rfl,trivial⟩ ⟨⟨rfl,rfl,rfl,rfl⟩,trivial⟩ (fun _ _ _ _=>(z0k (i:=0) (show List.Nodup (["number","shared"]:List Str) from by decide) rfl (Or.inl rfl))) (fun _ _ _ _=>z0I) (fun _ _ _ _=>(z0y z4s (pv 0) (pv 1)))) z0c)))))))),?_⟩
 refine⟨_,rfl,_,rfl,_,rfl,y0X (by rw[q0r] at hB;exact hB) fun q1 H1 g1 hq1=>?_⟩
 refine⟨q1,_,rfl,hq1,z2r ns,_,rfl,?_⟩
 rw[(z2b ns).mpr hnz]
 refine z5i ?_
 have hnz2:∃n∈ns++[last],n≠0:=let ⟨n,h1,h2⟩:=hnz;⟨n,q0G _ h1,h2⟩
 generalize ns++[last]=rs at*
 have hB1:=hB.same g1
 have hS1:=hS.same g1
 refine⟨_,rfl,p,rs,rfl,hS1,hlen,?_⟩
 refine⟨_,rfl,p,b,_,rfl,hB1,fun D hD=>?_⟩
 refine z1L rfl (z5K K b p (rs.map V.int)) hD (fun v=>match v with| .int n=> !decide (V.int n=V.int 0)|_=>false) (fun v=>v) (fun H' g'=>hB1.same g') (z0h (by rw[q0a];lia)) ?_ ?_ ?_
 ·intro x hx Hc gc S h
  obtain⟨n,_,rfl⟩:=q0f.mp hx
  exact⟨_,rfl,rfl,_,rfl,h⟩
 ·intro x hx _ Hc gc S h
  exact⟨_,rfl,h⟩
 ·refine⟨D,_,_,_,rfl,rfl,SqL.of z0b,z8f rs (z6a hnz2),?_⟩
  have gD:=z0e (H:=H1) hD (.lst ((((rs.map V.int).filter fun v=>match v with| .int n=> !decide (V.int n=V.int 0)|_=>false)).map fun v=>v))
  generalize upd H1 D (.lst ((((rs.map V.int).filter fun v=>match v with| .int n=> !decide (V.int n=V.int 0)|_=>false)).map fun v=>v))=H5 at gD
  have hB5:=hB1.same gD
  refine⟨_,rfl,_,_,rfl,rfl,_,rfl,?_⟩
  have hby:byL rs≠0∧intBits (byL rs)≤9000:=⟨z3d hnz2,y4z hnz2 zb⟩
  refine z6c (fun c=>?_) (fun c=>?_)
  case' _=>
   have c':z0U rs<0:=of_decide_eq_true c
   have eb: -(z1z rs:Int)=byL rs:=by unfold byL;rw[if_pos c']
   refine⟨_,rfl,_,rfl,?_⟩
   dsimp only
   rw[eb]
  rotate_left
  case' _=>
   have c':¬z0U rs<0:=fun z=>c (decide_eq_true z)
   have eb:(z1z rs:Int)=byL rs:=by unfold byL;rw[if_neg c']
   rw[eb]
  all_goals
   refine⟨_,rfl,p,b,_,rfl,hB5,fun D2 hD2=>?_⟩
   refine z1L rfl (z5K K b p (rs.map V.int)) hD2 (fun _=>true) (fun v=>match v with| .int n=> .int (n.fdiv (byL rs))|u=>u) (fun H' g'=>hB5.same g') (z0h (by rw[q0a];lia)) ?_ ?_ ?_
   ·intro x _ Hc _ S h
    exact h
   ·intro x hx _ Hc _ S h
    obtain⟨n,_,rfl⟩:=q0f.mp hx
    exact⟨_,rfl,_,rfl,_,_,rfl,rfl,hby,h⟩
   ·rw[z0z,q0K]
    have em:rs.map ((fun v=>match v with| .int n=>V.int (n.fdiv (byL rs))|u=>u)∘V.int)=(z0m rs).map V.int:=by
     unfold z0m
     rw[q0K];rfl
    rw[em]
    exact⟨D2,_,rfl,.inl ⟨SqL.of z0b,fun t ht=>q t _ (g1.trans (gD.trans ((z0e hD2 _).trans (z0e ht _)))) z0b⟩⟩
end
section
open Fr Wl
open Builtin.Int (intBits)
variable {P:Program}{w:World}{K:PySem.W.Frag}{mg:Str→Option Value}{base:Heap}{f:Addr}{fd:FuncData}
theorem z0x {S1 S2:TS}{D:y5l}{σ:St}{H:Hp} (I:St→Hp→Prop) (h1:∀N:St→Hp→Prop,(∀σ' H',I σ' H'→N σ' H')→S1 {D with nx:=N} σ H) (h2:∀σ' H',I σ' H'→S2 D σ' H'):tSeq S1 S2 D σ H:=h1 _ h2
theorem z9t {i:Int} (h1: -(2^64)<i) (h2:i<2^64):intBits i≤64:=intBits_le_64 h1 h2
theorem z4H {ns:List Int}{k:Int} (h0:0≤k) (h:k<ns.length):atI (ns.map V.int) k=some (.int (ns.getD k.toNat 0)):=by
 have hk:k.toNat<ns.length:=by lia
 have ek:k=((k.toNat:Nat):Int):=by lia
 rw[ek]
 refine z2a ?_
 rw[q0h,q0E,q0b,q0c hk]
 rfl
abbrev z7H:Stmt:=top 49
theorem sc_l_mix:z0u ["_law_script","_law_k","_law_cell","_law_number"] ["_law_script","_law_k"] (z0l z7H):=⟨rfl,rfl,rfl,by decide+kernel,rfl,by decide+kernel,by decide+kernel⟩
def y6S (K:PySem.W.Frag):Sp:=fun vs H Q _=>∃(a:Addr) (ns:List Int) (k:Int),vs=[.ref a,.int k]∧SqL K H a (ns.map V.int)∧ns.length≤63∧0≤k∧k≤1000000∧∀r:Int,0≤r→r<2147483587→Q (.int r) H
theorem y3V (T:Txt mg) (F:Fun K "_law_mix" "_law_mix" z7H f fd):FnOk P w K mg base CX0 1 f fd ["_law_script","_law_k"] (y6S K):=by
 refine F.ok sc_l_mix (fun vs H Q E h=>?_) (fun cdv A outer s H vs Q E hr h=>?_)
 ·obtain⟨_,_,_,rfl,_⟩:=h;rfl
 obtain⟨a,ns,k,rfl,hS,h63,h0,h1,q⟩:=h
 refine⟨_,(z0d (z0q (i:=2) sc_l_mix.nd rfl (Or.inl rfl) z0j)
  (z0d (z1k (z0D y1C (z0A (z1b (K:=K) rfl) rfl T.len PySem.boot_len (z0a (pv 0) z0c)) z0j (z0M _)) (z0g (z0q (i:=2) sc_l_mix.nd rfl (Or.inl rfl) (z0N (z0F (K:=K) rfl) (pv 0) (z0y z1E (pv 1) (z0A (z7g rfl) rfl T.min boot_min (z0a z0j (z0a (z0A (z1b (K:=K) rfl) rfl T.len PySem.boot_len (z0a (pv 0) z0c)) z0c)))) (fun _ _=>rfl)))) z0E)
  (z0d (z0q (i:=3) sc_l_mix.nd rfl (Or.inl rfl) (z0y z1E (z0y z2A (pv 2) (z0y z0X z0j (z0y z2A (pv 1) z0j))) z0j))
  (z0d (z0q (i:=3) sc_l_mix.nd rfl (Or.inl rfl) (z0y z1E (z0y z2A (z0y z0X (pv 3) (pv 3)) (pv 1)) z0j))
  (z0g (z0v (z0y z1E (z0y z0X (pv 3) (pv 3)) z0j))))))),?_⟩
 have hl:(ns.map V.int).length =ns.length:=q0a _
 refine⟨_,rfl,a,_,rfl,.inl hS,_,_,rfl,rfl,_,rfl,?_⟩
 refine z6c (fun c=>?_) (fun c=>?_)
 case' _=>
  have c':0<(((ns.map V.int).length :Nat):Int):=of_decide_eq_true c
  rw[hl] at c'
  have em:(if (((ns.map V.int).length :Nat):Int)<63 then (((ns.map V.int).length :Nat):Int) else 63)=ns.length:=by rw[hl];split<;>lia
  refine⟨_,rfl,_,rfl,_,rfl,a,_,rfl,.inl hS,_,_,rfl,?_⟩
  rw[em]
  refine⟨_,_,rfl,rfl,c',a,_,_,_,rfl,rfl,hS,z4H (Int.emod_nonneg _ (by lia)) (Int.emod_lt_of_pos _ c'),?_⟩
 all_goals
  refine⟨_,rfl,_,rfl,_,_,rfl,rfl,_,_,rfl,rfl,z2x (m:=64) (n:=64) (z9t (by lia) (by lia)) (z9t (by lia) (by lia)),_,_,rfl,rfl,_,_,rfl,rfl,cm,?_⟩
  have z1:∀x:Int,intBits (x%2147483629)≤64:=fun x=>z9t (by lia) (by lia)
  refine⟨_,rfl,_,rfl,_,_,rfl,rfl,z2x (m:=64) (n:=64) (z1 _) (z1 _),_,rfl,_,_,rfl,rfl,_,_,rfl,rfl,cm,?_⟩
  exact⟨_,rfl,_,rfl,_,_,rfl,rfl,z2x (m:=64) (n:=64) (z1 _) (z1 _),_,_,rfl,rfl,cm,q _ (by lia) (by lia)⟩
abbrev z4e:Stmt:=top 50
theorem sc_l_draws:z0u ["_law_script","_law_cell","_law_found","_law_k"] ["_law_script"] (z0l z4e):=⟨rfl,rfl,rfl,by decide+kernel,rfl,by decide+kernel,by decide+kernel⟩
def y0T (K:PySem.W.Frag):Sp:=fun vs H Q _=>∃(a:Addr) (ss:List Int),vs=[.ref a]∧SqL K H a (ss.map V.int)∧ss.length≤63∧
 ∀(ds:List Int) (l:Addr) (H':Hp),H l=none→ds.length=60→(∀d∈ds,0≤d∧d<2147483587)→Same H H'→H' l=some (.lst (ds.map V.int))→Q (.ref l) H'
theorem y0h {xs us:List V} (h:Each (fun _ u=>∃n:Int,u=V.int n∧0≤n∧n<2147483587) xs us):∃ps:List Int,us=ps.map V.int∧ps.length=xs.length∧∀n∈ps,0≤n∧n<2147483587:=by
 induction h with
 |nil=>exact⟨[],rfl,rfl,fun n h=>by cases h⟩
 |cons e _ ih=>
  obtain⟨n,rfl,n0⟩:=e
  obtain⟨ps,rfl,hl,hp⟩:=ih
  refine⟨n::ps,rfl,by simp[hl],fun k hk=>?_⟩
  rcases q0n.mp hk with rfl|hk
  ·exact n0
  ·exact hp k hk
def y5z (n:Nat):List V:=(List.range n).map fun i=>V.int ((0:Int)+(i:Nat))
theorem y5y {n i:Nat} (h:i<n):(y5z n)[i]? =some (V.int (0+(i:Nat))):=by
 unfold y5z
 rw[q0h,q2c h];rfl
theorem z5L (n:Nat):(y5z n).length =n:=by unfold y5z;rw[List.length_map,List.length_range]
theorem z7K (n:Nat):z6l (Itr 0 n) (y5z n).length (fun _=>True) (fun i H x H'=>H'=H∧(y5z n)[i]? =some x):=by
 have r:=z1j 0 n
 rw[z5L]
 exact⟨r.go,r.stop,fun i H x H' h hi y=>by
  obtain⟨e1,e2⟩:=r.yld i H x H' h hi y
  exact⟨e1,by rw[y5y hi,e2]⟩⟩
theorem z9S (T:Txt mg) (F:Fun K "_law_draws" "_law_draws" z4e f fd) (c_l_mix:Cal P w K mg base 1 "_law_mix" ["_law_script","_law_k"] (y6S K)):FnOk P w K mg base CX0 2 f fd ["_law_script"] (y0T K):=by
 refine F.ok sc_l_draws (fun vs H Q E h=>?_) (fun cdv A outer s H vs Q E hr h=>?_)
 ·obtain⟨_,_,rfl,_⟩:=h;rfl
 obtain⟨a,ss,rfl,hS,h63,q⟩:=h
 refine⟨_,(z0d (z0q (i:=1) sc_l_draws.nd rfl (Or.inl rfl) z0j)
  (z0d (z1k (z0D y1C (z0A (z1b (K:=K) rfl) rfl T.len PySem.boot_len (z0a (pv 0) z0c)) z0j (z0M _)) (z0g (z0q (i:=1) sc_l_draws.nd rfl (Or.inl rfl) (z0N (z0F (K:=K) rfl) (pv 0) z0j (fun _ _=>rfl)))) z0E)
  (z0d (z1k (z0D z4M (z0y z1E (pv 1) z0j) z0j (z0M _)) (z0g (z0v (z0H (Nc:=["_law_k","_law_script"]) (fr:=[none,some 0]) rfl (z1w rfl T.range (z0a z0j z0c)) rfl (by decide) rfl (by decide) rfl ⟨rfl,trivial⟩ ⟨⟨rfl,rfl,rfl,rfl⟩,trivial⟩ (fun _ _ _ _=>(z0k (i:=0) (show List.Nodup (["_law_k","_law_script"]:List Str) from by decide) rfl (Or.inl rfl))) (fun _ _ _ _=>z0I) (fun _ _ _ _=>(z0p c_l_mix hr rfl (z0a (pv 1) (z0a (pv 0) z0c))))))) z0E)
  (z0d (z0q (i:=2) sc_l_draws.nd rfl (Or.inl rfl) (z0K z0c))
  (z0d (z0q (i:=1) sc_l_draws.nd rfl (Or.inl rfl) (z0y z5Q (pv 1) z0j))
  (z0d (z0W PassesOwn.never rfl (z1w rfl T.range (z0a z0j z0c)) (z0k (i:=3) sc_l_draws.nd rfl (Or.inl rfl)) (z0d (z2E (z9M PySem.F.plainAttrs_list PySem.F.slot_list_append PySem.F.type_list_append z1n (pv 2) (z0a (z0y z1E (pv 1) z0j) z0c)))
  (z0g (z0q (i:=1) sc_l_draws.nd rfl (Or.inl rfl) (z0y z5Q (pv 1) z0j)))))
  (z0g (z0v (pv 2))))))))),?_⟩
 have hl:(ss.map V.int).length =ss.length:=q0a _
 refine z0x (fun σ H'=>H=H'∧∃(c:Int),σ=[some (.ref a),some (.int c),none,none]) (fun N hN=>?_) ?_
 ·exact hN _ _ ⟨rfl,_,rfl⟩
 rintro σ H' ⟨rfl,c,rfl⟩
 refine z0x (fun σ H'=>H=H'∧∃(c:Int),σ=[some (.ref a),some (.int c),none,none]) (fun N hN=>?_) ?_
 ·refine⟨_,rfl,a,_,rfl,.inl hS,_,_,rfl,rfl,_,rfl,?_⟩
  refine z6c (fun c=>?_) (fun c=>?_)
  ·have c':0<(((ss.map V.int).length :Nat):Int):=of_decide_eq_true c
   rw[hl] at c'
   exact⟨_,rfl,a,_,_,_,rfl,rfl,hS,z4H (by decide) c',hN _ _ ⟨rfl,_,rfl⟩⟩
  ·exact hN _ _ ⟨rfl,_,rfl⟩
 rintro σ H' ⟨rfl,c,rfl⟩
 refine⟨_,rfl,_,_,rfl,rfl,cm,rfl,_,rfl,?_⟩
 refine z6c (fun c=>?_) (fun c=>?_)
 ·refine⟨_,rfl,by decide,by decide,fun D hD=>?_⟩
  refine z2n rfl (z7K 60) hD (fun _=>true) (fun _ _ u=>∃n:Int,u=V.int n∧0≤n∧n<2147483587) (fun _ _ _ _ _ _ h=>h) (fun _ _=>trivial) (z0h (by rw[z5L];decide)) ?_ ?_ ?_
  ·intro x hx Hc gc S h
   exact h _ (Same.refl _)
  ·intro x hx _ Hc gc S h
   unfold y5z at hx
   obtain⟨j,hj,rfl⟩:=q0f.mp hx
   have hj':=q1C.mp hj
   exact⟨_,rfl,_,rfl,a,ss,_,rfl,SqL.same gc hS,h63,by lia,by lia,fun r r0 r1=>h _ _ (Same.refl _) ⟨_,rfl,r0,r1⟩⟩
  intro xs H4 g4 hD4 he
  rw[z0z] at he
  obtain⟨ps,rfl,pl,zp⟩:=y0h he
  rw[z5L] at pl
  exact q ps D _ hD pl zp g4 hD4
 refine⟨q0N _,fun l hl0=>?_⟩
 have g0:=z0e hl0 (.lst [])
 have e0:upd H l (.lst []) l=some (.lst (([]:List Int).map V.int)):=z0b
 generalize upd H l (.lst [])=H0 at*
 refine⟨_,rfl,_,_,rfl,rfl,cf,?_⟩
 refine⟨_,rfl,by decide,by decide,?_⟩
 refine z0C (z1j 0 60) (fun i σ H'=>∃(ds:List Int) (num:Int) (s3:Option V),σ=[some (.ref a),some (.int num),some (.ref l),s3]∧H' l=some (.lst (ds.map V.int))∧ds.length=i∧(∀d∈ds,0≤d∧d<2147483587)∧Same H H')
  ⟨[],_,_,rfl,e0,rfl,by simp,g0⟩ (fun _ _ _ _ _=>trivial) ?_ ?_
 ·clear e0
  rintro i x σ H1 H2 hi ⟨ds,num,s3,rfl,hl1,hlen,hb,g⟩ ⟨rfl,rfl⟩
  have hz:(ds.map V.int).length <sizeLine:=z3q (by rw[q0a,hlen];lia)
  refine⟨_,rfl,.inl ⟨rfl,_,SqL.of hl1⟩,_,rfl,_,_,rfl,rfl,cm,l,_,_,rfl,rfl,hl1,hz,?_⟩
  refine⟨_,rfl,_,_,rfl,rfl,cf,?_⟩
  refine⟨ds++[num%5040],_,_,rfl,by rw[z0b,q0r];rfl,by simp[hlen],fun d hd=>?_,fun b u e=>by rw[z0i (z0f e hl0)];exact g _ _ e⟩
  rcases q0I.mp hd with hd|hd
  ·exact hb d hd
  ·rw[q0g.mp hd];lia
 ·rintro σ H1 ⟨ds,num,s3,rfl,hl1,hlen,hb,g⟩
  exact⟨_,rfl,q ds l _ hl0 hlen hb g hl1⟩
end
end L2
namespace L2
open PySem PySem.Spec PyProof.Rows
section
open Fr Wl Rk
open Builtin.Int (intBits)
variable {P:Program}{w:World}{K:PySem.W.Frag}{mg:Str→Option Value}{base:Heap}{f:Addr}{fd:FuncData}
theorem z4x {n k:Nat} (h:k<n):ixN n (k:Int)=some k:=by
 unfold ixN
 rw[if_pos (by lia),if_pos (by lia)]
 rw[q0E]
def z2D (m i j:Nat) (k:Int):List Int:=((List.replicate m 0++[k]).set i 1).set j (-1)
def z6m (m i j:Nat) (k:Int):List Int:=if j<i then (z2D m i j k).map (fun n=>0 - n) else z2D m i j k
theorem y6v (n:Int):n.fdiv (-1)= -n:=by
 rw[Int.fdiv_eq_ediv_of_dvd ⟨-n,by lia⟩,Int.ediv_neg,Int.ediv_one]
theorem z3J (m i j:Nat) (k:Int):(z2D m i j k).length =m+1:=by unfold z2D;simp
theorem z8F {m i j:Nat}{k:Int} (hi:i<m) (hj:j≠i):(1:Int)∈z2D m i j k:=by
 unfold z2D
 refine q1N.mpr ⟨i,?_⟩
 rw[q1S hj,q1O (by simp;lia)]
theorem y1m {m i j:Nat}{k:Int}{b:Nat} (hb:1≤b) (hk:intBits k≤b):∀n∈z2D m i j k,intBits n≤b:=fun n hn=>by
 unfold z2D at hn
 rcases q1Q hn with hn|rfl
 ·rcases q1Q hn with hn|rfl
  ·rcases q0I.mp hn with hn|hn
   ·rw[(List.mem_replicate.mp hn).2];exact q0m (show intBits 0≤0 by decide) (q0N _)
   ·rw[q0g.mp hn];exact hk
  ·exact q0m (show intBits 1≤1 by decide) hb
 ·exact q0m (show intBits (-1)≤1 by decide) hb
theorem y1l {m i j:Nat}{k:Int} (hm:m≤4) (hi:i<m) (hj:j<m) (hn:i≠j):z0U (z2D m i j k)=if j<i then -1 else 1:=by
 rcases (by lia:m=0∨m=1∨m=2∨m=3∨m=4) with rfl|rfl|rfl|rfl|rfl
 ·lia
 ·lia
 ·rcases (by lia:i=0∨i=1) with rfl|rfl<;>rcases (by lia:j=0∨j=1) with rfl|rfl
  all_goals first|exact absurd rfl hn|rfl
 ·rcases (by lia:i=0∨i=1∨i=2) with rfl|rfl|rfl<;>rcases (by lia:j=0∨j=1∨j=2) with rfl|rfl|rfl
  all_goals first|exact absurd rfl hn|rfl
 ·rcases (by lia:i=0∨i=1∨i=2∨i=3) with rfl|rfl|rfl|rfl<;>rcases (by lia:j=0∨j=1∨j=2∨j=3) with rfl|rfl|rfl|rfl
  all_goals first|exact absurd rfl hn|rfl
theorem y4K {m i j:Nat}{k:Int} (hm:m≤4) (hi:i<m) (hj:j<m) (hn:i≠j):z0m (z2D m i j k)=z6m m i j k:=by
 have h1:=z8F (k:=k) hi (Ne.symm hn)
 have g1:(z1z (z2D m i j k):Int)=1:=by
  have hp:=z1u (rs:=z2D m i j k) ⟨1,h1,by decide⟩
  have hd:byL (z2D m i j k)∣1:=z3u h1
  unfold byL at hd
  have:((z1z (z2D m i j k):Nat):Int)∣1:=by
   split at hd
   ·exact (Int.neg_dvd).mp hd
   ·exact hd
  exact Int.le_antisymm (Int.le_of_dvd (by decide) this) (by lia)
 have hl:=y1l (k:=k) hm hi hj hn
 unfold z0m z6m
 by_cases hji:j<i
 ·rw[if_pos hji] at hl ⊢
  have hb:byL (z2D m i j k)= -1:=by unfold byL;rw[hl,if_pos (by decide),g1]
  rw[hb]
  refine q0S fun n _=>?_
  rw[y6v];lia
 ·rw[if_neg hji] at hl ⊢
  have hb:byL (z2D m i j k)=1:=by unfold byL;rw[hl,if_neg (by decide),g1]
  rw[hb]
  rw[show (fun n:Int=>n.fdiv 1)=id from funext fun n=>Int.fdiv_one n,List.map_id]
def prOk (m:Nat) (q:List Int):Prop:=∃(i j:Nat) (k:Int),q=[(i:Int),(j:Int),k]∧i<m∧j<m∧i≠j∧intBits k≤200
def y0i (m:Nat) (q:List Int):List Int:=z6m m (v q 0).toNat (v q 1).toNat (v q 2)
theorem y0f (m:Nat):(List.replicate m [V.int 0]).flatten =(List.replicate m (0:Int)).map V.int:=by
 induction m with
 |zero=>rfl
 |succ m ih=>rw[List.replicate_succ,List.flatten_cons,ih,List.replicate_succ];rfl
theorem y0J {m i j:Nat}{k:Int} (hj:j<m) (hi:i<m):∃ns,z2D m i j k=ns++[k]∧ns.length=m∧(j≠i→(1:Int)∈ns):=by
 refine⟨((List.replicate m 0).set i 1).set j (-1),?_,by simp,fun hn=>?_⟩
 ·unfold z2D
  rw[List.set_append_left _ _ (by simp;exact hi),List.set_append_left _ _ (by simp;exact hj)]
 ·refine q1N.mpr ⟨i,?_⟩
  rw[q1S hn,q1O (by simp;lia)]
abbrev z4b:Stmt:=top 39
theorem sc_wall_of:z0u ["ways","pair","numbers"] ["ways","pair"] (z0l z4b):=⟨rfl,rfl,rfl,by decide+kernel,rfl,by decide+kernel,by decide+kernel⟩
def z8w (K:PySem.W.Frag):Sp:=fun vs H Q _=>∃(p:Addr) (q:List Int) (m:Nat),vs=[.int (m:Nat),.ref p]∧H p=some (.tup (q.map V.int))∧m≤4∧prOk m q∧∀t H',Same H H'→H' t=some (.tup ((y0i m q).map V.int))→Q (.ref t) H'
theorem z9O (T:Txt mg) (F:Fun K "wall_of" "wall_of" z4b f fd) (c_wall:Cal P w K mg base 3 "wall" ["numbers"] (y0M K)):FnOk P w K mg base CX0 4 f fd ["ways","pair"] (z8w K):=by
 refine F.ok sc_wall_of (fun vs H Q E h=>?_) (fun cdv A outer s H vs Q E hr h=>?_)
 ·obtain⟨_,_,_,rfl,_⟩:=h;rfl
 obtain⟨p,q',m,rfl,hp,m4,⟨i,j,k,rfl,hi,hj,hn,hk⟩,q⟩:=h
 refine⟨_,(z0d (z0q (i:=2) sc_wall_of.nd rfl (Or.inl rfl) (z0y z2z (z0y z6K (z0K (z0a z0j z0c)) (pv 0)) (z0K (z0a (z0N (z0V (K:=K) rfl) (pv 1) z0j (fun _ _=>rfl)) z0c))))
  (z0d (z6H z0j (z6J (pv 2) (z0N (z0V (K:=K) rfl) (pv 1) z0j (fun _ _=>rfl)) z2S))
  (z0d (z6H (z1Z z1d z0j) (z6J (pv 2) (z0N (z0V (K:=K) rfl) (pv 1) z0j (fun _ _=>rfl)) z2S))
  (z0g (z0v (z0p c_wall hr rfl (z0a (pv 2) z0c))))))),?_⟩
 refine⟨z0h (by show 1≤_;decide),fun z hz=>?_⟩
 have g0:=z0e hz (.lst [V.int 0])
 have e0:upd H z (.lst [V.int 0]) z=some (.lst [V.int 0]):=z0b
 generalize upd H z (.lst [V.int 0])=H0 at*
 refine⟨_,rfl,z,_,_,rfl,rfl,e0,by lia,by lia,z0h (by rw[q0E];show 1*m≤_;lia),fun z1 hz1=>?_⟩
 rw[q0E,y0f]
 have g1:=z0e hz1 (.lst ((List.replicate m (0:Int)).map V.int))
 have e1:upd H0 z1 (.lst ((List.replicate m (0:Int)).map V.int)) z1=some (.lst ((List.replicate m (0:Int)).map V.int)):=z0b
 generalize upd H0 z1 (.lst ((List.replicate m (0:Int)).map V.int))=H1 at*
 have hp1:=(g0.trans g1) _ _ hp
 refine⟨_,rfl,p,_,_,_,rfl,rfl,SqT.of hp1,z2a (j:=2) rfl,z0h (by show 1≤_;decide),fun z2 hz2=>?_⟩
 have g2:=z0e hz2 (.lst [V.int k])
 have e2:upd H1 z2 (.lst [V.int k]) z2=some (.lst [V.int k]):=z0b
 generalize upd H1 z2 (.lst [V.int k])=H2 at*
 refine⟨z1,z2,_,_,rfl,rfl,g2 _ _ e1,e2,z0h (by rw[q0a,q1c];show m+1≤_;lia),fun z3 hz3=>?_⟩
 have ea:(List.replicate m (0:Int)).map V.int++[V.int k]=(List.replicate m (0:Int)++[k]).map V.int:=by rw[q0r];rfl
 rw[ea]
 have g3:=z0e hz3 (.lst ((List.replicate m (0:Int)++[k]).map V.int))
 have e3:upd H2 z3 (.lst ((List.replicate m (0:Int)++[k]).map V.int)) z3=some (.lst ((List.replicate m (0:Int)++[k]).map V.int)):=z0b
 have hz0:H z3=none:=(g0.trans (g1.trans g2)).free hz3
 have gH3:=g0.trans (g1.trans (g2.trans g3))
 generalize upd H2 z3 (.lst ((List.replicate m (0:Int)++[k]).map V.int))=H3 at*
 have hp3:=gH3 _ _ hp
 refine⟨_,rfl,_,rfl,p,_,_,_,rfl,rfl,SqT.of hp3,z2a (j:=0) rfl,z3,_,_,i,rfl,rfl,e3,?_,?_⟩
 ·rw[q0a,q0k,q1c,q1j]
  exact z4x (by lia)
 rw[←List.map_set]
 have e4:upd H3 z3 (.lst (((List.replicate m (0:Int)++[k]).set i 1).map V.int)) z3=some (.lst (((List.replicate m (0:Int)++[k]).set i 1).map V.int)):=z0b
 have gH4:Same H (upd H3 z3 (.lst (((List.replicate m (0:Int)++[k]).set i 1).map V.int))):=fun b o e=>by rw[z0i (z0f e hz0)];exact gH3 _ _ e
 generalize upd H3 z3 (.lst (((List.replicate m (0:Int)++[k]).set i 1).map V.int))=H4 at*
 have hp4:=gH4 _ _ hp
 refine⟨_,rfl,_,rfl,_,rfl,p,_,_,_,rfl,rfl,SqT.of hp4,z2a (j:=1) rfl,z3,_,_,j,rfl,rfl,e4,?_,?_⟩
 ·rw[q0a,List.length_set,q0k,q1c,q1j]
  exact z4x (by lia)
 rw[←List.map_set]
 have er:((List.replicate m (0:Int)++[k]).set i 1).set j (-1)=z2D m i j k:=rfl
 rw[er]
 have e5:upd H4 z3 (.lst ((z2D m i j k).map V.int)) z3=some (.lst ((z2D m i j k).map V.int)):=z0b
 have gH5:Same H (upd H4 z3 (.lst ((z2D m i j k).map V.int))):=fun b o e=>by rw[z0i (z0f e hz0)];exact gH4 _ _ e
 generalize upd H4 z3 (.lst ((z2D m i j k).map V.int))=H5 at*
 obtain⟨ns,es,nl,h1⟩:=y0J (k:=k) hj hi
 refine⟨_,rfl,z3,ns,k,rfl,.inl (SqL.of (by rw[e5,es])),by rw[q0k,nl];show m+1≤_;lia,fun n hn=>?_,⟨1,h1 (Ne.symm hn),by decide⟩,fun t H6 g6 et=>?_⟩
 ·rw[←es] at hn
  exact q0m (y1m (by decide) hk n hn) (by decide)
 ·rw[←es,y4K m4 hi hj hn] at et
  exact q t _ (gH5.trans g6) et
abbrev z3j:Stmt:=top 40
theorem sc_of_pairs:z0u ["ways","pairs","found","pair"] ["ways","pairs"] (z0l z3j):=⟨rfl,rfl,rfl,by decide+kernel,rfl,by decide+kernel,by decide+kernel⟩
def kyL (t:List Int):List Key:=t.map Sum.inl
theorem y2b (t:List Int):(kyL t).map kV=t.map V.int:=by unfold kyL;rw[List.map_map];rfl
theorem y6e {a b:List Int} (h:kyL a=kyL b):a=b:=List.map_inj_right (fun x y h=>by injection h) |>.mp h
def y0w (L:List (List Int)):List (List Key×V):=L.map fun t=>(kyL t,V.bl true)
theorem y3F (L:List (List Int)) (t:List Int):z9K (y0w L) (kyL t) (.bl true)=y0w (if t∈L then L else L++[t]):=by
 unfold z9K
 have ha:((y0w L).any fun kv=>decide (kv.1=kyL t))=decide (t∈L):=by
  unfold y0w
  rw[List.any_map]
  rw[q1i,List.any_eq_true,decide_eq_true_iff]
  constructor
  ·rintro⟨x,hx,h⟩
   have:kyL x=kyL t:=of_decide_eq_true h
   rw[←y6e this];exact hx
  ·intro h
   exact⟨t,h,decide_eq_true rfl⟩
 rw[ha]
 by_cases h:t∈L
 ·rw[if_pos h,if_pos (decide_eq_true h)]
  unfold y0w
  rw[q0K]
  refine q0S fun x _=>?_
  show (if kyL x=kyL t then (kyL x,V.bl true) else (kyL x,V.bl true))=_
  split<;>rfl
 ·rw[if_neg h,if_neg (by rw[decide_eq_false h];decide)]
  unfold y0w
  rw[q0r];rfl
def z3W (K:PySem.W.Frag):Sp:=fun vs H Q _=>∃(l:Addr) (as:List Addr) (qs:List (List Int)) (m:Nat),vs=[.int (m:Nat),.ref l]∧H l=some (.lst (as.map V.ref))∧TsA H as qs∧qs.length≤100∧m≤4∧(∀q∈qs,prOk m q)∧
 ∀(r:Addr) (bs:List Addr) (H':Hp),H r=none→Same H H'→H' r=some (.lst (bs.map V.ref))→TsA H' bs (dd [] (qs.map (y0i m)))→Q (.ref r) H'
theorem z7V (T:Txt mg) (F:Fun K "of_pairs" "of_pairs" z3j f fd) (c_wall_of:Cal P w K mg base 4 "wall_of" ["ways","pair"] (z8w K)):FnOk P w K mg base CX0 5 f fd ["ways","pairs"] (z3W K):=by
 refine F.ok sc_of_pairs (fun vs H Q E h=>?_) (fun cdv A outer s H vs Q E hr h=>?_)
 ·obtain⟨_,_,_,_,rfl,_⟩:=h;rfl
 obtain⟨l,as,qs,m,rfl,hl,hqs,q100,m4,hok,q⟩:=h
 refine⟨_,(z0d (z0q (i:=2) sc_of_pairs.nd rfl (Or.inl rfl) y3M)
  (z0d (z0W PassesOwn.never rfl (z0w (K:=K) rfl (pv 1)) (z0k (i:=3) sc_of_pairs.nd rfl (Or.inl rfl)) (z0g (y5D (hu_of hr) (pv 2) (z0p c_wall_of hr rfl (z0a (pv 0) (z0a (pv 3) z0c))) z7O rfl)))
  (z0g (z0v (z0T (y0l rfl) rfl T.list boot_list (z0a (pv 2) z0c)))))),?_⟩
 refine fun d hd=>?_
 have g0:=z0e hd (.dT [])
 have e0:upd H d (.dT []) d=some (.dT (y0w (dd [] ([]:List (List Int))))):=z0b
 generalize upd H d (.dT [])=H0 at*
 refine⟨_,rfl,l,rfl,⟨_,SqL.of (g0 _ _ hl)⟩,?_⟩
 refine z0C (z0r K l (as.map V.ref)) (fun i σ H'=>∃(s3:Option V),σ=[some (.int (m:Nat)),some (.ref l),some (.ref d),s3]∧H' d=some (.dT (y0w (dd [] ((qs.take i).map (y0i m)))))∧Same H H')
  ⟨_,rfl,e0,g0⟩ (fun i σ H' _ h=>by obtain⟨_,_,_,g⟩:=h;exact SqL.of (g _ _ hl)) ?_ ?_
 ·clear e0
  rintro i x σ H1 H2 hi ⟨s3,rfl,ed,g⟩ ⟨rfl,hx⟩
  rw[q0a,hqs.1] at hi
  rw[q0h] at hx
  obtain⟨a,ha,rfl⟩:=q0u.mp hx
  have et:qs[i]? =some qs[i]:=q0c hi
  have htm:qs[i]∈qs:=q0z hi
  have tk:(qs.take (i+1)).map (y0i m)=(qs.take i).map (y0i m)++[y0i m qs[i]]:=by rw[q0R,et,q0r];rfl
  generalize qs[i]=qq at et htm tk
  have hlen:=z7e ((qs.take i).map (y0i m)) []
  rw[q0a,q0w,List.length_nil] at hlen
  refine⟨_,rfl,_,rfl,_,rfl,a,qq,m,rfl,g _ _ (hqs.2 i a qq ha et),m4,hok qq htm,fun t H3 g3 e3=>?_⟩
  have ed3:=g3 _ _ ed
  refine⟨d,_,rfl,DPut.t (k:=kyL (y0i m qq)) ed3 (by rw[y2b];exact e3) (z3q (by unfold y0w;rw[List.length_map];lia)),?_⟩
  refine⟨_,rfl,?_,fun b o e=>by rw[z0i (z0f e hd)];exact (g.trans g3) _ _ e⟩
  rw[z0b,y3F,tk,y6y]
 ·rintro σ H1 ⟨s3,rfl,ed,g⟩
  rw[q0a,hqs.1,q0T] at ed
  have hlen:=z7e (qs.map (y0i m)) []
  rw[q0a,List.length_nil] at hlen
  refine⟨_,rfl,d,_,rfl,ed,by unfold y0w;rw[List.length_map];lia,fun r bs hr1 hbl hb=>?_⟩
  have g2:=z0e hr1 (.lst (bs.map V.ref))
  refine q r bs _ (g.free hr1) (g.trans g2) z0b ⟨by rw[hbl];unfold y0w;rw[List.length_map],fun i b t e1 e2=>?_⟩
  have z:=hb i b (kyL t) (.bl true) e1 (by unfold y0w;rw[List.getElem?_map,e2];rfl)
  rw[y2b] at z
  exact g2 _ _ z
end
end L2
namespace L2
open PySem PySem.Spec PyProof.Rows
section
open Fr Wl Rk
open Builtin.Int (intBits)
variable {P:Program}{w:World}{K:PySem.W.Frag}{mg:Str→Option Value}{base:Heap}{f:Addr}{fd:FuncData}
abbrev z1S:Stmt:=top 14
theorem z4K:z0u ["row"] ["row"] (z0l z1S):=⟨rfl,rfl,rfl,by decide+kernel,rfl,by decide+kernel,by decide+kernel⟩
def z2g (K:PySem.W.Frag):Sp:=fun vs H Q _=>∃(p:Addr) (r:List Int),vs=[.ref p]∧SqA K H p (r.map V.int)∧r.length≤1000∧(∃n∈r,n≠0)∧∀H',Same H H'→Q (.int (fp r:Nat)) H'
theorem z4O (T:Txt mg) (F:Fun K "first_place" "first_place" z1S f fd):FnOk P w K mg base CX0 1 f fd ["row"] (z2g K):=by
 refine F.ok z4K (fun vs H Q E h=>?_) (fun cdv A outer s H vs Q E hr h=>?_)
 ·obtain⟨_,_,rfl,_⟩:=h;rfl
 obtain⟨p,r,rfl,hS,hlen,hnz,q⟩:=h
 obtain⟨b,hB⟩:=hS.toB
 refine⟨_,(z0g (z0v (z0N (z0F (K:=K) rfl) (z0H (Nc:=["place","number"]) (fr:=[none,none]) rfl (z8I (K:=K) rfl rfl T.enumerate (z0a (pv 0) z0c)) rfl (by decide) rfl (by decide) rfl trivial trivial (fun _ _ _ _=>(z0Q (K:=K) rfl 2 rfl (z0t (z0k (i:=0) (show List.Nodup (["place","number"]:List Str) from by decide) rfl (Or.inl rfl)) (z0t (z0k (i:=1) (show List.Nodup (["place","number"]:List Str) from by decide) rfl (Or.inl rfl)) z0P)))) (fun _ _ _ _=>(z1U (z0D y1A (pv 1) z0j (z0M _)))) (fun _ _ _ _=>(pv 0))) z0j (fun _ _=>rfl)))),?_⟩
 refine⟨_,rfl,p,b,_,rfl,hB,fun D hD=>?_⟩
 refine z3a rfl (z5a K b p (r.map V.int)) hD (fun c=>match c.2 with| .int n=> !decide (V.int n=V.int 0)|_=>false) Prod.fst ?_ (fun H' g'=>hB.same g') (z0h (by unfold z4Q;rw[List.length_mapIdx,List.length_map];lia)) ?_ ?_ ?_
 ·intro p u v σ H hp S h
  exact⟨p,_,rfl,SqT.of hp,rfl,_,_,rfl,_,_,rfl,rfl,h⟩
 ·intro c hc Hc gc S h
  obtain⟨i,n,rfl⟩:∃(i n:Int),c=(.int i,.int n):=by
   unfold z4Q at hc
   obtain⟨i,hi,rfl⟩:=List.mem_mapIdx.mp hc
   exact⟨(i:Int),r[i]'(by simpa using hi),by rw[List.getElem_map]⟩
  exact⟨_,rfl,rfl,_,rfl,h⟩
 ·intro c hc _ Hc gc S h
  exact⟨_,rfl,h⟩
 ·intro H' g' hD'
  have e:=z5l r 0 hnz
  refine⟨D,_,_,_,rfl,rfl,SqL.of hD',z2a (j:=0) e,?_⟩
  exact q _ g'
theorem z2L {α β γ:Type} (f:α→β→γ):∀(xs:List α) (ys:List β),List.zipWith f xs ys=(xs.zip ys).map fun c=>f c.1 c.2
 |[],_=>by simp
 |_::_,[]=>by simp
 |x::xs,y::ys=>by rw[List.zipWith_cons_cons,z2L f xs ys];rfl
theorem z9b {H:Hp}{a:Addr}{xs:List V}{j:Int}{u:V}{Q:VK} (h:SqA K H a xs) (e:atI xs j=some u) (q:Q u H):rIxA K (.ref a) (.int j) H Q:=by
 rcases h with h|h
 ·exact .inl ⟨a,xs,_,u,rfl,rfl,h,e,q⟩
 ·exact .inr ⟨a,xs,_,u,rfl,rfl,h,e,q⟩
theorem y5h {xs:List Int}{j:Nat} (h:j<xs.length):atI (xs.map V.int) (j:Int)=some (.int (v xs j)):=by
 refine z2a ?_
 rw[q0h,q0c h]
 show _=some (V.int (xs.getD j 0))
 rw[q0b,q0c h];rfl
theorem z1a {xs:List Int}{k:Nat} (h:∀n∈xs,intBits n≤k) (j:Nat):intBits (v xs j)≤k:=by
 show intBits (xs.getD j 0)≤k
 rw[q0b]
 cases e:xs[j]? with
 |none=>exact Nat.le_trans (show intBits 0≤0 by decide) (Nat.zero_le _)
 |some n=>exact h n (List.mem_of_getElem? e)
theorem y0k {xs rs:List Int}{bx br:Nat} (hl:xs.length=rs.length) (hnz:∃n∈rs,n≠0) (zx:∀n∈xs,intBits n≤bx) (zr:∀n∈rs,intBits n≤br):∀n∈z0n xs rs,intBits n≤bx+br+1:=fun n hn=>by
 have g0:=z6W (b:=v xs (fp rs)) (z1K hnz)
 have ob:intBits (z3o xs rs)≤br:=intBits_le_of_natAbs (z1G (q1s ..) g0) (z1a zr _)
 have lb:intBits (z1J xs rs)≤bx:=intBits_le_of_natAbs (z1G (q1L ..) g0) (z1a zx _)
 unfold z0n at hn
 rw[z2L] at hn
 obtain⟨c,hc,rfl⟩:=q0f.mp hn
 obtain⟨h1,h2⟩:=List.of_mem_zip (show (c.1,c.2)∈xs.zip rs from hc)
 exact q0m (intBits_sub_le (intBits_mul_le ob (zx _ h1)) (intBits_mul_le lb (zr _ h2))) (by lia)
abbrev z4i:Stmt:=top 15
theorem sc_cleared:z0u ["numbers","row","place","shared","own","less"] ["numbers","row"] (z0l z4i):=⟨rfl,rfl,rfl,by decide+kernel,rfl,by decide+kernel,by decide+kernel⟩
def z3Y (K:PySem.W.Frag):Sp:=fun vs H Q _=>∃(p o:Addr) (xs rs:List Int) (bx br:Nat),vs=[.ref p,.ref o]∧SqA K H p (xs.map V.int)∧SqA K H o (rs.map V.int)∧xs.length=rs.length∧rs.length≤1000∧(∀n∈xs,intBits n≤bx)∧(∀n∈rs,intBits n≤br)∧bx≤20000∧br≤9000∧(∃n∈rs,n≠0)∧
 ∀(l:Addr) (H':Hp),(∀n∈z0n xs rs,intBits n≤bx+br+1)→Same H H'→H' l=some (.lst ((z0n xs rs).map V.int))→Q (.ref l) H'
theorem z9W (T:Txt mg) (F:Fun K "cleared" "cleared" z4i f fd) (c_first_place:Cal P w K mg base 1 "first_place" ["row"] (z2g K)) (c_divisor:Cal P w K mg base 1 "divisor" ["one","other"] z2O):FnOk P w K mg base CX0 2 f fd ["numbers","row"] (z3Y K):=by
 refine F.ok sc_cleared (fun vs H Q E h=>?_) (fun cdv A outer s H vs Q E hr h=>?_)
 ·obtain⟨_,_,_,_,_,_,rfl,_⟩:=h;rfl
 obtain⟨p,o,xs,rs,bx,br,rfl,hX,hR,hl,hlen,zx,zr,hbx,hbr,hnz,q⟩:=h
 refine⟨_,(z0d (z0q (i:=2) sc_cleared.nd rfl (Or.inl rfl) (z0p c_first_place hr rfl (z0a (pv 1) z0c)))
  (z0d (z0q (i:=3) sc_cleared.nd rfl (Or.inl rfl) (z0p c_divisor hr rfl (z0a (z0N (z6b (K:=K) rfl) (pv 1) (pv 2) (fun _ _=>rfl)) (z0a (z0N (z6b (K:=K) rfl) (pv 0) (pv 2) (fun _ _=>rfl)) z0c))))
  (z0d (z0q (i:=4) sc_cleared.nd rfl (Or.inr rfl) (z0y z4s (z0N (z6b (K:=K) rfl) (pv 1) (pv 2) (fun _ _=>rfl)) (pv 3)))
  (z0d (z0q (i:=5) sc_cleared.nd rfl (Or.inr rfl) (z0y z4s (z0N (z6b (K:=K) rfl) (pv 0) (pv 2) (fun _ _=>rfl)) (pv 3)))
  (z0g (z0v (z0H (Nc:=["one","other","own","less"]) (fr:=[none,none,some 4,some 5]) rfl (z7N (K:=K) rfl rfl T.zip (z0a (pv 0) (z0a (pv 1) z0c))) rfl (by decide) rfl (by decide) rfl ⟨rfl,⟨rfl,trivial⟩⟩ ⟨⟨rfl,rfl,rfl,rfl⟩,⟨⟨rfl,rfl,rfl,rfl⟩,trivial⟩⟩ (fun _ _ _ _=>(z0Q (K:=K) rfl 2 rfl (z0t (z0k (i:=0) (show List.Nodup (["one","other","own","less"]:List Str) from by decide) rfl (Or.inl rfl)) (z0t (z0k (i:=1) (show List.Nodup (["one","other","own","less"]:List Str) from by decide) rfl (Or.inl rfl)) z0P)))) (fun _ _ _ _=>z0I) (fun _ _ _ _=>(z0y z4r (z0y z0X (pv 2) (pv 0)) (z0y z0X (pv 3) (pv 1))))))))))),?_⟩
 refine⟨_,rfl,o,rs,rfl,hR,hlen,hnz,fun H1 g1=>?_⟩
 have hX1:=hX.same g1
 have hR1:=hR.same g1
 have lt:fp rs<rs.length:=y4m hnz
 have ltx:fp rs<xs.length:=by lia
 have n0:=z1K hnz
 have g0:=z6W (b:=v xs (fp rs)) n0
 have ob:intBits (z3o xs rs)≤br:=intBits_le_of_natAbs (z1G (q1s ..) g0) (z1a zr _)
 have lb:intBits (z1J xs rs)≤bx:=intBits_le_of_natAbs (z1G (q1L ..) g0) (z1a zx _)
 have gb:intBits ((Int.gcd (v rs (fp rs)) (v xs (fp rs)):Nat):Int)≤9000:=by
  refine intBits_le_of_natAbs (y:=v rs (fp rs)) ?_ (q0m (z1a zr _) (by lia))
  rw[Int.natAbs_natCast]
  exact Nat.le_of_dvd (Int.natAbs_pos.mpr n0) (Int.natAbs_dvd_natAbs.mpr (q1s (a:=v rs (fp rs)) (b:=v xs (fp rs))))
 refine⟨_,rfl,_,rfl,z9b hR1 (y5h lt) ⟨_,rfl,_,rfl,z9b hX1 (y5h ltx) ⟨_,_,rfl,?_⟩⟩⟩
 refine⟨_,rfl,_,rfl,z9b hR1 (y5h lt) ⟨_,rfl,_,_,rfl,rfl,⟨g0,gb⟩,?_⟩⟩
 refine⟨_,rfl,_,rfl,z9b hX1 (y5h ltx) ⟨_,rfl,_,_,rfl,rfl,⟨g0,gb⟩,?_⟩⟩
 obtain⟨b1,hB1⟩:=hX1.toB
 obtain⟨b2,hB2⟩:=hR1.toB
 refine⟨_,rfl,_,rfl,p,o,b1,b2,_,_,rfl,hB1,hB2,fun D hD=>?_⟩
 refine z3a rfl (z4k K b1 b2 p o (xs.map V.int) (rs.map V.int)) hD (fun _=>true) (fun c=>match c with|(.int m,.int n)=> .int (z3o xs rs*m - z1J xs rs*n)|_=> .non) ?_ (fun H' g'=>⟨hB1.same g',hB2.same g'⟩) (z0h (by rw[q1h,q0a,q0a];lia)) ?_ ?_ ?_
 ·intro p u v σ H hp S h
  exact⟨p,_,rfl,SqT.of hp,rfl,_,_,rfl,_,_,rfl,rfl,h⟩
 ·intro c hc Hc gc S h
  exact h
 ·intro c hc _ Hc gc S h
  obtain⟨m,n,rfl,hm,hn⟩:∃(m n:Int),c=(.int m,.int n)∧m∈xs∧n∈rs:=by
   obtain⟨c1,c2⟩:=c
   obtain⟨h1,h2⟩:=List.of_mem_zip hc
   obtain⟨m,hm,rfl⟩:=q0f.mp h1
   obtain⟨n,hn,rfl⟩:=q0f.mp h2
   exact⟨m,n,rfl,hm,hn⟩
  exact⟨_,rfl,_,rfl,_,_,rfl,rfl,z2x (q0m ob (by omega)) (q0m (zx m hm) (by omega)),_,rfl,_,rfl,_,_,rfl,rfl,z2x (q0m lb (by omega)) (q0m (zr n hn) (by omega)),_,_,rfl,rfl,h⟩
 ·intro H' g' hD'
  rw[z0z] at hD'
  have em:((xs.map V.int).zip (rs.map V.int)).map (fun c=>match c with|(.int m,.int n)=>V.int (z3o xs rs*m - z1J xs rs*n)|_=> .non)=(z0n xs rs).map V.int:=by
   unfold z0n
   rw[z2L,q0K,List.zip_map,q0K]
   rfl
  rw[em] at hD'
  refine q D _ (fun n hn=>?_) (g1.trans g') hD'
  unfold z0n at hn
  rw[z2L] at hn
  obtain⟨c,hc,rfl⟩:=q0f.mp hn
  obtain⟨h1,h2⟩:=List.of_mem_zip (show (c.1,c.2)∈xs.zip rs from hc)
  exact q0m (intBits_sub_le (intBits_mul_le ob (zx _ h1)) (intBits_mul_le lb (zr _ h2))) (by lia)
end
end L2
namespace L2
open PySem PySem.Spec PyProof.Rows
section
open Fr Wl Rk
open Builtin.Int (intBits)
variable {P:Program}{w:World}{K:PySem.W.Frag}{mg:Str→Option Value}{base:Heap}{f:Addr}{fd:FuncData}
def QsA (K:PySem.W.Frag) (H:Hp) (as:List Addr) (ts:List (List Int)):Prop:=as.length=ts.length∧∀(i:Nat) (a:Addr) (t:List Int),as[i]? =some a→ts[i]? =some t→SqA K H a (t.map V.int)
abbrev z4d:Stmt:=top 16
theorem sc_rest_by:z0u ["rows","numbers","rest","row"] ["rows","numbers"] (z0l z4d):=⟨rfl,rfl,rfl,by decide+kernel,rfl,by decide+kernel,by decide+kernel⟩
def y0Q (K:PySem.W.Frag):Sp:=fun vs H Q _=>∃(l p:Addr) (as:List Addr) (ts:List (List Int)) (xs:List Int) (bx br:Nat),vs=[.ref l,.ref p]∧H l=some (.lst (as.map V.ref))∧QsA K H as ts∧SqA K H p (xs.map V.int)∧xs.length≤1000∧ts.length≤8∧(∀t∈ts,t.length=xs.length∧(∃n∈t,n≠0)∧∀n∈t,intBits n≤br)∧(∀n∈xs,intBits n≤bx)∧br≤9000∧(∀i,i<ts.length→bx+i*(br+1)≤20000)∧
 ∀(r:Addr) (H':Hp),(∀n∈ts.foldl z0n xs,intBits n≤bx+ts.length*(br+1))→(ts.foldl z0n xs).length =xs.length→Same H H'→H' r=some (.lst ((ts.foldl z0n xs).map V.int))→Q (.ref r) H'
theorem z9Q (T:Txt mg) (F:Fun K "rest_by" "rest_by" z4d f fd) (c_cleared:Cal P w K mg base 2 "cleared" ["numbers","row"] (z3Y K)):FnOk P w K mg base CX0 3 f fd ["rows","numbers"] (y0Q K):=by
 refine F.ok sc_rest_by (fun vs H Q E h=>?_) (fun cdv A outer s H vs Q E hr h=>?_)
 ·obtain⟨_,_,_,_,_,_,_,rfl,_⟩:=h;rfl
 obtain⟨l,p,as,ts,xs,bx,br,rfl,hl,hts,hX,hlen,h8,zt,zx,hbr,hb,q⟩:=h
 refine⟨_,(z0d (z0q (i:=2) sc_rest_by.nd rfl (Or.inl rfl) (z0T (z2u (K:=K) rfl) rfl T.list boot_list (z0a (pv 1) z0c)))
  (z0d (z0W PassesOwn.never rfl (z0w (K:=K) rfl (pv 0)) (z0k (i:=3) sc_rest_by.nd rfl (Or.inl rfl)) (z0g (z0q (i:=2) sc_rest_by.nd rfl (Or.inl rfl) (z0p c_cleared hr rfl (z0a (pv 2) (z0a (pv 3) z0c))))))
  (z0g (z0v (pv 2))))),?_⟩
 refine⟨_,rfl,p,_,rfl,hX,fun r0 hr0=>?_⟩
 have g0:=z0e hr0 (.lst (xs.map V.int))
 have e0:upd H r0 (.lst (xs.map V.int)) r0=some (.lst (xs.map V.int)):=z0b
 generalize upd H r0 (.lst (xs.map V.int))=H0 at*
 have hl0:=g0 _ _ hl
 refine⟨_,rfl,l,rfl,⟨_,SqL.of hl0⟩,?_⟩
 refine z0C (z0r K l (as.map V.ref)) (fun i σ H'=>∃(r:Addr) (s3:Option V),σ=[some (.ref l),some (.ref p),some (.ref r),s3]∧H' r=some (.lst (((ts.take i).foldl z0n xs).map V.int))∧(∀n∈(ts.take i).foldl z0n xs,intBits n≤bx+i*(br+1))∧((ts.take i).foldl z0n xs).length =xs.length∧Same H H')
  ⟨r0,_,rfl,e0,fun n hn=>q0m (zx n hn) (by lia),rfl,g0⟩ (fun i σ H' _ h=>by obtain⟨_,_,_,_,_,_,g⟩:=h;exact SqL.of (g _ _ hl)) ?_ ?_
 ·rintro i x σ H1 H2 hi ⟨r,s3,rfl,er,zb,el,g⟩ ⟨rfl,hx⟩
  rw[q0a,hts.1] at hi
  rw[q0h] at hx
  obtain⟨a,ha,rfl⟩:=q0u.mp hx
  have et:ts[i]? =some ts[i]:=q0c hi
  have htm:ts[i]∈ts:=q0z hi
  generalize ts[i]=t at et htm
  obtain⟨t1,t2,t3⟩:=zt t htm
  have tk:(ts.take (i+1)).foldl z0n xs=z0n ((ts.take i).foldl z0n xs) t:=by
   rw[q0R,et,q1z];rfl
  have hm:=hb i hi
  have hm2:(i+1)*(br+1)=i*(br+1)+(br+1):=Nat.succ_mul _ _
  refine⟨_,rfl,_,rfl,r,a,(ts.take i).foldl z0n xs,t,bx+i*(br+1),br,rfl,.inl (SqL.of er),(hts.2 i a t ha et).same g,by rw[el,t1],by lia,zb,t3,hm,hbr,t2,fun r2 H3 zb3 g3 e3=>?_⟩
  refine⟨r2,_,rfl,?_,?_,?_,g.trans g3⟩
  ·rw[tk];exact e3
  ·intro n hn
   rw[tk] at hn
   exact q0m (zb3 n hn) (by lia)
  ·rw[tk,z1h (by rw[el,t1]),el]
 ·rintro σ H1 ⟨r,s3,rfl,er,zb,el,g⟩
  rw[q0a,hts.1,q0T] at er zb el
  exact⟨_,rfl,q r _ zb el g er⟩
end
section
open Fr Wl Rk Pt
open Builtin.Int (intBits)
variable {P:Program}{w:World}{K:PySem.W.Frag}{mg:Str→Option Value}{base:Heap}{f:Addr}{fd:FuncData}
theorem z9e (pl:Nat):∀(xs:List V) (k:Nat),(((xs.mapIdx fun i x=>(V.int ((i+k:Nat):Int),x)).filter fun c=> !inV c.1 [V.int (pl:Nat)]).map Prod.snd)=if pl<k then xs else xs.eraseIdx (pl - k)
 |[],k=>by split<;>simp
 |x::xs,k=>by
  have e:(x::xs).mapIdx (fun i x=>(V.int ((i+k:Nat):Int),x))=(V.int ((k:Nat):Int),x)::xs.mapIdx fun i x=>(V.int ((i+(k+1):Nat):Int),x):=by
   rw[List.mapIdx_cons]
   congr 1
   ·rw[Nat.zero_add]
   ·congr 1
    funext i y
    rw[show i+1+k=i+(k+1) by lia]
  have hin:inV (V.int ((k:Nat):Int)) [V.int (pl:Nat)]=decide (pl=k):=by
   show ((((pl:Nat):Int)==((k:Nat):Int)) || false)=_
   rw[Bool.or_false,q1i,beq_iff_eq,decide_eq_true_iff]
   lia
  have ih:=z9e pl xs (k+1)
  rw[e,List.filter_cons]
  show List.map Prod.snd (if (!inV (V.int ((k:Nat):Int)) [V.int (pl:Nat)])=true then _ else _)=_
  rw[hin]
  by_cases h:pl=k
  ·subst h
   rw[decide_eq_true rfl]
   rw[if_neg (by decide),ih,if_pos (by lia),if_neg (by lia),q1y,List.eraseIdx_zero,List.tail_cons]
  ·rw[decide_eq_false h,if_pos (by decide),q0q,ih]
   by_cases h2:pl<k
   ·rw[if_pos (by lia),if_pos h2]
   ·rw[if_neg (by lia),if_neg h2,show pl - k=(pl - (k+1))+1 by lia,List.eraseIdx_cons_succ]
abbrev z7I:Stmt:=top 17
theorem sc_drawn:z0u ["rows","numbers","left_out"] ["rows","numbers"] (z0l z7I):=⟨rfl,rfl,rfl,by decide+kernel,rfl,by decide+kernel,by decide+kernel⟩
def z8A (K:PySem.W.Frag):Sp:=fun vs H Q _=>∃(l p a:Addr) (t u:List Int) (B:Nat),vs=[.ref l,.ref p]∧H l=some (.lst [V.ref a])∧SqA K H a (t.map V.int)∧SqA K H p (u.map V.int)∧u.length=t.length∧t.length≤100∧(∃n∈t,n≠0)∧(∀n∈t,intBits n≤B)∧(∀n∈u,intBits n≤B)∧B≤4000∧
 ∀(r:Addr) (H':Hp),H r=none→(∀n∈drR t u,intBits n≤2*B+1)→Same H H'→H' r=some (.lst ((drR t u).map V.int))→Q (.ref r) H'
def z3X (K:PySem.W.Frag):Sp:=fun vs H Q _=>∃(l p a:Addr) (t u:List Int) (B:Nat),vs=[.ref l,.ref p]∧H l=some (.lst [V.ref a])∧H a=some (.lst (t.map V.int))∧SqA K H p (u.map V.int)∧u.length=t.length∧t.length≤100∧(∃n∈t,n≠0)∧(∀n∈t,intBits n≤B)∧(∀n∈u,intBits n≤B)∧B≤4000∧
 ∀(r:Addr) (H':Hp),H r=none→(∀n∈drR t u,intBits n≤2*B+1)→Same H H'→H' r=some (.lst ((drR t u).map V.int))→Q (.ref r) H'
theorem z8g {K:PySem.W.Frag}{vs:List V}{H:Hp}{Q:VK}{E:XK} (h:z3X K vs H Q E):z8A K vs H Q E:=by
 obtain⟨l,p,a,t,u,B,e,hl,ha,h⟩:=h
 exact⟨l,p,a,t,u,B,e,hl,.inl (SqL.of ha),h⟩
theorem y3W (T:Txt mg) (F:Fun K "drawn" "drawn" z7I f fd) (c_first_place:Cal P w K mg base 3 "first_place" ["row"] (z2g K)) (c_rest_by:Cal P w K mg base 3 "rest_by" ["rows","numbers"] (y0Q K)):FnOk P w K mg base CX0 4 f fd ["rows","numbers"] (z8A K):=by
 refine F.ok sc_drawn (fun vs H Q E h=>?_) (fun cdv A outer s H vs Q E hr h=>?_)
 ·obtain⟨_,_,_,_,_,_,rfl,_⟩:=h;rfl
 obtain⟨l,p,a,t,u,B,rfl,hl,ha,hX,hul,t100,tnz,zt,zu,b4,q⟩:=h
 refine⟨_,(z0d (z0q (i:=2) sc_drawn.nd rfl (Or.inr rfl) (z0H (Nc:=["row"]) (fr:=[none]) rfl (z0w (K:=K) rfl (pv 0)) rfl (by decide) rfl (by decide) rfl trivial trivial (fun _ _ _ _=>(z0k (i:=0) (show List.Nodup (["row"]:List Str) from by decide) rfl (Or.inl rfl))) (fun _ _ _ _=>z0I) (fun _ _ _ _=>(z0p c_first_place hr rfl (z0a (pv 0) z0c)))))
  (z0g (z0v (z0H (Nc:=["place","number","left_out"]) (fr:=[none,none,some 2]) rfl (z8I (K:=K) rfl rfl T.enumerate (z0a (z0p c_rest_by hr rfl (z0a (pv 0) (z0a (pv 1) z0c))) z0c)) rfl (by decide) rfl (by decide) rfl ⟨rfl,trivial⟩ ⟨⟨rfl,rfl,rfl,rfl⟩,trivial⟩ (fun _ _ _ _=>(z0Q (K:=K) rfl 2 rfl (z0t (z0k (i:=0) (show List.Nodup (["place","number","left_out"]:List Str) from by decide) rfl (Or.inl rfl)) (z0t (z0k (i:=1) (show List.Nodup (["place","number","left_out"]:List Str) from by decide) rfl (Or.inl rfl)) z0P)))) (fun _ _ _ _=>(z1U (z0D (y1z (K:=K) rfl) (pv 0) (pv 2) (by with_unfolding_all rfl)))) (fun _ _ _ _=>(pv 1)))))),?_⟩
 refine⟨_,rfl,l,rfl,⟨_,SqL.of hl⟩,fun D hD=>?_⟩
 refine z2n rfl (z0r K l [V.ref a]) hD (fun _=>true) (fun _ x u=>u=V.int (fp t:Nat)) (fun _ _ _ _ _ _ h=>h) (fun H' g'=>SqL.of (g' _ _ hl)) (z0h (by show 1≤_;decide)) ?_ ?_ ?_
 ·intro x hx Hc gc S h
  exact h _ (Same.refl _)
 ·intro x hx _ Hc gc S h
  rw[q0g.mp hx]
  exact⟨_,rfl,a,t,rfl,ha.same gc,by lia,tnz,fun H' g'=>h _ _ g' rfl⟩
 intro xs H1 g1 hD1 he
 have exs:xs=[V.int (fp t:Nat)]:=by
  cases he with
  |cons h1 h2=>cases h2;rw[h1]
 subst exs
 refine⟨_,rfl,_,rfl,l,p,[a],[t],u,B,B,rfl,g1 _ _ hl,⟨rfl,fun i b t' e1 e2=>?_⟩,hX.same g1,by lia,by show 1≤8;decide,fun t' ht'=>?_,zu,by lia,fun i hi=>?_,fun r H2 zb el g2 er=>?_⟩
 ·cases i with
  |zero=>cases e1;cases e2;exact ha.same g1
  |succ i=>simp at e1
 ·rw[q0g.mp ht']
  exact⟨hul.symm,tnz,zt⟩
 ·have:i=0:=by simp at hi;lia
  subst this
  lia
 have er':H2 r=some (.lst ((z0n u t).map V.int)):=er
 have zb':∀n∈z0n u t,intBits n≤2*B+1:=fun n hn=>q0m (zb n hn) (by show B+1*(B+1)≤_;lia)
 have cl:(z0n u t).length =t.length:=by rw[z1h hul,hul]
 have hD2:=g2 _ _ hD1
 refine⟨r,true,_,rfl,SqL.of er',fun D2 hD2'=>?_⟩
 refine z3a rfl (z5a K true r ((z0n u t).map V.int)) hD2' (fun c=> !inV c.1 [V.int (fp t:Nat)]) Prod.snd ?_ (fun H' g'=>SqL.of (g' _ _ er')) (z0h (by unfold z4Q;rw[List.length_mapIdx,List.length_map,cl];lia)) ?_ ?_ ?_
 ·intro p u v σ H hp S h
  exact⟨p,_,rfl,SqT.of hp,rfl,_,_,rfl,_,_,rfl,rfl,h⟩
 ·intro c hc Hc gc S h
  have fl:z4P c.1=true:=by
   unfold z4Q at hc
   obtain⟨i,hi,rfl⟩:=List.mem_mapIdx.mp hc
   rfl
  exact⟨_,rfl,_,rfl,D,_,rfl,.inl (SqL.of (gc _ _ hD2)),fl,rfl,_,rfl,h⟩
 ·intro c hc _ Hc gc S h
  exact⟨_,rfl,h⟩
 ·intro H' g' hD'
  have em:((z4Q ((z0n u t).map V.int)).filter fun c=> !inV c.1 [V.int (fp t:Nat)]).map Prod.snd=(drR t u).map V.int:=by
   have:=z9e (fp t) ((z0n u t).map V.int) 0
   rw[if_neg (by lia),Nat.sub_zero] at this
   unfold z4Q drR
   have e2:((z0n u t).map V.int).eraseIdx (fp t)=((z0n u t).eraseIdx (fp t)).map V.int:=by
        rw[q1K,q1K,q0r,List.map_take,List.map_drop]
   rw[←e2]
   exact this
  rw[em] at hD'
  exact q D2 _ ((g1.trans g2).free hD2') (fun n hn=>zb' n (List.mem_of_mem_eraseIdx hn)) (g1.trans (g2.trans g')) hD'
end
section
open Fr Wl Rk
open Builtin.Int (intBits)
def y0P (K:PySem.W.Frag):Sp:=fun vs H Q _=>∃(l p:Addr) (as:List Addr) (ts:List (List Int)) (xs:List Int) (bx br:Nat),vs=[.ref l,.ref p]∧H l=some (.lst (as.map V.ref))∧TsA H as ts∧SqA K H p (xs.map V.int)∧xs.length≤1000∧ts.length≤8∧(∀t∈ts,t.length=xs.length∧(∃n∈t,n≠0)∧∀n∈t,intBits n≤br)∧(∀n∈xs,intBits n≤bx)∧br≤9000∧(∀i,i<ts.length→bx+i*(br+1)≤20000)∧
 ∀(r:Addr) (H':Hp),(∀n∈ts.foldl z0n xs,intBits n≤bx+ts.length*(br+1))→(ts.foldl z0n xs).length =xs.length→Same H H'→H' r=some (.lst ((ts.foldl z0n xs).map V.int))→Q (.ref r) H'
theorem y6Z {K:PySem.W.Frag}{vs:List V}{H:Hp}{Q:VK}{E:XK} (h:y0P K vs H Q E):y0Q K vs H Q E:=by
 obtain⟨l,p,as,ts,xs,bx,br,e,hl,hts,hX,hlen,h8,zt,zx,hbr,hb,q⟩:=h
 exact⟨l,p,as,ts,xs,bx,br,e,hl,⟨hts.1,fun i a t e1 e2=> .inr (SqT.of (hts.2 i a t e1 e2))⟩,hX,hlen,h8,zt,zx,hbr,hb,q⟩
end
end L2
namespace L2
open PySem PySem.Spec PyProof.Rows
section
open Fr Wl Rk Pt Ld
open Builtin.Int (intBits)
variable {P:Program}{w:World}{K:PySem.W.Frag}{mg:Str→Option Value}{base:Heap}{f:Addr}{fd:FuncData}
abbrev z5D:Stmt:=top 20
theorem sc_lowest:z0u ["numbers","shared"] ["numbers"] (z0l z5D):=⟨rfl,rfl,rfl,by decide+kernel,rfl,by decide+kernel,by decide+kernel⟩
def z5v (K:PySem.W.Frag):Sp:=fun vs H Q _=>∃(p:Addr) (rs:List Int),vs=[.ref p]∧H p=some (.lst (rs.map V.int))∧rs.length≤100∧(∃n∈rs,n≠0)∧(∀n∈rs,intBits n≤13000)∧
 ∀(r:Addr) (H':Hp),H r=none→Same H H'→H' r=some (.lst ((z4u rs).map V.int))→Q (.ref r) H'
theorem y1J (T:Txt mg) (F:Fun K "lowest" "lowest" z5D f fd) (c_divisor_of_all:Cal P w K mg base 2 "divisor_of_all" ["numbers"] (z5w K)):FnOk P w K mg base CX0 3 f fd ["numbers"] (z5v K):=by
 refine F.ok sc_lowest (fun vs H Q E h=>?_) (fun cdv A outer s H vs Q E hr h=>?_)
 ·obtain⟨_,_,rfl,_⟩:=h;rfl
 obtain⟨p,rs,rfl,hp,hl,hnz,hb,q⟩:=h
 refine⟨_,(z0d (z0q (i:=1) sc_lowest.nd rfl (Or.inr rfl) (z0p c_divisor_of_all hr rfl (z0a (pv 0) z0c)))
  (z0g (z0v (z0H (Nc:=["number","shared"]) (fr:=[none,some 1]) rfl (z0w (K:=K) rfl (pv 0)) rfl (by decide) rfl (by decide) rfl ⟨rfl,trivial⟩ ⟨⟨rfl,rfl,rfl,rfl⟩,trivial⟩ (fun _ _ _ _=>(z0k (i:=0) (show List.Nodup (["number","shared"]:List Str) from by decide) rfl (Or.inl rfl))) (fun _ _ _ _=>z0I) (fun _ _ _ _=>(z0y z3L (pv 0) (pv 1))))))),?_⟩
 refine⟨_,rfl,p,rs,rfl,.inl (SqL.of hp),by lia,?_⟩
 refine⟨_,rfl,p,rfl,⟨_,SqL.of hp⟩,fun D hD=>?_⟩
 have g0:((z1z rs:Nat):Int)≠0:=by have:=z1u hnz;lia
 refine z1L rfl (z0r K p (rs.map V.int)) hD (fun _=>true) (fun v=>match v with| .int n=> .int (n.fdiv (z1z rs:Int))|u=>u) (fun H' g'=>SqL.of (g' _ _ hp)) (z0h (by rw[q0a];lia)) ?_ ?_ ?_
 ·intro x hx Hc gc S h
  exact h
 ·intro x hx _ Hc gc S h
  obtain⟨n,hn,rfl⟩:=q0f.mp hx
  exact⟨_,rfl,_,rfl,_,_,rfl,rfl,⟨g0,hb n hn⟩,h⟩
 rw[z0z,q0K]
 refine q D _ hD (z0e hD _) ?_
 rw[z0b]
 unfold z4u
 rw[q0K]
 rfl
abbrev z5B:Stmt:=top 21
theorem y1c:z0u ["numbers","sign"] ["numbers","sign"] (z0l z5B):=⟨rfl,rfl,rfl,by decide+kernel,rfl,by decide+kernel,by decide+kernel⟩
def z1O (K:PySem.W.Frag):Sp:=fun vs H Q _=>∃(p:Addr) (rs:List Int) (sg:Int),vs=[.ref p,.int sg]∧SqA K H p (rs.map V.int)∧rs.length≤100∧(sg=1∨sg= -1)∧(∀n∈rs,intBits n≤13000)∧
 ∀(r:Addr) (H':Hp),H r=none→Same H H'→H' r=some (.lst ((z0o sg rs).map V.int))→Q (.ref r) H'
theorem y1H (T:Txt mg) (F:Fun K "turned" "turned" z5B f fd):FnOk P w K mg base CX0 1 f fd ["numbers","sign"] (z1O K):=by
 refine F.ok y1c (fun vs H Q E h=>?_) (fun cdv A outer s H vs Q E hr h=>?_)
 ·obtain⟨_,_,_,rfl,_⟩:=h;rfl
 obtain⟨p,rs,sg,rfl,hp,hl,hsg,hb,q⟩:=h
 obtain⟨b,hB⟩:=hp.toB
 refine⟨_,(z0g (z0v (z0H (Nc:=["number","sign"]) (fr:=[none,some 1]) rfl (z8H (K:=K) rfl (pv 0)) rfl (by decide) rfl (by decide) rfl ⟨rfl,trivial⟩ ⟨⟨rfl,rfl,rfl,rfl⟩,trivial⟩ (fun _ _ _ _=>(z0k (i:=0) (show List.Nodup (["number","sign"]:List Str) from by decide) rfl (Or.inl rfl))) (fun _ _ _ _=>z0I) (fun _ _ _ _=>(z0y z0X (pv 1) (pv 0)))))),?_⟩
 refine⟨_,rfl,p,b,_,rfl,hB,fun D hD=>?_⟩
 have s1:intBits sg≤1:=by rcases hsg with rfl|rfl<;>decide
 refine z1L rfl (z5K K b p (rs.map V.int)) hD (fun _=>true) (fun v=>match v with| .int n=> .int (sg*n)|u=>u) (fun H' g'=>hB.same g') (z0h (by rw[q0a];lia)) ?_ ?_ ?_
 ·intro x hx Hc gc S h
  exact h
 ·intro x hx _ Hc gc S h
  obtain⟨n,hn,rfl⟩:=q0f.mp hx
  exact⟨_,rfl,_,rfl,_,_,rfl,rfl,z2x s1 (hb n hn),h⟩
 rw[z0z,q0K]
 refine q D _ hD (z0e hD _) ?_
 rw[z0b]
 unfold z0o
 rw[q0K]
 rfl
theorem y0x:∀(n:Nat) (a s:List Int),a.length=n→n≤s.length→(List.zipWith (fun x y=>x*y) a s).sum =Ld.sumTo n (fun j=>v a j*v s j)
 |0,a,s,h,_=>by
  rw[q0Y.mp h];rfl
 |n+1,a,s,h,hs=>by
  obtain⟨a',x,rfl⟩:∃a' x,a=a'++[x]:=⟨a.dropLast,a.getLast (fun z=>by rw[z] at h;simp at h),(q0Q _).symm⟩
  have hl:a'.length=n:=by rw[q0k] at h;simpa using h
  have es:s=s.take n++s.drop n:=(q1M _ _).symm
  have ed:s.drop n=s[n]'(by lia)::s.drop (n+1):=q1v (by lia)
  have evs:v s n=s[n]'(by lia):=by
   show s.getD n 0=_
   rw[q0b,q0c (by lia)];rfl
  have eva:v (a'++[x]) n=x:=by
   show (a'++[x]).getD n 0=_
   rw[q0b,q0v (by lia),hl,q1y];rfl
  rw[Ld.sumTo,eva,evs]
  have e1:List.zipWith (fun x y=>x*y) (a'++[x]) s=List.zipWith (fun x y=>x*y) a' (s.take n)++[x*s[n]'(by lia)]:=by
   have e2:List.zipWith (fun x y=>x*y) (a'++[x]) (s.take n++s.drop n)=List.zipWith (fun x y=>x*y) a' (s.take n)++List.zipWith (fun x y=>x*y) [x] (s.drop n):=List.zipWith_append (by rw[q0w];lia)
   rw[q1M,ed] at e2
   rw[e2]
   rfl
  rw[e1,List.sum_append,y0x n a' (s.take n) hl (by rw[q0w];lia)]
  congr 1
  ·refine Ld.sumTo_congr n fun j hj=>?_
   have h1:v (a'++[x]) j=v a' j:=by
    show (a'++[x]).getD j 0=a'.getD j 0
    rw[q0b,q0b,q0D (by lia)]
   have h2:v (s.take n) j=v s j:=by
    show (s.take n).getD j 0=s.getD j 0
    rw[q0b,q0b,q1V hj]
   rw[h1,h2]
  ·simp
abbrev z5I:Stmt:=top 22
theorem y1d:z0u ["bound","spot"] ["bound","spot"] (z0l z5I):=⟨rfl,rfl,rfl,by decide+kernel,rfl,by decide+kernel,by decide+kernel⟩
def z1q (K:PySem.W.Frag):Sp:=fun vs H Q _=>∃(p q:Addr) (a s:List Int) (m:Nat),vs=[.ref p,.ref q]∧H p=some (.lst (a.map V.int))∧H q=some (.lst (s.map V.int))∧a.length=m+1∧s.length=m+1∧m≤50∧(∀n∈a,intBits n≤20000)∧(∀n∈s,intBits n≤20000)∧
 ∀H',Same H H'→Q (.int (hg m (v a) (v s))) H'
theorem y1N (T:Txt mg) (F:Fun K "height" "height" z5I f fd):FnOk P w K mg base CX0 1 f fd ["bound","spot"] (z1q K):=by
 refine F.ok y1d (fun vs H Q E h=>?_) (fun cdv A outer s H vs Q E hr h=>?_)
 ·obtain⟨_,_,_,_,_,rfl,_⟩:=h;rfl
 obtain⟨p,q',a,sp,m,rfl,hp,hq,al,sl,m50,ba,bs,q⟩:=h
 refine⟨_,(z0g (z0v (z0y z4r (z0A (y2T (K:=K) rfl rfl) rfl T.sum boot_sum (z0a (z0H (Nc:=["number","top"]) (fr:=[none,none]) rfl (z7N (K:=K) rfl rfl T.zip (z0a (z1t (z1P (K:=K) rfl) (pv 0) z1W (z1V (z1Z z1d z0j))) (z0a (pv 1) z0c))) rfl (by decide) rfl (by decide) rfl trivial trivial (fun _ _ _ _=>(z0Q (K:=K) rfl 2 rfl (z0t (z0k (i:=0) (show List.Nodup (["number","top"]:List Str) from by decide) rfl (Or.inl rfl)) (z0t (z0k (i:=1) (show List.Nodup (["number","top"]:List Str) from by decide) rfl (Or.inl rfl)) z0P)))) (fun _ _ _ _=>z0I) (fun _ _ _ _=>(z0y z0X (pv 0) (pv 1)))) z0c)) (z0y z0X (z0N (z0F (K:=K) rfl) (pv 0) (z1Z z1d z0j) (fun _ _=>rfl)) (z0N (z0F (K:=K) rfl) (pv 1) (z1Z z1d z0j) (fun _ _=>rfl)))))),?_⟩
 obtain⟨a',x,ea⟩:∃a' x,a=a'++[x]:=⟨a.dropLast,a.getLast (fun z=>by rw[z] at al;simp at al),(q0Q _).symm⟩
 obtain⟨s',y,es⟩:∃a' x,sp=a'++[x]:=⟨sp.dropLast,sp.getLast (fun z=>by rw[z] at sl;simp at sl),(q0Q _).symm⟩
 have a'l:a'.length=m:=by rw[ea,q0k] at al;simpa using al
 have s'l:s'.length=m:=by rw[es,q0k] at sl;simpa using sl
 have hp':H p=some (.lst (a'.map V.int++[V.int x])):=by rw[hp,ea,q0r];rfl
 have hq':H q'=some (.lst (s'.map V.int++[V.int y])):=by rw[hq,es,q0r];rfl
 have bx:intBits x≤20000:=ba x (by rw[ea];simp)
 have by':intBits y≤20000:=bs y (by rw[es];simp)
 refine⟨_,rfl,_,rfl,_,rfl,p,_,rfl,SqL.of hp',fun z hz=>?_⟩
 rw[z2t]
 have g1:=z0e hz (.lst (a'.map V.int))
 have e1:upd H z (.lst (a'.map V.int)) z=some (.lst (a'.map V.int)):=z0b
 generalize upd H z (.lst (a'.map V.int))=H1 at*
 refine⟨_,rfl,z,q',true,true,_,_,rfl,SqL.of e1,SqL.of (g1 _ _ hq),fun D hD=>?_⟩
 refine z3a rfl (z4k K true true z q' (a'.map V.int) (sp.map V.int)) hD (fun _=>true) (fun c=>match c with|(.int m,.int n)=> .int (m*n)|_=> .non) ?_ (fun H' g'=>⟨SqL.of (g' _ _ e1),SqL.of (g' _ _ (g1 _ _ hq))⟩) (z0h (by rw[q1h,q0a,q0a];lia)) ?_ ?_ ?_
 ·intro p u v σ H hp S h
  exact⟨p,_,rfl,SqT.of hp,rfl,_,_,rfl,_,_,rfl,rfl,h⟩
 ·intro c hc Hc gc S h
  exact h
 ·intro c hc _ Hc gc S h
  obtain⟨c1,c2⟩:=c
  obtain⟨h1,h2⟩:=List.of_mem_zip hc
  obtain⟨m',hm,rfl⟩:=q0f.mp h1
  obtain⟨n',hn,rfl⟩:=q0f.mp h2
  exact⟨_,rfl,_,rfl,_,_,rfl,rfl,z2x (ba m' (by rw[ea];exact q0G _ hm)) (bs n' hn),h⟩
 ·intro H2 g2 hD2
  rw[z0z] at hD2
  have em:((a'.map V.int).zip (sp.map V.int)).map (fun c=>match c with|(.int m,.int n)=>V.int (m*n)|_=> .non)=(List.zipWith (fun a b=>a*b) a' sp).map V.int:=by
   rw[z2L,q0K,List.zip_map,q0K]
   rfl
  rw[em] at hD2
  have g02:=g1.trans g2
  refine⟨D,_,rfl,SqL.of hD2,?_⟩
  refine⟨_,rfl,_,rfl,p,_,_,_,rfl,rfl,SqL.of (g02 _ _ hp'),z2v _ _,_,rfl,_,rfl,q',_,_,_,rfl,rfl,SqL.of (g02 _ _ hq'),z2v _ _,_,_,rfl,rfl,z2x bx by',_,_,rfl,rfl,?_⟩
  have ev:(List.zipWith (fun a b=>a*b) a' sp).sum - x*y=hg m (v a) (v sp):=by
   unfold hg
   rw[y0x m a' sp a'l (by lia)]
   have ex:v a m=x:=by
        show a.getD m 0=x
        rw[ea,q0b,q0v (by lia),a'l,q1y];rfl
   have ey:v sp m=y:=by
        show sp.getD m 0=y
        rw[es,q0b,q0v (by lia),s'l,q1y];rfl
   rw[ex,ey]
   congr 1
   refine Ld.sumTo_congr m fun j hj=>?_
   congr 1
   show a'.getD j 0=a.getD j 0
   rw[ea,q0b,q0b,q0D (by lia)]
  show Q (V.int ((List.zipWith (fun a b=>a*b) a' sp).sum - x*y)) H2
  rw[ev]
  exact q H2 g02
abbrev y1f:Stmt:=top 23
theorem y5w:z0u ["bound"] ["bound"] (z0l y1f):=⟨rfl,rfl,rfl,by decide+kernel,rfl,by decide+kernel,by decide+kernel⟩
def z6w (K:PySem.W.Frag):Sp:=fun vs H Q _=>∃(p:Addr) (b:List Int),vs=[.ref p]∧H p=some (.lst (b.map V.int))∧b.length≤100∧(∃n∈b,n≠0)∧∀H',Same H H'→Q (.int (ldL b)) H'
theorem y5V (T:Txt mg) (F:Fun K "lead" "lead" y1f f fd) (c_first_place:Cal P w K mg base 1 "first_place" ["row"] (z2g K)):FnOk P w K mg base CX0 2 f fd ["bound"] (z6w K):=by
 refine F.ok y5w (fun vs H Q E h=>?_) (fun cdv A outer s H vs Q E hr h=>?_)
 ·obtain⟨_,_,rfl,_⟩:=h;rfl
 obtain⟨p,b,rfl,hp,bl,hnz,q⟩:=h
 refine⟨_,(z0g (z0v (z3K (z0D y1C (z0N (z0F (K:=K) rfl) (pv 0) (z0p c_first_place hr rfl (z0a (pv 0) z0c)) (fun _ _=>rfl)) z0j (z0M _)) z0j (z1Z z1d z0j)))),?_⟩
 have hlt:=y4m hnz
 refine⟨_,rfl,_,rfl,p,b,rfl,.inl (SqL.of hp),by lia,hnz,fun H' g'=>?_⟩
 refine⟨p,_,_,_,rfl,rfl,SqL.of (g' _ _ hp),y5h hlt,_,_,rfl,rfl,_,rfl,?_⟩
 refine z6c (fun c=>?_) (fun c=>?_)
 ·have c':0<v b (fp b):=of_decide_eq_true c
  have:ldL b=1:=by unfold ldL;rw[if_pos c']
  have:=q H' g'
  rw[‹ldL b=1›] at this
  exact this
 ·have c':¬0<v b (fp b):=fun z=>c (decide_eq_true z)
  have e:ldL b= -1:=by unfold ldL;rw[if_neg c']
  have:=q H' g'
  rw[e] at this
  exact⟨_,rfl,this⟩
end
end L2
namespace L2
open PySem PySem.Spec PyProof.Rows
section
open Fr Wl Rk Pt Ld
open Builtin.Int (intBits)
variable {P:Program}{w:World}{K:PySem.W.Frag}{mg:Str→Option Value}{base:Heap}{f:Addr}{fd:FuncData}
theorem z0s {n:Int}{a b:Nat} (h:intBits n≤a) (hab:a≤b):intBits n≤b:=q0m h hab
theorem z8r {B:Nat}{f:Nat→Int}:∀n,(∀j,j<n→intBits (f j)≤B)→intBits (Ld.sumTo n f)≤B+n
 |0,_=>Nat.le_trans (show intBits 0≤0 by decide) (Nat.zero_le _)
 |n+1,h=>by
  have h1:=z8r n fun j hj=>h j (by lia)
  have h2:=z0s (h n (by lia)) (show B≤B+n by lia)
  rw[Ld.sumTo]
  exact z0s (intBits_add_le h1 h2) (by lia)
theorem y6p {m b c S:Nat}{a s:Nat→Int} (ha:∀j,j<m→intBits (a j)≤b) (hc:intBits (a m)≤c) (hs:∀j,j≤m→intBits (s j)≤S):intBits (hg m a s)≤max b c+S+m+1:=by
 unfold hg
 have h1:intBits (Ld.sumTo m fun j=>a j*s j)≤max b c+S+m:=z8r m fun j hj=>z0s (intBits_mul_le (ha j hj) (hs j (by lia))) (by lia)
 have h2:intBits (a m*s m)≤max b c+S+m:=z0s (intBits_mul_le hc (hs m (q0i _))) (by lia)
 exact z0s (intBits_sub_le h1 h2) (by lia)
structure Bd (m b c:Nat) (r:List Int):Prop where
 len:r.length=m+1
 way:∀j,j<m→intBits (v r j)≤b
 lst:intBits (v r m)≤c
theorem y1S {r:List Int}{n:Int} (h:n∈r):∃j,j<r.length∧v r j=n:=by
 obtain⟨j,hj,e⟩:=q0B.mp h
 refine⟨j,hj,?_⟩
 show r.getD j 0=n
 rw[q0b,q0c hj,e];rfl
theorem Bd.all {m b c:Nat}{r:List Int} (h:Bd m b c r):∀n∈r,intBits n≤max b c:=fun n hn=>by
 obtain⟨j,hj,rfl⟩:=y1S hn
 rw[h.len] at hj
 by_cases c':j<m
 ·exact z0s (h.way j c') (by lia)
 ·rw[show j=m by lia];exact z0s h.lst (by lia)
theorem z5A {sg n:Int} (h:sg=1∨sg= -1) {k:Nat} (hn:intBits n≤k):intBits (sg*n)≤k:=by
 refine intBits_le_of_natAbs (y:=n) ?_ hn
 rcases h with rfl|rfl<;>lia
theorem Bd.turn {m b c:Nat}{r:List Int} (h:Bd m b c r) {sg:Int} (hs:sg=1∨sg= -1):Bd m b c (z0o sg r):=
 ⟨by rw[z1N,h.len],fun j hj=>by rw[z1i];exact z5A hs (h.way j hj),by rw[z1i];exact z5A hs h.lst⟩
theorem Bd.draw {m b c:Nat}{t u:List Int} (ht:Bd (m+1) b c t) (hu:Bd (m+1) b c u) (hp:fp t≤m) (hn:∃n∈t,n≠0):Bd m (2*b+1) (b+c+1) (drR t u):=by
 have hl:u.length=t.length:=by rw[ht.len,hu.len]
 have g0:=z6W (b:=v u (fp t)) (z1K hn)
 have ob:intBits (z3o u t)≤b:=intBits_le_of_natAbs (z1G (q1s ..) g0) (ht.way _ (by lia))
 have lb:intBits (z1J u t)≤b:=intBits_le_of_natAbs (z1G (q1L ..) g0) (hu.way _ (by lia))
 have e:∀j,v (drR t u) j=z3o u t*v u (skp (fp t) j) - z1J u t*v t (skp (fp t) j):=fun j=>by
  unfold drR
  rw[z1M,z1x hl]
 refine⟨by have:=z2k hl hn;rw[ht.len] at this;lia,fun j hj=>?_,?_⟩
 ·have hs:skp (fp t) j<m+1:=by unfold skp;split<;>lia
  rw[e]
  exact z0s (intBits_sub_le (intBits_mul_le ob (hu.way _ hs)) (intBits_mul_le lb (ht.way _ hs))) (by lia)
 ·have hs:skp (fp t) m=m+1:=by unfold skp;rw[if_neg (by lia)]
  rw[e,hs]
  exact z0s (intBits_sub_le (intBits_mul_le ob hu.lst) (intBits_mul_le lb ht.lst)) (by lia)
theorem z5Y {s:List Int}{k:Nat} (hn:∃n∈s,n≠0) (h:∀n∈s,intBits n≤k):∀n∈z4u s,intBits n≤k:=fun n hn'=>by
 unfold z4u at hn'
 obtain⟨x,hx,rfl⟩:=q0f.mp hn'
 exact intBits_le_of_natAbs (z1G ((z3O s 0).2 x hx) (by have:=z1u hn;lia)) (h x hx)
theorem z9c {pl k:Nat}{s:List Int} (h:∀n∈s,intBits n≤k):∀n∈z2s pl 0 s,intBits n≤k:=fun n hn=>by
 unfold z2s at hn
 rcases q0I.mp hn with hn|hn
 ·exact h n (List.mem_of_mem_take hn)
 ·rcases q0n.mp hn with rfl|hn
  ·exact q0m (show intBits 0≤0 by decide) (q0N _)
  ·exact h n (List.mem_of_mem_drop hn)
theorem z7w {m b c S:Nat}{t f:List Int} (ht:Bd (m+1) b c t) (hp:fp t≤m) (hf:f.length=m+1) (hb:∀n∈f,intBits n≤S):∀n∈upL (m+1) t f,intBits n≤max b c+S+m+3:=fun n hn=>by
 unfold upL at hn
 have hi:=z9c (pl:=fp t) hb
 rcases q1Q hn with hn|rfl
 ·obtain⟨x,hx,rfl⟩:=q0f.mp hn
  exact z0s (intBits_mul_le (ht.way _ (by lia)) (hi x hx)) (by lia)
 ·have:=y6p (s:=v (z2s (fp t) 0 f)) ht.way ht.lst (S:=S) fun j _=>z1a hi j
  exact z0s (intBits_sub_le (x:=0) (show intBits 0≤0 by decide) this) (by lia)
abbrev z5E:Stmt:=top 24
theorem sc_lifted:z0u ["rows","spot","known","row","place","missing"] ["rows","spot"] (z0l z5E):=⟨rfl,rfl,rfl,by decide+kernel,rfl,by decide+kernel,by decide+kernel⟩
def z2N (K:PySem.W.Frag):Sp:=fun vs H Q _=>∃(l q a:Addr) (t fs:List Int) (m b c S:Nat),vs=[.ref l,.ref q]∧H l=some (.lst [V.ref a])∧H a=some (.lst (t.map V.int))∧H q=some (.lst (fs.map V.int))∧Bd (m+1) b c t∧fp t≤m∧0<v t (fp t)∧fs.length=m+1∧(∃j,v fs j≠0)∧(∀n∈fs,intBits n≤S)∧b≤2000∧c≤2000∧S≤6000∧m≤5∧
 ∀(r:Addr) (H':Hp),H r=none→Same H H'→H' r=some (.lst ((z4u (upL (m+1) t fs)).map V.int))→Q (.ref r) H'
theorem y1K (T:Txt mg) (F:Fun K "lifted" "lifted" z5E f fd) (c_first_place:Cal P w K mg base 3 "first_place" ["row"] (z2g K)) (c_height:Cal P w K mg base 3 "height" ["bound","spot"] (z1q K)) (c_lowest:Cal P w K mg base 3 "lowest" ["numbers"] (z5v K)):FnOk P w K mg base CX0 4 f fd ["rows","spot"] (z2N K):=by
 refine F.ok sc_lifted (fun vs H Q E h=>?_) (fun cdv A outer s H vs Q E hr h=>?_)
 ·obtain⟨_,_,_,_,_,_,_,_,_,rfl,_⟩:=h;rfl
 obtain⟨l,q',a,t,fs,m,b,c,S,rfl,hl,ha,hq,hB,hp,hpos,fl,fpos,fb,b2,c2,s6,m5,q⟩:=h
 refine⟨_,(z0d (z0q (i:=2) sc_lifted.nd rfl (Or.inl rfl) (z0T (z2u (K:=K) rfl) rfl T.list boot_list (z0a (pv 1) z0c)))
  (z0d (z0W PassesOwn.never rfl (z0w (K:=K) rfl (pv 0)) (z0k (i:=3) sc_lifted.nd rfl (Or.inr rfl)) (z0g (z2E (z9M PySem.F.plainAttrs_list PySem.F.slot_list_insert PySem.F.type_list_insert y1R (pv 2) (z0a (z0p c_first_place hr rfl (z0a (pv 3) z0c)) (z0a z0j z0c))))))
  (z0d (z0W PassesOwn.never rfl (z0w (K:=K) rfl (pv 0)) (z0k (i:=3) sc_lifted.nd rfl (Or.inr rfl)) (z0d (z0q (i:=4) sc_lifted.nd rfl (Or.inr rfl) (z0p c_first_place hr rfl (z0a (pv 3) z0c)))
  (z0d (z0q (i:=5) sc_lifted.nd rfl (Or.inl rfl) (z0y z4r z0j (z0p c_height hr rfl (z0a (pv 3) (z0a (pv 2) z0c)))))
  (z0d (z3m (jj:=2) rfl sc_lifted.nd rfl (Or.inl rfl) (Or.inl rfl) (Nc:=["number","row","place"]) (fr:=[none,some 3,some 4]) rfl (z0w (K:=K) rfl (pv 2)) rfl (by decide) rfl (by decide) rfl ⟨rfl,⟨rfl,trivial⟩⟩ ⟨⟨rfl,rfl,rfl,rfl⟩,⟨⟨rfl,rfl,rfl,rfl⟩,trivial⟩⟩ (fun _ _ _ _=>(z0k (i:=0) (show List.Nodup (["number","row","place"]:List Str) from by decide) rfl (Or.inl rfl))) (fun _ _ _ _=>z0I) (fun _ _ _ _=>(z0y z0X (z0N (z0F (K:=K) rfl) (pv 1) (pv 2) (fun _ _=>rfl)) (pv 0))))
  (z0g (z6H (pv 5) (z6J (pv 2) (pv 4) z2S)))))))
  (z0g (z0v (z0p c_lowest hr rfl (z0a (pv 2) z0c))))))),?_⟩
 have tl:=hB.len
 have tnz:∃n∈t,n≠0:=z1F (j:=fp t) (by lia)
 have tb:=hB.all
 have il:(z2s (fp t) 0 fs).length =m+2:=by have:=z8X (pl:=fp t) (y:=fs) (by lia);show (lf (fp t) fs).length =_;lia
 have ib:=z9c (pl:=fp t) fb
 refine z0x (fun σ H'=>∃r,H r=none∧σ=[some (.ref l),some (.ref q'),some (.ref r),none,none,none]∧Same H H'∧H' r=some (.lst (fs.map V.int))) (fun N hN=>?_) ?_
 ·exact⟨_,rfl,q',_,rfl,.inl (SqL.of hq),fun r hr=>hN _ _ ⟨r,hr,rfl,z0e hr _,z0b⟩⟩
 rintro σ H0 ⟨r,hr0,rfl,g0,e0⟩
 refine z0x (fun σ H'=>∃s3,σ=[some (.ref l),some (.ref q'),some (.ref r),s3,none,none]∧Same H H'∧H' r=some (.lst ((z2s (fp t) 0 fs).map V.int))) (fun N hN=>?_) ?_
 ·refine⟨_,rfl,l,rfl,⟨_,SqL.of (g0 _ _ hl)⟩,?_⟩
  refine z0C (z0r K l [V.ref a]) (fun i σ H'=>∃s3,σ=[some (.ref l),some (.ref q'),some (.ref r),s3,none,none]∧Same H H'∧H' r=some (.lst ((if i=0 then fs else z2s (fp t) 0 fs).map V.int))) ⟨_,rfl,g0,e0⟩ (fun i σ H' _ h=>by obtain⟨_,_,g,_⟩:=h;exact SqL.of (g _ _ hl)) ?_ ?_
  ·rintro i x σ H1 H2 hi ⟨s3,rfl,g,er⟩ ⟨rfl,hx⟩
   have i0:i=0:=by simp at hi;lia
   subst i0
   rw[if_pos rfl] at er
   have ex:x= .ref a:=(Option.some.inj hx).symm
   subst ex
   refine⟨_,rfl,.inl ⟨rfl,_,SqL.of er⟩,_,rfl,a,t,rfl,.inl (SqL.of (g _ _ ha)),by lia,tnz,fun H3 g3=>?_⟩
   refine⟨r,_,_,_,rfl,rfl,g3 _ _ er,by lia,by rw[q0a];lia,z3q (by rw[q0a];lia),?_⟩
   refine⟨_,rfl,fun b' o e=>by rw[z0i (z0f e hr0)];exact (g.trans g3) _ _ e,?_⟩
   rw[z0b,if_neg (by lia),q0E]
   unfold z2s
   rw[q0r,q0q,List.map_take,List.map_drop]
  ·rintro σ H1 ⟨s3,rfl,g,er⟩
   exact hN _ _ ⟨_,rfl,g,er⟩
 clear g0 e0
 rintro σ H0 ⟨s3,rfl,g0,e0⟩
 refine z0x (fun σ H'=>∃r s3 s4 s5,H r=none∧σ=[some (.ref l),some (.ref q'),some (.ref r),s3,s4,s5]∧Same H H'∧H' r=some (.lst ((upL (m+1) t fs).map V.int))) (fun N hN=>?_) ?_
 ·refine⟨_,rfl,l,rfl,⟨_,SqL.of (g0 _ _ hl)⟩,?_⟩
  refine z0C (z0r K l [V.ref a]) (fun i σ H'=>∃r s3 s4 s5,H r=none∧σ=[some (.ref l),some (.ref q'),some (.ref r),s3,s4,s5]∧Same H H'∧H' r=some (.lst ((if i=0 then z2s (fp t) 0 fs else upL (m+1) t fs).map V.int))) ⟨_,_,_,_,hr0,rfl,g0,e0⟩ (fun i σ H' _ h=>by obtain⟨_,_,_,_,_,_,g,_⟩:=h;exact SqL.of (g _ _ hl)) ?_ ?_
  ·clear g0 e0 hr0
   rintro i x σ H1 H2 hi ⟨r,s3,s4,s5,hr0,rfl,g,er⟩ ⟨rfl,hx⟩
   have i0:i=0:=by simp at hi;lia
   subst i0
   rw[if_pos rfl] at er
   have ex:x= .ref a:=(Option.some.inj hx).symm
   subst ex
   refine⟨_,rfl,a,t,rfl,.inl (SqL.of (g _ _ ha)),by lia,tnz,fun H3 g3=>?_⟩
   refine⟨_,rfl,_,rfl,a,r,t,z2s (fp t) 0 fs,m+1,rfl,(g.trans g3) _ _ ha,g3 _ _ er,tl,il,by lia,fun n hn=>z0s (tb n hn) (by lia),fun n hn=>z0s (ib n hn) (by lia),fun H4 g4=>?_⟩
   refine⟨_,_,rfl,rfl,?_⟩
   have g34:=g3.trans g4
   have er4:=g34 _ _ er
   have ha4:=(g.trans g34) _ _ ha
   refine⟨_,rfl,r,rfl,⟨_,SqL.of er4⟩,fun D hD=>?_⟩
   refine z1L rfl (z0r K r ((z2s (fp t) 0 fs).map V.int)) hD (fun _=>true) (fun x=>match x with| .int n=> .int (v t (fp t)*n)|u=>u) (fun H' g'=>SqL.of (g' _ _ er4)) (z0h (by rw[q0a];lia)) ?_ ?_ ?_
   ·intro x hx Hc gc S h
    exact h
   ·intro x hx _ Hc gc S h
    obtain⟨n,hn,rfl⟩:=q0f.mp hx
    exact⟨_,rfl,_,rfl,a,_,_,_,rfl,rfl,SqL.of (gc _ _ ha4),y5h (by lia),_,rfl,_,_,rfl,rfl,z2x (z0s (z1a tb (fp t)) (show _≤2000 by lia)) (ib n hn),h⟩
   rw[z0z,q0K]
   have em:(z2s (fp t) 0 fs).map ((fun x=>match x with| .int n=>V.int (v t (fp t)*n)|u=>u)∘V.int)=((z2s (fp t) 0 fs).map fun n=>v t (fp t)*n).map V.int:=by rw[q0K];rfl
   rw[em]
   have g5:=z0e hD (.lst (((z2s (fp t) 0 fs).map fun n=>v t (fp t)*n).map V.int))
   have e5:upd H4 D (.lst (((z2s (fp t) 0 fs).map fun n=>v t (fp t)*n).map V.int)) D=some (.lst (((z2s (fp t) 0 fs).map fun n=>v t (fp t)*n).map V.int)):=z0b
   generalize upd H4 D (.lst (((z2s (fp t) 0 fs).map fun n=>v t (fp t)*n).map V.int))=H5 at*
   refine⟨_,rfl,_,rfl,_,rfl,D,_,_,fp t,rfl,rfl,e5,z4x (by rw[q0a,q0a,il];lia),?_⟩
   have hD0:=(g.trans g34).free hD
   refine⟨D,_,_,_,hD0,rfl,fun b' o e=>by rw[z0i (z0f e hD0)];exact ((g.trans g34).trans g5) _ _ e,?_⟩
   rw[z0b,if_neg (by lia)]
   unfold upL
   rw[List.map_set]
  ·rintro σ H1 ⟨r,s3,s4,s5,hr0,rfl,g,er⟩
   exact hN _ _ ⟨r,_,_,_,hr0,rfl,g,er⟩
 clear g0 e0
 rintro σ H1 ⟨r,s3,s4,s5,hr1,rfl,g1,e1⟩
 have ul:=y0B (t:=t) fl hp
 have unz:∃n∈upL (m+1) t fs,n≠0:=by
  obtain⟨j,hj⟩:=fpos
  refine z1F (j:=skp (fp t) j) ?_
  rw[z2M fl hp]
  exact q1g (by lia) hj
 exact⟨_,rfl,r,_,rfl,e1,by lia,unz,fun n hn=>z0s (z7w hB hp fl fb n hn) (by lia),fun r2 H2 hr2 g2 e2=>q r2 H2 (g1.free hr2) (g1.trans g2) e2⟩
end
end L2
namespace L2
open PySem PySem.Spec PyProof.Rows
section
open Fr Wl Rk Pt Ld
open Builtin.Int (intBits)
variable {P:Program}{w:World}{K:PySem.W.Frag}{mg:Str→Option Value}{base:Heap}{f:Addr}{fd:FuncData}
theorem z6k {m p b L:Nat}{s:List Int} (hs:0<v s m) (sb:intBits (v s m)≤L):∀(bs:List (List Int)) (z:Int),(∀r∈bs,intBits (v r p)≤b∧0<hg m (v r) (v s))→1≤z→intBits z≤b+L+1→intBits (bs.foldl (fun z r=>max z (((v r p).natAbs :Int)*v s m/hg m (v r) (v s)+1)) z)≤b+L+1
 |[],z,_,_,hz=>hz
 |r::bs,z,h,z1,hz=>by
  rw[q1W]
  obtain⟨h1,h2⟩:=h r q0l
  have hm:intBits (((v r p).natAbs :Int)*v s m)≤b+L:=intBits_mul_le (intBits_le_of_natAbs (y:=v r p) (by lia) h1) sb
  have n0:0≤((v r p).natAbs :Int)*v s m:=q1r (Int.natCast_nonneg _) (q1B hs)
  have hd:0≤((v r p).natAbs :Int)*v s m/hg m (v r) (v s):=Int.ediv_nonneg n0 (q1B h2)
  have hle:((v r p).natAbs :Int)*v s m/hg m (v r) (v s)≤((v r p).natAbs :Int)*v s m:=Int.ediv_le_self _ n0
  have hq:intBits (((v r p).natAbs :Int)*v s m/hg m (v r) (v s))≤b+L:=intBits_le_of_natAbs (by lia) hm
  have hq1:intBits (((v r p).natAbs :Int)*v s m/hg m (v r) (v s)+1)≤b+L+1:=by
   refine intBits_le_iff.mpr ?_
   have:=intBits_le_iff.mp hq
   rw[Nat.pow_succ]
   generalize ((v r p).natAbs :Int)*v s m/hg m (v r) (v s)=y at*
   lia
  refine z6k hs sb bs _ (fun r' hr'=>h r' (q0j _ hr')) (by lia) ?_
  generalize ((v r p).natAbs :Int)*v s m/hg m (v r) (v s)+1=y at*
  rcases (by lia:max z y=z∨max z y=y) with e|e
  ·rw[e];exact hz
  ·rw[e];exact hq1
theorem z8s {m p b L:Nat}{sg:Int}{s:List Int}{bs:List (List Int)} (hsg:sg=1∨sg= -1) (hl:s.length=m+1) (hp:p<m) (hs:0<v s m) (sb:∀n∈s,intBits n≤L) (hb:∀r∈bs,intBits (v r p)≤b∧0<hg m (v r) (v s)):∀n∈z7r m p sg s bs,intBits n≤b+2*L+2:=fun n hn=>by
 have hbt:intBits (z3Q m p s bs)≤b+L+1:=z6k hs (z1a sb m) bs 1 hb (by decide) (by
  refine q0m (show intBits 1≤1 by decide) (by lia))
 obtain⟨j,_,rfl⟩:=y1S hn
 rw[y0H (by lia)]
 by_cases c:j=p
 ·rw[if_pos c]
  exact z0s (intBits_add_le (intBits_mul_le hbt (z1a sb j)) (z5A hsg (z1a sb m))) (by lia)
 ·rw[if_neg c,q1m]
  exact z0s (intBits_mul_le hbt (z1a sb j)) (by lia)
theorem y3c (i:Int):(if i<0 then -i else i)=(i.natAbs:Int):=by split<;>lia
theorem y7v (i j:Int):(if j>i then j else i)=max i j:=by split<;>lia
abbrev z4c:Stmt:=top 25
theorem sc_stepped:z0u ["bounds","spot","place","sign","bottom","bound","moved"] ["bounds","spot","place","sign"] (z0l z4c):=⟨rfl,rfl,rfl,by decide+kernel,rfl,by decide+kernel,by decide+kernel⟩
def z3V (K:PySem.W.Frag):Sp:=fun vs H Q _=>∃(lb q:Addr) (as:List Addr) (bs:List (List Int)) (s:List Int) (p:Nat) (sg:Int) (m b c L:Nat),vs=[.ref lb,.ref q,.int (p:Nat),.int sg]∧H lb=some (.lst (as.map V.ref))∧LsA H as bs∧H q=some (.lst (s.map V.int))∧(∀r∈bs,Bd m b c r)∧Win m bs s∧p<m∧(sg=1∨sg= -1)∧(∀n∈s,intBits n≤L)∧b≤2000∧c≤2000∧b+2*L+4≤13000∧m≤6∧bs.length≤100∧
 ∀(r:Addr) (H':Hp),H r=none→Same H H'→H' r=some (.lst ((z4u (z7r m p sg s bs)).map V.int))→Q (.ref r) H'
theorem z9P (T:Txt mg) (F:Fun K "stepped" "stepped" z4c f fd) (c_height:Cal P w K mg base 3 "height" ["bound","spot"] (z1q K)) (c_lowest:Cal P w K mg base 3 "lowest" ["numbers"] (z5v K)):FnOk P w K mg base CX0 4 f fd ["bounds","spot","place","sign"] (z3V K):=by
 refine F.ok sc_stepped (fun vs H Q E h=>?_) (fun cdv A outer s H vs Q E hr h=>?_)
 ·obtain⟨_,_,_,_,_,_,_,_,_,_,_,rfl,_⟩:=h;rfl
 obtain⟨lb,q',as,bs,sp,p,sg,m,b,c,L,rfl,hlb,hls,hq,hB,hW,pm,hsg,sb,b2,c2,hL,m6,n100,q⟩:=h
 refine⟨_,(z0d (z0q (i:=4) sc_stepped.nd rfl (Or.inr rfl) z0j)
  (z0d (z0W PassesOwn.never rfl (z0w (K:=K) rfl (pv 0)) (z0k (i:=5) sc_stepped.nd rfl (Or.inl rfl)) (z0g (z0q (i:=4) sc_stepped.nd rfl (Or.inr rfl) (z0A (z7h rfl) rfl T.max boot_max (z0a (pv 4) (z0a (z0y z2A (z0y z3L (z0y z0X (z0A z9q rfl T.abs boot_abs (z0a (z0N (z0F (K:=K) rfl) (pv 5) (pv 2) (fun _ _=>rfl)) z0c)) (z0N (z0F (K:=K) rfl) (pv 1) (z1Z z1d z0j) (fun _ _=>rfl))) (z0p c_height hr rfl (z0a (pv 5) (z0a (pv 1) z0c)))) z0j) z0c))))))
  (z0d (z3m (jj:=6) rfl sc_stepped.nd rfl (Or.inl rfl) (Or.inl rfl) (Nc:=["number","bottom"]) (fr:=[none,some 4]) rfl (z0w (K:=K) rfl (pv 1)) rfl (by decide) rfl (by decide) rfl ⟨rfl,trivial⟩ ⟨⟨rfl,rfl,rfl,rfl⟩,trivial⟩ (fun _ _ _ _=>(z0k (i:=0) (show List.Nodup (["number","bottom"]:List Str) from by decide) rfl (Or.inl rfl))) (fun _ _ _ _=>z0I) (fun _ _ _ _=>(z0y z0X (pv 1) (pv 0))))
  (z0d (z6H (z0y z2A (z0N (z0F (K:=K) rfl) (pv 6) (pv 2) (fun _ _=>rfl)) (z0y z0X (pv 3) (z0N (z0F (K:=K) rfl) (pv 1) (z1Z z1d z0j) (fun _ _=>rfl)))) (z6J (pv 6) (pv 2) z2S))
  (z0g (z0v (z0p c_lowest hr rfl (z0a (pv 6) z0c)))))))),?_⟩
 have sl:=hW.1.1
 have spos:=hW.1.2
 obtain⟨s',y,es⟩:∃a' x,sp=a'++[x]:=⟨sp.dropLast,sp.getLast (fun z=>by rw[z] at sl;simp at sl),(q0Q _).symm⟩
 have s'l:s'.length=m:=by rw[es,q0k] at sl;simpa using sl
 have ey:y=v sp m:=by
  show y=sp.getD m 0
  rw[es,q0b,q0v (by lia),s'l,q1y];rfl
 have hq':H q'=some (.lst (s'.map V.int++[V.int (v sp m)])):=by rw[hq,←ey,es,q0r];rfl
 refine z0x (fun σ H'=>σ=[some (.ref lb),some (.ref q'),some (.int (p:Nat)),some (.int sg),some (.int 1),none,none]∧H=H') (fun N hN=>?_) ?_
 ·exact hN _ _ ⟨rfl,rfl⟩
 rintro σ H0 ⟨rfl,rfl⟩
 refine z0x (fun σ H'=>∃s5,σ=[some (.ref lb),some (.ref q'),some (.int (p:Nat)),some (.int sg),some (.int (z3Q m p sp bs)),s5,none]∧Same H H') (fun N hN=>?_) ?_
 ·refine⟨_,rfl,lb,rfl,⟨_,SqL.of hlb⟩,?_⟩
  refine z0C (z0r K lb (as.map V.ref)) (fun i σ H'=>∃s5,σ=[some (.ref lb),some (.ref q'),some (.int (p:Nat)),some (.int sg),some (.int (z3Q m p sp (bs.take i))),s5,none]∧Same H H') ⟨_,rfl,Same.refl _⟩ (fun i σ H' _ h=>by obtain⟨_,_,g⟩:=h;exact SqL.of (g _ _ hlb)) ?_ ?_
  ·rintro i x σ H1 H2 hi ⟨s5,rfl,g⟩ ⟨rfl,hx⟩
   rw[q0a,hls.1] at hi
   rw[q0h] at hx
   obtain⟨a,ha,rfl⟩:=q0u.mp hx
   have et:bs[i]? =some bs[i]:=q0c hi
   have hum:bs[i]∈bs:=q0z hi
   have tk:bs.take (i+1)=bs.take i++[bs[i]]:=by rw[q0R,et];rfl
   generalize bs[i]=u at et hum tk
   have hu:=hB u hum
   have hau:=g _ _ (hls.2 i a u ha et)
   have hh:=hW.2 u hum
   have ub:=hu.all
   have hub:intBits (if v u p<0 then -v u p else v u p)≤b:=by rw[y3c];exact intBits_le_of_natAbs (y:=v u p) (by lia) (hu.way p pm)
   refine⟨_,rfl,_,rfl,_,rfl,a,_,_,_,rfl,rfl,SqL.of hau,y5h (by rw[hu.len];lia),_,rfl,_,rfl,_,rfl,q',_,_,_,rfl,rfl,SqL.of (g _ _ hq'),z2v _ _,_,_,rfl,rfl,z2x hub (z1a sb m),?_⟩
   refine⟨_,rfl,_,rfl,a,q',u,sp,m,rfl,hau,g _ _ hq,hu.len,sl,by lia,fun n hn=>z0s (ub n hn) (by lia),fun n hn=>z0s (sb n hn) (by lia),fun H3 g3=>?_⟩
   refine⟨_,_,rfl,rfl,⟨by lia,z0s (intBits_mul_le hub (z1a sb m)) (by lia)⟩,_,_,rfl,rfl,_,_,rfl,?_⟩
   have eb:(if ((if v u p<0 then -v u p else v u p)*v sp m).fdiv (hg m (v u) (v sp))+1>z3Q m p sp (bs.take i) then ((if v u p<0 then -v u p else v u p)*v sp m).fdiv (hg m (v u) (v sp))+1 else z3Q m p sp (bs.take i))=z3Q m p sp (bs.take (i+1)):=by
        rw[tk,y3c,Int.fdiv_eq_ediv_of_nonneg _ (q1B hh),y7v]
        unfold z3Q
        rw[q1z]
        rfl
   refine⟨some (.ref a),?_,g.trans g3⟩
   rw[eb]
   rfl
  ·rintro σ H1 ⟨s5,rfl,g⟩
   rw[q0a,hls.1,q0T]
   exact hN _ _ ⟨_,rfl,g⟩
 rintro σ H1 ⟨s5,rfl,g1⟩
 have hbb:∀r∈bs,intBits (v r p)≤b∧0<hg m (v r) (v sp):=fun r hr=>⟨(hB r hr).way p pm,hW.2 r hr⟩
 have hbt:intBits (z3Q m p sp bs)≤b+L+1:=z6k spos (z1a sb m) bs 1 hbb (by decide) (q0m (show intBits 1≤1 by decide) (by lia))
 have hq1:=g1 _ _ hq
 refine z0x (fun σ H'=>∃D s5,H1 D=none∧σ=[some (.ref lb),some (.ref q'),some (.int (p:Nat)),some (.int sg),some (.int (z3Q m p sp bs)),s5,some (.ref D)]∧Same H1 H'∧H' D=some (.lst ((sp.map fun n=>z3Q m p sp bs*n).map V.int))) (fun N hN=>?_) ?_
 ·refine⟨_,rfl,q',rfl,⟨_,SqL.of hq1⟩,fun D hD=>?_⟩
  refine z1L rfl (z0r K q' (sp.map V.int)) hD (fun _=>true) (fun x=>match x with| .int n=> .int (z3Q m p sp bs*n)|u=>u) (fun H' g'=>SqL.of (g' _ _ hq1)) (z0h (by rw[q0a];lia)) ?_ ?_ ?_
  ·intro x hx Hc gc S h
   exact h
  ·intro x hx _ Hc gc S h
   obtain⟨n,hn,rfl⟩:=q0f.mp hx
   exact⟨_,rfl,_,rfl,_,_,rfl,rfl,z2x hbt (sb n hn),h⟩
  rw[z0z,q0K]
  refine hN _ _ ⟨D,_,hD,rfl,z0e hD _,?_⟩
  rw[z0b,q0K];rfl
 rintro σ H2 ⟨D,s5,hD1,rfl,g2,eD⟩
 have g12:=g1.trans g2
 have hDn:=g1.free hD1
 refine z0x (fun σ H'=>σ=[some (.ref lb),some (.ref q'),some (.int (p:Nat)),some (.int sg),some (.int (z3Q m p sp bs)),s5,some (.ref D)]∧Same H H'∧H' D=some (.lst ((z7r m p sg sp bs).map V.int))) (fun N hN=>?_) ?_
 ·have hat:atI ((sp.map fun n=>z3Q m p sp bs*n).map V.int) ((p:Nat):Int)=some (.int (z3Q m p sp bs*v sp p)):=by
   rw[y5h (by rw[q0a];lia),z8o]
  refine⟨_,rfl,_,rfl,D,_,_,_,rfl,rfl,SqL.of eD,hat,_,rfl,_,rfl,_,rfl,q',_,_,_,rfl,rfl,SqL.of (g12 _ _ hq'),z2v _ _,_,_,rfl,rfl,z2x (m:=1) (by rcases hsg with rfl|rfl<;>decide) (z1a sb m),_,_,rfl,rfl,?_⟩
  refine⟨_,rfl,_,rfl,D,_,_,p,rfl,rfl,eD,z4x (by rw[q0a,q0a];lia),?_⟩
  refine hN _ _ ⟨rfl,fun b' o e=>by rw[z0i (z0f e hDn)];exact g12 _ _ e,?_⟩
  rw[z0b]
  unfold z7r
  rw[List.map_set]
 rintro σ H3 ⟨rfl,g3,eD3⟩
 have hlen:(z7r m p sg sp bs).length =m+1:=by rw[y0I,sl]
 have snz:∃n∈z7r m p sg sp bs,n≠0:=by
  refine z1F (j:=m) ?_
  rw[y0H (by lia),if_neg (by lia),q1m]
  have bt1:1≤z3Q m p sp bs:=(z7k bs 1).1
  exact q1g (by lia) (by lia)
 exact⟨_,rfl,D,_,rfl,eD3,by lia,snz,fun n hn=>z0s (z8s hsg sl pm spos sb hbb n hn) (by lia),fun r2 H4 hr2 g4 e4=>q r2 H4 (g3.free hr2) (g3.trans g4) e4⟩
end
end L2
namespace L2
open PySem PySem.Spec PyProof.Rows
section
open Fr Wl Rk Pt Ld
open Builtin.Int (intBits)
variable {P:Program}{w:World}{K:PySem.W.Frag}{mg:Str→Option Value}{base:Heap}{f:Addr}{fd:FuncData}
def Sb:Nat→Nat→Nat→Nat
 |0,_,_=>1
 |m+1,b,c=>b+2*(max b c+Sb m (2*b+1) (b+c+1)+m+3)+4
def z6S:Nat→Nat→Nat→Bool
 |0,b,c=>decide (b≤2000)&&decide (c≤2000)
 |m+1,b,c=>decide (b≤2000)&&decide (c≤2000)&&decide (Sb (m+1) b c≤12000)&&z6S m (2*b+1) (b+c+1)
theorem y3d (m b c:Nat):1≤Sb m b c:=by
 cases m with
 |zero=>exact Nat.le_refl _
 |succ m=>rw[Sb];lia
theorem z4v {m b c:Nat} (h:z6S m b c=true):b≤2000∧c≤2000:=by
 cases m with
 |zero=>unfold z6S at h;simpa using h
 |succ m=>unfold z6S at h;simp only[Bool.and_eq_true,decide_eq_true_eq] at h;exact h.1.1
theorem z5Z {m b c:Nat} (h:z6S (m+1) b c=true):Sb (m+1) b c≤12000∧z6S m (2*b+1) (b+c+1)=true:=by
 unfold z6S at h;simp only[Bool.and_eq_true,decide_eq_true_eq] at h;exact⟨h.1.2,h.2⟩
theorem z8c {m b c:Nat} (h:z6S m b c=true):Sb m b c≤12000:=by
 cases m with
 |zero=>show 1≤12000;decide
 |succ m=>exact (z5Z h).1
abbrev z1s:Stmt:=top 26
theorem sc_spot_across:z0u ["ways","bounds","bound","row","found"] ["ways","bounds","bound"] (z0l z1s):=⟨rfl,rfl,rfl,by decide+kernel,rfl,by decide+kernel,by decide+kernel⟩
abbrev z1r:Stmt:=top 27
theorem sc_spot_within:z0u ["ways","bounds","spot","place","bound"] ["ways","bounds"] (z0l z1r):=⟨rfl,rfl,rfl,by decide+kernel,rfl,by decide+kernel,by decide+kernel⟩
abbrev y7W (m:Nat) (bs:List (List Int)) (k:Nat) (H:Hp) (Q:VK):Prop:=
 (∀(r:Addr) (s:List Int) (H':Hp),H r=none→Same H H'→H' r=some (.lst (s.map V.int))→Win m bs s→(∀n∈s,intBits n≤k)→Q (.ref r) H')∧(∀H',Same H H'→¬Pw m bs→Q .non H')
def z7x (K:PySem.W.Frag) (k:Nat):Sp:=fun vs H Q _=>∃(m:Nat) (l:Addr) (as:List Addr) (bs:List (List Int)) (b c:Nat),k=m+1∧vs=[.int (m:Nat),.ref l]∧H l=some (.lst (as.map V.ref))∧LsA H as bs∧(∀r∈bs,Bd m b c r)∧z6S m b c=true∧m≤5∧bs.length≤100∧y7W m bs (Sb m b c) H Q
def z7z (K:PySem.W.Frag) (k:Nat):Sp:=fun vs H Q _=>∃(m:Nat) (l ab:Addr) (as:List Addr) (bs:List (List Int)) (bd s0:List Int) (b c:Nat),k=m+1∧vs=[.int (m:Nat),.ref l,.ref ab]∧H l=some (.lst (as.map V.ref))∧LsA H as bs∧H ab=some (.lst (bd.map V.int))∧(∀r∈bs,Bd m b c r)∧Bd m b c bd∧z6S m b c=true∧m≤5∧bs.length≤100∧Win m bs s0∧hg m (v bd) (v s0)≤0∧y7W m (bs++[bd]) (Sb m b c) H Q
theorem y4Q (T:Txt mg) (F:Fun K "spot_across" "spot_across" z1s f fd) (n:Nat) (c_turned:Cal P w K mg base (6+2*n) "turned" ["numbers","sign"] (z1O K)) (c_lead:Cal P w K mg base (6+2*n) "lead" ["bound"] (z6w K)) (c_drawn:Cal P w K mg base (6+2*n) "drawn" ["rows","numbers"] (z3X K)) (c_stepped:Cal P w K mg base (6+2*n) "stepped" ["bounds","spot","place","sign"] (z3V K)) (c_lifted:Cal P w K mg base (6+2*n) "lifted" ["rows","spot"] (z2N K)) (c_first_place:Cal P w K mg base (6+2*n) "first_place" ["row"] (z2g K)) (c_spot_within:Cal P w K mg base (6+2*n) "spot_within" ["ways","bounds"] (z7x K n)):FnOk P w K mg base CX0 (6+2*n+1) f fd ["ways","bounds","bound"] (z7z K (n+1)):=by
 refine F.ok sc_spot_across (fun vs H Q E h=>?_) (fun cdv A outer s H vs Q E hr h=>?_)
 ·obtain⟨_,_,_,_,_,_,_,_,_,_,rfl,_⟩:=h;rfl
 obtain⟨m,l,ab,as,bs,bd,s0,b,c,hk,rfl,hl,hls,hab,hB,hbd,hlim,m5,n100,hW0,hh0,q1,q2⟩:=h
 obtain rfl:n=m:=by lia
 refine⟨_,(z0d (z1k (z5b (z3x (z0A (z3c (K:=K) rfl rfl) rfl T.any boot_any (z0a (z1t (z1P (K:=K) rfl) (pv 2) z1W (z1V (z1Z z1d z0j))) z0c)))) (z0g (z0v z3A)) z0E)
  (z0d (z0q (i:=3) sc_spot_across.nd rfl (Or.inr rfl) (z0p c_turned hr rfl (z0a (pv 2) (z0a (z0p c_lead hr rfl (z0a (pv 2) z0c)) z0c))))
  (z0d (z0q (i:=4) sc_spot_across.nd rfl (Or.inl rfl) (z0p c_spot_within hr rfl (z0a (z0y z4r (pv 0) z0j) (z0a (z0H (Nc:=["other","row"]) (fr:=[none,some 3]) rfl (z0w (K:=K) rfl (pv 1)) rfl (by decide) rfl (by decide) rfl ⟨rfl,trivial⟩ ⟨⟨rfl,rfl,rfl,rfl⟩,trivial⟩ (fun _ _ _ _=>(z0k (i:=0) (show List.Nodup (["other","row"]:List Str) from by decide) rfl (Or.inl rfl))) (fun _ _ _ _=>z0I) (fun _ _ _ _=>(z0p c_drawn hr rfl (z0a (z0K (z0a (pv 1) z0c)) (z0a (pv 0) z0c))))) z0c))))
  (z0d (z1k (z3y (z5d (pv 4))) (z0g (z0v z3A)) z0E)
  (z0g (z0v (z0p c_stepped hr rfl (z0a (pv 1) (z0a (z0p c_lifted hr rfl (z0a (z0K (z0a (pv 3) z0c)) (z0a (pv 4) z0c))) (z0a (z0p c_first_place hr rfl (z0a (pv 2) z0c)) (z0a (z0p c_lead hr rfl (z0a (pv 2) z0c)) z0c))))))))))),?_⟩
 have bl:=hbd.len
 obtain⟨b2,c2⟩:=z4v hlim
 have bb:∀n∈bd,intBits n≤2000:=fun n hn=>z0s (hbd.all n hn) (by lia)
 obtain⟨ns,x,eb⟩:∃a' x,bd=a'++[x]:=⟨bd.dropLast,bd.getLast (fun z=>by rw[z] at bl;simp at bl),(q0Q _).symm⟩
 have nsl:ns.length=n:=by rw[eb,q0k] at bl;simpa using bl
 have hab':H ab=some (.lst (ns.map V.int++[V.int x])):=by rw[hab,eb,q0r];rfl
 have vns:∀j,j<n→v bd j=v ns j:=fun j hj=>by
  show bd.getD j 0=ns.getD j 0
  rw[eb,q0b,q0b,q0D (by lia)]
 refine z0x (fun σ H'=>σ=[some (.int (n:Nat)),some (.ref l),some (.ref ab),none,none]∧Same H H'∧fp bd<n) (fun N hN=>?_) ?_
 ·refine⟨_,rfl,_,rfl,_,rfl,ab,_,rfl,SqL.of hab',fun z hz=>?_⟩
  rw[z2t]
  have g1:=z0e hz (.lst (ns.map V.int))
  refine⟨z,_,rfl,.inl (SqL.of z0b),z2r ns,_,rfl,?_⟩
  by_cases hnz:∃n∈ns,n≠0
  ·rw[(z2b ns).mpr hnz]
   refine z5i ?_
   refine hN _ _ ⟨rfl,g1,?_⟩
   obtain⟨n',h1,h2⟩:=hnz
   obtain⟨j,hj,e⟩:=y1S h1
   refine q0p fun cc=>h2 ?_
   rw[←e,←vns j (by lia)]
   exact z0Z (by lia)
  ·have h0:(ns.map V.int).any trV=false:=by
        cases z:(ns.map V.int).any trV with
        |false=>rfl
        |true=>exact absurd ((z2b ns).mp z) hnz
   rw[h0]
   refine z5h ?_
   refine q2 _ g1 (y2v (s0:=s0) (fun j hj=>?_) hW0.1 hh0)
   rw[vns j hj]
   exact q0p fun hc=>hnz (z1F hc)
 rintro σ H1 ⟨rfl,g1,hfp⟩
 obtain⟨m,rfl⟩:∃k,n=k+1:=⟨n - 1,by lia⟩
 obtain⟨hS,hlim'⟩:=z5Z hlim
 have bnz:∃n∈bd,n≠0:=z6P (by lia)
 have ft:=z3s bnz (z0O bd)
 have hBt:=hbd.turn (z0O bd)
 have tnz:∃n∈z0o (ldL bd) bd,n≠0:=z1F (j:=fp bd) (by rw[z1i];have:=z2B bnz;lia)
 have tpos:0<v (z0o (ldL bd) bd) (fp (z0o (ldL bd) bd)):=by rw[z1i,ft];exact z2B bnz
 have hrl:∀u∈bs,u.length=m+2:=fun u hu=>(hB u hu).len
 refine z0x (fun σ H'=>∃ar,σ=[some (.int ((m+1:Nat):Int)),some (.ref l),some (.ref ab),some (.ref ar),none]∧Same H H'∧H' ar=some (.lst ((z0o (ldL bd) bd).map V.int))) (fun N hN=>?_) ?_
 ·refine⟨_,rfl,_,rfl,ab,bd,rfl,g1 _ _ hab,by lia,bnz,fun H2 g2=>?_⟩
  exact⟨ab,bd,ldL bd,rfl,.inl (SqL.of ((g1.trans g2) _ _ hab)),by lia,z0O bd,fun n hn=>z0s (bb n hn) (by decide),fun r H' hr g' e'=>hN _ _ ⟨r,rfl,g1.trans (g2.trans g'),e'⟩⟩
 clear g1
 rintro σ H1 ⟨ar,rfl,g1,ear⟩
 have hl1:=g1 _ _ hl
 have hls1:=hls.same g1
 refine z0x (fun σ H'=>Same H H'∧((∃rf fs,σ=[some (.int ((m+1:Nat):Int)),some (.ref l),some (.ref ab),some (.ref ar),some (.ref rf)]∧H' rf=some (.lst (fs.map V.int))∧H' ar=some (.lst ((z0o (ldL bd) bd).map V.int))∧Win m (bs.map (drR (z0o (ldL bd) bd))) fs∧∀n∈fs,intBits n≤Sb m (2*b+1) (b+c+1))∨(σ=[some (.int ((m+1:Nat):Int)),some (.ref l),some (.ref ab),some (.ref ar),some .non]∧¬Pw m (bs.map (drR (z0o (ldL bd) bd)))))) (fun N hN=>?_) ?_
 ·refine⟨_,rfl,_,_,rfl,rfl,_,rfl,l,rfl,⟨_,SqL.of hl1⟩,fun D hD=>?_⟩
  refine z3t rfl (z0r K l (as.map V.ref)) hD (fun _=>true) (fun H' x u=>∃(a:Addr) (t:List Int) (p:Addr),x=V.ref a∧u=V.ref p∧H1 a=some (.lst (t.map V.int))∧H' p=some (.lst ((drR (z0o (ldL bd) bd) t).map V.int))∧p≠D) ?_ (fun H' g'=>SqL.of (g' _ _ hl1)) (z0h (by rw[q0a,hls.1];lia)) ?_ ?_ ?_
  ·rintro H2 H3 x u k ⟨acc,hd⟩ ⟨a,t,p,e1,e2,e3,e4,e5⟩
   exact⟨a,t,p,e1,e2,e3,k _ _ e5 e4,e5⟩
  ·intro x hx Hc gc S h
   exact h _ (Same.refl _)
  ·rintro x hx _ Hc gc ⟨acc,hacc⟩ S h
   obtain⟨a,ha,rfl⟩:=q0f.mp hx
   obtain⟨i,hi,rfl⟩:=q0B.mp ha
   have hi2:i<bs.length:=by rw[←hls.1];exact hi
   have hc:=hls1.2 i _ _ (q0c hi) (q0c hi2)
   have htm:bs[i]∈bs:=q0z hi2
   generalize bs[i]=t at hc htm
   have hBr:=hB t htm
   refine⟨_,rfl,z0h (by show 1≤_;decide),fun z hz=>?_⟩
   have g2:=z0e hz (.lst [V.ref ar])
   refine⟨_,rfl,z,_,ar,z0o (ldL bd) bd,t,2000,rfl,z0b,g2 _ _ (gc _ _ ear),.inl (SqL.of (g2 _ _ (gc _ _ hc))),by rw[hBr.len,hBt.len],by rw[hBt.len];lia,tnz,fun n hn=>z0s (hBt.all n hn) (by lia),fun n hn=>z0s (hBr.all n hn) (by lia),by decide,fun r H3 hr3 _ g3 e3=>?_⟩
   exact h _ _ (g2.trans g3) ⟨_,t,r,rfl,rfl,hc,e3,fun z=>by rw[z] at hr3;have:=g2 _ _ hacc;rw[hr3] at this;cases this⟩
  ·intro us H2 g2 hD2 he
   rw[z0z] at he
   obtain⟨as1,rfl,hL1,hL2⟩:=z2Z (G:= .lst) (F:= .lst) (g:=drR (z0o (ldL bd) bd)) (fun xs ys h=>by injection h) hls1.1 hls1.2 (he.imp fun x u ⟨a,t,p,e1,e2,e3,e4,_⟩=>⟨a,t,p,e1,e2,e3,e4⟩)
   refine⟨m,D,as1,bs.map (drR (z0o (ldL bd) bd)),2*b+1,b+c+1,rfl,?_,hD2,⟨hL1,hL2⟩,fun r hr=>?_,hlim',by lia,by rw[q0a];lia,fun rf fs H3 hrf g3 erf hWf hbf=>?_,fun H3 g3 hno=>?_⟩
   ·show [V.int _,V.ref D]=_
    congr 2
    lia
   ·obtain⟨u,hu,rfl⟩:=q0f.mp hr
    exact hBt.draw (hB u hu) (by lia) tnz
   ·exact hN _ _ ⟨g1.trans (g2.trans g3),.inl ⟨rf,fs,rfl,erf,(g2.trans g3) _ _ ear,hWf,hbf⟩⟩
   ·exact hN _ _ ⟨g1.trans (g2.trans g3),.inr ⟨rfl,hno⟩⟩
 clear g1 hl1 hls1 ear
 rintro σ H1 ⟨g1,⟨rf,fs,rfl,erf,ear,hWf,hbf⟩|⟨rfl,hno⟩⟩
 ·refine z0x (fun σ H'=>σ=[some (.int ((m+1:Nat):Int)),some (.ref l),some (.ref ab),some (.ref ar),some (.ref rf)]∧H1=H') (fun N hN=>?_) ?_
  ·refine⟨_,rfl,_,rfl,?_⟩
   refine z5i ?_
   exact hN _ _ ⟨rfl,rfl⟩
  rintro σ H1' ⟨rfl,rfl⟩
  obtain⟨w1,w2,w3⟩:=z8j (w:=m) bl hrl (by lia) hWf
  have e0:Sb (m+1) b c=b+2*(max b c+Sb m (2*b+1) (b+c+1)+m+3)+4:=rfl
  have hub:=z7w hBt (by rw[ft];lia) hWf.1.1 hbf
  have hw:=y0A (t:=z0o (ldL bd) bd) (by rw[ft];lia) hBt.len tpos hrl hWf
  have hlb:=z5Y (z1F (j:=m+1) (by have:=hw.1.2;lia)) hub
  refine⟨_,rfl,_,rfl,z0h (by show 1≤_;decide),fun z hz=>?_⟩
  have g2:=z0e hz (.lst [V.ref ar])
  have e2:upd H1 z (.lst [V.ref ar]) z=some (.lst [V.ref ar]):=z0b
  generalize upd H1 z (.lst [V.ref ar])=H2 at*
  refine⟨_,rfl,z,rf,ar,z0o (ldL bd) bd,fs,m,b,c,Sb m (2*b+1) (b+c+1),rfl,e2,g2 _ _ ear,g2 _ _ erf,hBt,by rw[ft];lia,tpos,hWf.1.1,⟨m,by have:=hWf.1.2;lia⟩,hbf,b2,c2,by lia,by lia,fun r3 H3 hr3 g3 e3=>?_⟩
  have g13:=g1.trans (g2.trans g3)
  refine⟨_,rfl,ab,bd,rfl,.inl (SqL.of (g13 _ _ hab)),by lia,bnz,fun H4 g4=>?_⟩
  have g14:=g13.trans g4
  refine⟨_,rfl,ab,bd,rfl,g14 _ _ hab,by lia,bnz,fun H5 g5=>?_⟩
  have g15:=g14.trans g5
  refine⟨l,r3,as,bs,z4u (upL (m+1) (z0o (ldL bd) bd) fs),fp bd,ldL bd,m+1,b,c,max b c+Sb m (2*b+1) (b+c+1)+m+3,rfl,g15 _ _ hl,hls.same g15,(g4.trans g5) _ _ e3,hB,w1,hfp,z0O bd,hlb,b2,c2,by lia,by lia,n100,fun r6 H6 hr6 g6 e6=>?_⟩
  refine q1 r6 _ H6 (g15.free hr6) (g15.trans g6) e6 w3 ?_
  have snz:∃n∈z7r (m+1) (fp bd) (ldL bd) (z4u (upL (m+1) (z0o (ldL bd) bd) fs)) bs,n≠0:=by
   refine z1F (j:=m+1) ?_
   rw[y0H (by rw[w1.1.1];lia),if_neg (by lia),q1m]
   have bt1:1≤z3Q (m+1) (fp bd) (z4u (upL (m+1) (z0o (ldL bd) bd) fs)) bs:=(z7k bs 1).1
   have:=w1.1.2
   exact q1g (by lia) (by lia)
  exact fun n hn=>z0s (z5Y snz (z8s (z0O bd) w1.1.1 hfp w1.1.2 hlb fun r hr=>⟨(hB r hr).way _ hfp,w1.2 r hr⟩) n hn) (by lia)
 ·refine z0x (fun σ H'=>False) (fun N hN=>?_) (fun _ _ h=>h.elim)
  refine⟨_,rfl,_,rfl,?_⟩
  refine z5h ?_
  exact q2 _ g1 (z8k bl hrl (by lia) hW0 hh0 hno)
end
end L2
namespace L2
open PySem PySem.Spec PyProof.Rows
section
open Fr Wl Rk Pt Ld
open Builtin.Int (intBits)
variable {P:Program}{w:World}{K:PySem.W.Frag}{mg:Str→Option Value}{base:Heap}{f:Addr}{fd:FuncData}
def z2w (m:Nat):List Int:=List.replicate m 0++[1]
theorem z6o (m:Nat):Spt m (z2w m):=by
 refine⟨by unfold z2w;simp,?_⟩
 show 0<(z2w m).getD m 0
 unfold z2w
 rw[q0b,q0v (by simp),q1c,q1y]
 decide
theorem z4S (m:Nat):∀n∈z2w m,intBits n≤1:=fun n hn=>by
 unfold z2w at hn
 rcases q0I.mp hn with h|h
 ·rw[(List.mem_replicate.mp h).2];decide
 ·rw[q0g.mp h];decide
theorem z3g (m:Nat):(List.replicate m [V.int 0]).flatten =(List.replicate m (0:Int)).map V.int:=by
 induction m with
 |zero=>rfl
 |succ m ih=>rw[List.replicate_succ,List.flatten_cons,ih,List.replicate_succ];rfl
theorem y7s (T:Txt mg) (F:Fun K "spot_within" "spot_within" z1r f fd) (n:Nat) (c_height:Cal P w K mg base (7+2*n) "height" ["bound","spot"] (z1q K)) (c_spot_across:Cal P w K mg base (7+2*n) "spot_across" ["ways","bounds","bound"] (z7z K (n+1))):FnOk P w K mg base CX0 (7+2*n+1) f fd ["ways","bounds"] (z7x K (n+1)):=by
 refine F.ok sc_spot_within (fun vs H Q E h=>?_) (fun cdv A outer s H vs Q E hr h=>?_)
 ·obtain⟨_,_,_,_,_,_,_,rfl,_⟩:=h;rfl
 obtain⟨m,l,as,bs,b,c,hk,rfl,hl,hls,hB,hlim,m5,n100,q1,q2⟩:=h
 obtain rfl:n=m:=by lia
 refine⟨_,(z0d (z0q (i:=2) sc_spot_within.nd rfl (Or.inl rfl) (z0y z2z (z0y z6K (z0K (z0a z0j z0c)) (pv 0)) (z0K (z0a z0j z0c))))
  (z0d (z0W PassesOwn.never rfl (z5O (K:=K) rfl rfl T.enumerate (z0a (pv 1) z0c)) (z0Q (K:=K) rfl 2 rfl (z0t (z0k (i:=3) sc_spot_within.nd rfl (Or.inl rfl)) (z0t (z0k (i:=4) sc_spot_within.nd rfl (Or.inl rfl)) z0P))) (z0g (z1k (z0D op_le (z0p c_height hr rfl (z0a (pv 4) (z0a (pv 2) z0c))) z0j (z0M _)) (z0d (z0q (i:=2) sc_spot_within.nd rfl (Or.inl rfl) (z0p c_spot_across hr rfl (z0a (pv 0) (z0a (z1t (z1P (K:=K) rfl) (pv 1) z1W (z1V (pv 3))) (z0a (pv 4) z0c)))))
  (z0g (z1k (z3y (z5d (pv 2))) (z0g (z0v z3A)) z0E))) z0E)))
  (z0g (z0v (pv 2))))),?_⟩
 obtain⟨b2,c2⟩:=z4v hlim
 have hS:=z8c hlim
 refine z0x (fun σ H'=>∃r,H r=none∧σ=[some (.int (n:Nat)),some (.ref l),some (.ref r),none,none]∧Same H H'∧H' r=some (.lst ((z2w n).map V.int))) (fun N hN=>?_) ?_
 ·refine⟨z0h (by show 1≤_;decide),fun z hz=>?_⟩
  have g0:=z0e hz (.lst [V.int 0])
  have e0:upd H z (.lst [V.int 0]) z=some (.lst [V.int 0]):=z0b
  generalize upd H z (.lst [V.int 0])=H0 at*
  refine⟨_,rfl,z,_,_,rfl,rfl,e0,by lia,by lia,z0h (by rw[q0E];show 1*n≤_;lia),fun z1 hz1=>?_⟩
  rw[q0E,z3g]
  have g1:=z0e hz1 (.lst ((List.replicate n (0:Int)).map V.int))
  have e1:upd H0 z1 (.lst ((List.replicate n (0:Int)).map V.int)) z1=some (.lst ((List.replicate n (0:Int)).map V.int)):=z0b
  generalize upd H0 z1 (.lst ((List.replicate n (0:Int)).map V.int))=H1 at*
  refine⟨z0h (by show 1≤_;decide),fun z2 hz2=>?_⟩
  have g2:=z0e hz2 (.lst [V.int 1])
  have e2:upd H1 z2 (.lst [V.int 1]) z2=some (.lst [V.int 1]):=z0b
  generalize upd H1 z2 (.lst [V.int 1])=H2 at*
  refine⟨z1,z2,_,_,rfl,rfl,g2 _ _ e1,e2,z0h (by rw[q0a,q1c];show n+1≤_;lia),fun z3 hz3=>?_⟩
  have g02:=g0.trans (g1.trans g2)
  refine hN _ _ ⟨z3,g02.free hz3,rfl,g02.trans (z0e hz3 _),?_⟩
  rw[z0b]
  unfold z2w
  rw[q0r]
  rfl
 rintro σ H0 ⟨r0,hr0,rfl,g0,e0⟩
 refine z0x (fun σ H'=>∃r sp s3 s4,H r=none∧σ=[some (.int (n:Nat)),some (.ref l),some (.ref r),s3,s4]∧Same H H'∧H' r=some (.lst (sp.map V.int))∧Win n bs sp∧∀n'∈sp,intBits n'≤Sb n b c) (fun N hN=>?_) ?_
 ·refine⟨_,rfl,l,_,rfl,g0 _ _ hl,?_⟩
  refine z0C (z4l K l (as.map V.ref)) (fun i σ H'=>∃r sp s3 s4,H r=none∧σ=[some (.int (n:Nat)),some (.ref l),some (.ref r),s3,s4]∧Same H H'∧H' r=some (.lst (sp.map V.int))∧Win n (bs.take i) sp∧∀n'∈sp,intBits n'≤Sb n b c)
   ⟨r0,z2w n,_,_,hr0,rfl,g0,e0,⟨z6o n,fun b' hb'=>by simp at hb'⟩,fun n' hn'=>z0s (z4S n n' hn') (y3d _ _ _)⟩ (fun i σ H' _ h=>by obtain⟨_,_,_,_,_,_,g,_⟩:=h;exact SqL.of (g _ _ hl)) ?_ ?_
  ·clear e0 g0 hr0
   rintro i x σ H1 H2 hi ⟨r,sp,s3,s4,hr1,rfl,g,er,hW,hb⟩ ⟨pr,vv,rfl,hpr,hvv,rfl⟩
   rw[q0a,hls.1] at hi
   rw[q0h] at hvv
   obtain⟨a,ha,rfl⟩:=q0u.mp hvv
   have et:bs[i]? =some bs[i]:=q0c hi
   have hum:bs[i]∈bs:=q0z hi
   have tk:bs.take (i+1)=bs.take i++[bs[i]]:=by rw[q0R,et];rfl
   generalize bs[i]=bd at et hum tk
   have g2:=z0e hpr (.tup [.int i,.ref a])
   have ep:upd H1 pr (.tup [.int i,.ref a]) pr=some (.tup [.int i,.ref a]):=z0b
   generalize upd H1 pr (.tup [.int i,.ref a])=H2 at*
   have gg2:=g.trans g2
   have hbd:=hB bd hum
   have hab:=gg2 _ _ (hls.2 i a bd ha et)
   refine⟨pr,_,rfl,SqT.of ep,rfl,_,_,rfl,_,_,rfl,rfl,?_⟩
   refine⟨_,rfl,_,rfl,a,r,bd,sp,n,rfl,hab,g2 _ _ er,hbd.len,hW.1.1,by lia,fun n' hn'=>z0s (hbd.all n' hn') (by lia),fun n' hn'=>z0s (hb n' hn') (by lia),fun H3 g3=>?_⟩
   refine⟨_,_,rfl,rfl,_,rfl,?_⟩
   have gg3:=gg2.trans g3
   refine z6c (fun cc=>?_) (fun cc=>?_)
   ·have hle:hg n (v bd) (v sp)≤0:=of_decide_eq_true cc
    refine⟨_,rfl,_,rfl,_,rfl,_,rfl,l,_,rfl,SqL.of (gg3 _ _ hl),fun p1 hp1=>?_⟩
    rw[y2P (by lia) (by rw[q0a,hls.1];lia),q0E,←List.map_take]
    have g4:=z0e hp1 (.lst ((as.take i).map V.ref))
    have e4:upd H3 p1 (.lst ((as.take i).map V.ref)) p1=some (.lst ((as.take i).map V.ref)):=z0b
    generalize upd H3 p1 (.lst ((as.take i).map V.ref))=H4 at*
    have gg4:=gg3.trans g4
    have hls4:LsA H4 (as.take i) (bs.take i):=⟨by rw[q0w,q0w,hls.1],fun j a' t' e1 e2=>by
     have hj:j<i:=by
         have:=(q0H.mp e2).1
         rw[q0w] at this;lia
     rw[q1V hj] at e1 e2
     exact gg4 _ _ (hls.2 j a' t' e1 e2)⟩
    refine⟨_,rfl,n,p1,a,as.take i,bs.take i,bd,sp,b,c,rfl,rfl,e4,hls4,(g3.trans g4) _ _ hab,fun r' hr'=>hB r' (List.mem_of_mem_take hr'),hbd,hlim,m5,by rw[q0w];lia,hW,hle,fun r5 sp5 H5 hr5 g5 er5 hW5 hb5=>?_,fun H5 g5 hno=>?_⟩
    ·refine⟨_,rfl,_,rfl,?_⟩
     refine z5i ?_
     exact⟨r5,sp5,_,_,gg4.free hr5,rfl,gg4.trans g5,er5,by rw[tk];exact hW5,hb5⟩
    ·refine⟨_,rfl,_,rfl,?_⟩
     refine z5h ?_
     refine q2 _ (gg4.trans g5) fun hp=>hno ?_
     rw[←tk]
     exact Pw.less (cs:=bs.drop (i+1)) (by rw[q1M];exact hp)
   ·have hgt:¬hg n (v bd) (v sp)≤0:=fun z=>cc (decide_eq_true z)
    refine⟨r,sp,_,_,hr1,rfl,gg3,(g2.trans g3) _ _ er,⟨hW.1,fun b' hb'=>?_⟩,hb⟩
    rw[tk] at hb'
    rcases q0I.mp hb' with h|h
    ·exact hW.2 b' h
    ·rw[q0g.mp h];lia
  ·rintro σ H1 ⟨r,sp,s3,s4,hr1,rfl,g,er,hW,hb⟩
   rw[q0a,hls.1,q0T] at hW
   exact hN _ _ ⟨r,sp,_,_,hr1,rfl,g,er,hW,hb⟩
 clear e0 g0 hr0
 rintro σ H1 ⟨r,sp,s3,s4,hr1,rfl,g,er,hW,hb⟩
 exact⟨_,rfl,q1 r sp H1 hr1 g er hW hb⟩
theorem z5T {fa:Addr}{fda:FuncData} (T:Txt mg) (Fa:Fun K "spot_across" "spot_across" z1s fa fda) (ba:Binds K fda ["ways","bounds","bound"] []) (ka:PySem.W.keepIn K (.ref fa)=true) (ma:mg "spot_across"=some (.ref fa))
 (F:Fun K "spot_within" "spot_within" z1r f fd) (bw:Binds K fd ["ways","bounds"] []) (kw:PySem.W.keepIn K (.ref f)=true) (mw:mg "spot_within"=some (.ref f))
 (c_turned:Cal P w K mg base 5 "turned" ["numbers","sign"] (z1O K)) (c_lead:Cal P w K mg base 5 "lead" ["bound"] (z6w K)) (c_drawn:Cal P w K mg base 5 "drawn" ["rows","numbers"] (z3X K)) (c_stepped:Cal P w K mg base 5 "stepped" ["bounds","spot","place","sign"] (z3V K)) (c_lifted:Cal P w K mg base 5 "lifted" ["rows","spot"] (z2N K)) (c_first_place:Cal P w K mg base 5 "first_place" ["row"] (z2g K)) (c_height:Cal P w K mg base 5 "height" ["bound","spot"] (z1q K)):
 ∀n,FnOk P w K mg base CX0 (6+2*n) f fd ["ways","bounds"] (z7x K n)∧FnOk P w K mg base CX0 (6+2*n+1) fa fda ["ways","bounds","bound"] (z7z K (n+1))
 |0=>by
  have cw:FnOk P w K mg base CX0 (6+2*0) f fd ["ways","bounds"] (z7x K 0):=⟨fun _ _ _ _ h=>by obtain⟨_,_,_,_,_,_,e,_⟩:=h;lia,fun _ _ _ _ _ _ _ _ _ _ _ _ _ h=>by obtain⟨_,_,_,_,_,_,e,_⟩:=h;lia⟩
  exact⟨cw,y4Q T Fa 0 (c_turned.mono (by lia)) (c_lead.mono (by lia)) (c_drawn.mono (by lia)) (c_stepped.mono (by lia)) (c_lifted.mono (by lia)) (c_first_place.mono (by lia)) ⟨f,fd,cw,bw,kw,mw⟩⟩
 |n+1=>by
  obtain⟨_,ha⟩:=z5T T Fa ba ka ma F bw kw mw c_turned c_lead c_drawn c_stepped c_lifted c_first_place c_height n
  have e7:6+2*n+1=7+2*n:=by lia
  have ha':Cal P w K mg base (7+2*n) "spot_across" ["ways","bounds","bound"] (z7z K (n+1)):=⟨fa,fda,by rw[←e7];exact ha,ba,ka,ma⟩
  have hw:=y7s T F n (c_height.mono (by lia)) ha'
  have e8:7+2*n+1=6+2*(n+1):=by lia
  rw[e8] at hw
  exact⟨hw,y4Q T Fa (n+1) (c_turned.mono (by lia)) (c_lead.mono (by lia)) (c_drawn.mono (by lia)) (c_stepped.mono (by lia)) (c_lifted.mono (by lia)) (c_first_place.mono (by lia)) ⟨f,fd,hw,bw,kw,mw⟩⟩
end
end L2
namespace L2
open PySem PySem.Spec PyProof.Rows
section
open Fr Wl Rk Pt Ld
open Builtin.Int (intBits)
variable {P:Program}{w:World}{K:PySem.W.Frag}{mg:Str→Option Value}{base:Heap}{f:Addr}{fd:FuncData}
abbrev z2C:Stmt:=top 28
theorem z6C:z0u ["walls","signs"] ["walls","signs"] (z0l z2C):=⟨rfl,rfl,rfl,by decide+kernel,rfl,by decide+kernel,by decide+kernel⟩
def z3H (K:PySem.W.Frag):Sp:=fun vs H Q _=>∃(l q:Addr) (as:List Addr) (ts:List (List Int)) (sg:List Int),vs=[.ref l,.ref q]∧H l=some (.lst (as.map V.ref))∧TsA H as ts∧H q=some (.tup (sg.map V.int))∧ts.length=sg.length∧Sgn sg∧ts.length≤100∧(∀t∈ts,t.length≤100∧∀n∈t,intBits n≤13000)∧
 ∀(r:Addr) (bs:List Addr) (H':Hp),H r=none→Same H H'→H' r=some (.lst (bs.map V.ref))→LsA H' bs (bdL ts sg)→Q (.ref r) H'
theorem z6M (T:Txt mg) (F:Fun K "bounds_at" "bounds_at" z2C f fd) (c_turned:Cal P w K mg base 1 "turned" ["numbers","sign"] (z1O K)):FnOk P w K mg base CX0 2 f fd ["walls","signs"] (z3H K):=by
 refine F.ok z6C (fun vs H Q E h=>?_) (fun cdv A outer s H vs Q E hr h=>?_)
 ·obtain⟨_,_,_,_,_,rfl,_⟩:=h;rfl
 obtain⟨l,q',as,ts,sg,rfl,hl,hts,hq,hlen,hsg,n100,zt,q⟩:=h
 refine⟨_,(z0g (z0v (z0H (Nc:=["numbers","sign"]) (fr:=[none,none]) rfl (z7N (K:=K) rfl rfl T.zip (z0a (pv 0) (z0a (pv 1) z0c))) rfl (by decide) rfl (by decide) rfl trivial trivial (fun _ _ _ _=>(z0Q (K:=K) rfl 2 rfl (z0t (z0k (i:=0) (show List.Nodup (["numbers","sign"]:List Str) from by decide) rfl (Or.inl rfl)) (z0t (z0k (i:=1) (show List.Nodup (["numbers","sign"]:List Str) from by decide) rfl (Or.inl rfl)) z0P)))) (fun _ _ _ _=>z0I) (fun _ _ _ _=>(z0p c_turned hr rfl (z0a (pv 0) (z0a (pv 1) z0c))))))),?_⟩
 refine⟨_,rfl,_,rfl,l,q',true,false,_,_,rfl,SqL.of hl,SqT.of hq,fun D hD=>?_⟩
 have dl:(as.zip (ts.zip sg)).length =ts.length:=by rw[q1h,q1h,hts.1];lia
 refine y0j (as.zip (ts.zip sg)) (by rw[q1h,q0a,q0a,hts.1,dl];lia) (z4k K true false l q' (as.map V.ref) (sg.map V.int)) hD (fun d=>(V.ref d.1,V.int d.2.2)) ?_ (fun _=>true) (fun H' d u=>∃p,u= .ref p∧p≠D∧H' p=some (.lst ((z0o d.2.2 d.2.1).map V.int))) ?_ ?_ (fun H' g'=>⟨SqL.of (g' _ _ hl),SqT.of (g' _ _ hq)⟩) (z0h (by rw[q1h,q0a,q0a,hts.1];lia)) ?_ ?_ ?_
 ·intro i c d hc hd
  rw[q0Z] at hc hd
  obtain⟨c1,c2⟩:=hc
  obtain⟨d1,d2⟩:=hd
  rw[q0Z] at d2
  rw[q0h] at c1 c2
  rw[d1] at c1
  rw[d2.2] at c2
  obtain⟨u,v⟩:=c
  have h1:V.ref d.1=u:=Option.some.inj c1
  have h2:V.int d.2.2=v:=Option.some.inj c2
  rw[h1,h2]
 ·rintro H2 H3 d u k _ ⟨p,e1,e2,e3⟩
  exact⟨p,e1,e2,k _ _ e2 e3⟩
 ·intro p u v σ H hp S h
  exact⟨p,_,rfl,SqT.of hp,rfl,_,_,rfl,_,_,rfl,rfl,h⟩
 ·intro d hd Hc gc S h
  exact h _ (Same.refl _)
 ·rintro d hd _ Hc gc ⟨acc,hacc⟩ S h
  obtain⟨i,hi⟩:=q1N.mp hd
  rw[q0Z] at hi
  obtain⟨d1,d2⟩:=hi
  rw[q0Z] at d2
  have ha:=hts.2 i d.1 d.2.1 d1 d2.1
  have hm:=zt _ (q0A d2.1)
  have hs:=hsg _ (q0A d2.2)
  refine⟨_,rfl,_,rfl,d.1,d.2.1,d.2.2,rfl,.inr (SqT.of (gc _ _ ha)),hm.1,hs,hm.2,fun r H' hr g' e'=>?_⟩
  exact h _ _ g' ⟨r,rfl,fun z=>(by rw[z,hacc] at hr;cases hr),e'⟩
 ·intro us H1 g1 hD1 he
  rw[z0z] at he
  obtain⟨bs,hbs⟩:∃bs:List Addr,us=bs.map V.ref:=by
   clear hD1
   generalize as.zip (ts.zip sg)=ds at he
   induction he with
   |nil=>exact⟨[],rfl⟩
   |cons h1 _ ih=>
    obtain⟨p,rfl,_⟩:=h1
    obtain⟨bs,rfl⟩:=ih
    exact⟨p::bs,rfl⟩
  subst hbs
  refine q D bs H1 hD g1 hD1 ⟨?_,fun i a t ea et=>?_⟩
  ·have:=he.length
   rw[dl,q0a] at this
   unfold bdL
   rw[q1J];lia
  ·unfold bdL at et
   rw[List.getElem?_zipWith] at et
   have hi:i<ts.length:=by
        have:=(q0H.mp ea).1
        have h2:=he.length
        rw[dl,q0a] at h2
        lia
   have e1:ts[i]? =some ts[i]:=q0c hi
   have e2:sg[i]? =some (sg[i]'(by lia)):=q0c (by lia)
   have e3:as[i]? =some (as[i]'(by rw[hts.1];exact hi)):=q0c _
   rw[e1,e2] at et
   have hd:(as.zip (ts.zip sg))[i]? =some (as[i]'(by rw[hts.1];exact hi),(ts[i],sg[i]'(by lia))):=by
        rw[q0Z]
        refine⟨e3,?_⟩
        rw[q0Z]
        exact⟨e1,e2⟩
   obtain⟨p,hp,_,h3⟩:=he.get hd (by rw[q0h,ea];rfl)
   cases hp
   rw[←Option.some.inj et]
   exact h3
abbrev z7F:Stmt:=top 8
theorem sc_ratio:z0u ["top","bottom","shared"] ["top","bottom"] (z0l z7F):=⟨rfl,rfl,rfl,by decide+kernel,rfl,by decide+kernel,by decide+kernel⟩
def z4L (t b:Int):List Int:=[t.fdiv (Int.gcd t b:Nat),b.fdiv (Int.gcd t b:Nat)]
def y0R (K:PySem.W.Frag):Sp:=fun vs H Q _=>∃(t b:Int),vs=[.int t,.int b]∧0<b∧intBits t≤13000∧intBits b≤13000∧∀(r:Addr) (H':Hp),H r=none→Same H H'→H' r=some (.tup ((z4L t b).map V.int))→Q (.ref r) H'
theorem y3T (T:Txt mg) (F:Fun K "ratio" "ratio" z7F f fd) (c_divisor:Cal P w K mg base 1 "divisor" ["one","other"] z2O):FnOk P w K mg base CX0 2 f fd ["top","bottom"] (y0R K):=by
 refine F.ok sc_ratio (fun vs H Q E h=>?_) (fun cdv A outer s H vs Q E hr h=>?_)
 ·obtain⟨_,_,rfl,_⟩:=h;rfl
 obtain⟨t,b,rfl,b0,tb,bb,q⟩:=h
 refine⟨_,(z0d (z1k (z0D z4M (pv 1) z0j (z0M _)) (z0g z5M) z0E)
  (z0d (z0q (i:=2) sc_ratio.nd rfl (Or.inl rfl) (z0p c_divisor hr rfl (z0a (pv 0) (z0a (pv 1) z0c))))
  (z0d (z1k (z0D y3P (pv 1) z0j (z0M _)) (z0g (z0q (i:=2) sc_ratio.nd rfl (Or.inl rfl) (z1Z z1d (pv 2)))) z0E)
  (z0g (z0v (z1g (z0a (z0y z3L (pv 0) (pv 2)) (z0a (z0y z3L (pv 1) (pv 2)) z0c)))))))),?_⟩
 have g0:((Int.gcd t b:Nat):Int)≠0:=fun z=>by
  have:=(q2d.mp (Int.ofNat_eq_zero.mp z)).2
  lia
 refine⟨_,rfl,rfl,_,rfl,?_⟩
 refine z6c (fun c=>?_) (fun c=>?_)
 ·have:b=0:=by
   have:=of_decide_eq_true c
   injection this
  lia
 refine⟨_,rfl,_,rfl,t,b,rfl,?_⟩
 refine⟨_,rfl,_,_,rfl,rfl,_,rfl,?_⟩
 refine z6c (fun c2=>?_) (fun c2=>?_)
 ·have:b<0:=of_decide_eq_true c2
  lia
 refine⟨_,rfl,_,rfl,_,_,rfl,rfl,⟨g0,tb⟩,_,rfl,_,rfl,_,_,rfl,rfl,⟨g0,bb⟩,z0h (by show 2≤_;decide),fun r hr=>?_⟩
 exact q r _ hr (z0e hr _) z0b
abbrev z3i:Stmt:=top 31
theorem z7C:z0u ["spot"] ["spot"] (z0l z3i):=⟨rfl,rfl,rfl,by decide+kernel,rfl,by decide+kernel,by decide+kernel⟩
def y0S (K:PySem.W.Frag):Sp:=fun vs H Q _=>∃(p:Addr) (s:List Int) (m:Nat),vs=[.ref p]∧H p=some (.lst (s.map V.int))∧Spt m s∧m≤50∧(∀n∈s,intBits n≤13000)∧
 ∀(r:Addr) (bs:List Addr) (H':Hp),H r=none→Same H H'→H' r=some (.tup (bs.map V.ref))→TsA H' bs (s.dropLast.map fun t=>z4L t (v s m))→Q (.ref r) H'
theorem z7U (T:Txt mg) (F:Fun K "point_of" "point_of" z3i f fd) (c_ratio:Cal P w K mg base 2 "ratio" ["top","bottom"] (y0R K)):FnOk P w K mg base CX0 3 f fd ["spot"] (y0S K):=by
 refine F.ok z7C (fun vs H Q E h=>?_) (fun cdv A outer s H vs Q E hr h=>?_)
 ·obtain⟨_,_,_,rfl,_⟩:=h;rfl
 obtain⟨p,sp,m,rfl,hp,hs,m50,sb,q⟩:=h
 refine⟨_,(z0g (z0v (z0T (z2J (K:=K) rfl) rfl T.tuple boot_tuple (z0a (z0H (Nc:=["top","spot"]) (fr:=[none,some 0]) rfl (z0w (K:=K) rfl (z1t (z1P (K:=K) rfl) (pv 0) z1W (z1V (z1Z z1d z0j)))) rfl (by decide) rfl (by decide) rfl ⟨rfl,trivial⟩ ⟨⟨rfl,rfl,rfl,rfl⟩,trivial⟩ (fun _ _ _ _=>(z0k (i:=0) (show List.Nodup (["top","spot"]:List Str) from by decide) rfl (Or.inl rfl))) (fun _ _ _ _=>z0I) (fun _ _ _ _=>(z0p c_ratio hr rfl (z0a (pv 0) (z0a (z0N (z0F (K:=K) rfl) (pv 1) (z1Z z1d z0j) (fun _ _=>rfl)) z0c))))) z0c)))),?_⟩
 obtain⟨sl,spos⟩:=hs
 obtain⟨s',y,es⟩:∃a' x,sp=a'++[x]:=⟨sp.dropLast,sp.getLast (fun z=>by rw[z] at sl;simp at sl),(q0Q _).symm⟩
 have s'l:s'.length=m:=by rw[es,q0k] at sl;simpa using sl
 have ey:y=v sp m:=by
  show y=sp.getD m 0
  rw[es,q0b,q0v (by lia),s'l,q1y];rfl
 have hp':H p=some (.lst (s'.map V.int++[V.int (v sp m)])):=by rw[hp,←ey,es,q0r];rfl
 have ed:sp.dropLast=s':=by rw[es,List.dropLast_concat]
 refine⟨_,rfl,_,rfl,_,rfl,p,_,rfl,SqL.of hp',fun z hz=>?_⟩
 rw[z2t]
 have g1:=z0e hz (.lst (s'.map V.int))
 have e1:upd H z (.lst (s'.map V.int)) z=some (.lst (s'.map V.int)):=z0b
 generalize upd H z (.lst (s'.map V.int))=H1 at*
 refine⟨z,rfl,⟨_,SqL.of e1⟩,fun D hD=>?_⟩
 refine z0G s' (by rw[q0a]) (z0r K z (s'.map V.int)) hD (fun n σ=>σ.set 0 (some (.int n))) (fun d e σ=>q1Z ..) (fun _=>true) (fun H' n u=>∃q,u= .ref q∧H' q=some (.tup ((z4L n (v sp m)).map V.int))) ?_ (fun H' g'=>SqL.of (g' _ _ e1)) (z0h (by rw[q0a];lia)) ?_ ?_ ?_ ?_
 ·rintro H2 H3 d u k ⟨acc,hd⟩ ⟨q,e1,e2⟩
  exact⟨q,e1,k _ _ (fun z=>by rw[z,hd] at e2;cases e2) e2⟩
 ·intro i x d hx hd σ H2 g2 S h
  rw[q0h,hd] at hx
  cases hx
  exact h
 ·intro d hd Hc gc S h
  exact h _ (Same.refl _)
 ·intro d hd _ Hc gc _ S h
  refine⟨_,rfl,_,rfl,_,rfl,p,_,_,_,rfl,rfl,SqL.of (gc _ _ (g1 _ _ hp')),z2v _ _,d,v sp m,rfl,spos,sb d (by rw[es];exact q0G _ hd),z1a sb m,fun r H' hr g' e'=>h _ _ g' ⟨r,rfl,e'⟩⟩
 ·intro us H2 g2 hD2 he
  rw[z0z] at he
  obtain⟨bs,hbs⟩:∃bs:List Addr,us=bs.map V.ref:=by
   clear hD2 es s'l hp' ed e1
   induction he with
   |nil=>exact⟨[],rfl⟩
   |cons h1 _ ih=>
    obtain⟨p,rfl,_⟩:=h1
    obtain⟨bs,rfl⟩:=ih
    exact⟨p::bs,rfl⟩
  subst hbs
  have g02:=g1.trans g2
  refine⟨D,_,rfl,.inl ⟨SqL.of hD2,fun r hr=>?_⟩⟩
  have g3:=z0e hr (.tup (bs.map V.ref))
  refine q r bs _ (g02.free hr) (g02.trans g3) z0b ⟨?_,fun i a t ea et=>?_⟩
  ·have:=he.length
   rw[q0a] at this
   rw[ed,q0a,this]
  ·rw[ed,q0h] at et
   obtain⟨n,hn,rfl⟩:=q0u.mp et
   obtain⟨q2,hq2,h3⟩:=he.get hn (by rw[q0h,ea];rfl)
   cases hq2
   exact g3 _ _ h3
end
end L2
namespace L2
open PySem PySem.Spec PyProof.Rows
section
open Fr Wl Rk Pt Ld
open Builtin.Int (intBits)
variable {P:Program}{w:World}{K:PySem.W.Frag}{mg:Str→Option Value}{base:Heap}{f:Addr}{fd:FuncData}
structure LandD where
 a:Addr
 sg:List Int
 q:Addr
 sp:List Int
def LandAt (H:Hp) (d:LandD) (x:V):Prop:=∃p,x= .ref p∧H p=some (.tup [.ref d.a,.ref d.q])∧H d.a=some (.tup (d.sg.map V.int))∧H d.q=some (.lst (d.sp.map V.int))
theorem LandAt.same {H H':Hp}{d:LandD}{x:V} (h:LandAt H d x) (g:Same H H'):LandAt H' d x:=by
 obtain⟨p,e,h1,h2,h3⟩:=h
 exact⟨p,e,g _ _ h1,g _ _ h2,g _ _ h3⟩
theorem LandAt.put {H:Hp}{d:LandD}{x:V}{l:Addr}{o:HO}{ys:List V} (h:LandAt H d x) (hl:H l=some (.lst ys)) (hq:d.q≠l):LandAt (upd H l o) d x:=by
 obtain⟨p,e,h1,h2,h3⟩:=h
 exact⟨p,e,by rw[z0i fun z=>by rw[z,hl] at h1;cases h1];exact h1,by rw[z0i fun z=>by rw[z,hl] at h2;cases h2];exact h2,by rw[z0i hq];exact h3⟩
theorem Each.andL {α β:Type}{R:α→β→Prop}{Pp:α→Prop}{as:List α}{bs:List β} (h:Each R as bs) (hp:∀a∈as,Pp a):Each (fun a b=>R a b∧Pp a) as bs:=by
 induction h with
 |nil=>exact .nil
 |cons h1 _ ih=>exact .cons ⟨h1,hp _ List.mem_cons_self⟩ (ih fun a ha=>hp a (List.mem_cons_of_mem _ ha))
structure z3e (m b c:Nat) (ts:List (List Int)) (d:LandD):Prop where
 len:ts.length=d.sg.length
 sgn:Sgn d.sg
 win:Win m (bdL ts d.sg) d.sp
 bits:∀n∈d.sp,intBits n≤Sb m b c
theorem y6B {m b c:Nat}{ts:List (List Int)}{sg:List Int} (h:∀t∈ts,Bd m b c t) (hs:Sgn sg):∀r∈bdL ts sg,Bd m b c r:=fun r hr=>by
 unfold bdL at hr
 obtain⟨i,hi,rfl⟩:=q0B.mp hr
 rw[List.getElem_zipWith]
 exact (h _ (q0z _)).turn (hs _ (q0z _))
abbrev z5C:Stmt:=top 29
theorem sc_parted:z0u ["ways","walls","found","numbers","more","signs","spot","bounds","sign","bound","within"] ["ways","walls","found","numbers"] (z0l z5C):=⟨rfl,rfl,rfl,by decide+kernel,rfl,by decide+kernel,by decide+kernel⟩
def z8x (K:PySem.W.Frag):Sp:=fun vs H Q _=>∃(m:Nat) (lw lf an:Addr) (as:List Addr) (ts:List (List Int)) (xs:List V) (ds:List LandD) (t:List Int) (b c:Nat),vs=[.int (m:Nat),.ref lw,.ref lf,.ref an]∧H lw=some (.lst (as.map V.ref))∧TsA H as ts∧H lf=some (.lst xs)∧Each (LandAt H) ds xs∧H an=some (.tup (t.map V.int))∧(∀u∈ts++[t],Bd m b c u)∧(∀d∈ds,z3e m b c ts d)∧z6S m b c=true∧m≤4∧ts.length≤20∧ds.length≤1000∧
 ∀(r:Addr) (xs':List V) (ds':List LandD) (H':Hp),H r=none→Same H H'→H' r=some (.lst xs')→Each (LandAt H') ds' xs'→(∀d∈ds',z3e m b c (ts++[t]) d)→ds'.map LandD.sg=(ds.map LandD.sg).flatMap (z1e m ts t)→Q (.ref r) H'
open Classical in
theorem y1I (T:Txt mg) (F:Fun K "parted" "parted" z5C f fd) (c_bounds_at:Cal P w K mg base 15 "bounds_at" ["walls","signs"] (z3H K)) (c_turned:Cal P w K mg base 15 "turned" ["numbers","sign"] (z1O K)) (c_height:Cal P w K mg base 15 "height" ["bound","spot"] (z1q K)) (c0:∀m,m≤4→Cal P w K mg base 15 "spot_across" ["ways","bounds","bound"] (z7z K (m+1))):FnOk P w K mg base CX0 16 f fd ["ways","walls","found","numbers"] (z8x K):=by
 refine F.ok sc_parted (fun vs H Q E h=>?_) (fun cdv A outer s H vs Q E hr h=>?_)
 ·obtain⟨_,_,_,_,_,_,_,_,_,_,_,rfl,_⟩:=h;rfl
 obtain⟨m,lw,lf,an,as,ts,xs,ds,t,b,c,rfl,hlw,hts,hlf,hE,han,hB,hG,hlim,m4,n20,d1000,q⟩:=h
 have c_spot_across:=c0 m m4
 refine⟨_,(z0d (z0q (i:=4) sc_parted.nd rfl (Or.inl rfl) (z0K z0c))
  (z0d (z0W PassesOwn.never rfl (z0w (K:=K) rfl (pv 2)) (z0Q (K:=K) rfl 2 rfl (z0t (z0k (i:=5) sc_parted.nd rfl (Or.inl rfl)) (z0t (z0k (i:=6) sc_parted.nd rfl (Or.inl rfl)) z0P))) (z0d (z0q (i:=7) sc_parted.nd rfl (Or.inl rfl) (z0p c_bounds_at hr rfl (z0a (pv 1) (z0a (pv 5) z0c))))
  (z0g (z0W PassesOwn.never rfl (y1u (K:=K) rfl (z1g (z0a (z1Z z1d z0j) (z0a z0j z0c)))) (z0k (i:=8) sc_parted.nd rfl (Or.inl rfl)) (z0d (z0q (i:=9) sc_parted.nd rfl (Or.inl rfl) (z0p c_turned hr rfl (z0a (pv 3) (z0a (pv 8) z0c))))
  (z0d (z0q (i:=10) sc_parted.nd rfl (Or.inl rfl) (z3K (z0D y1C (z0p c_height hr rfl (z0a (pv 9) (z0a (pv 6) z0c))) z0j (z0M _)) (pv 6) (z0p c_spot_across hr rfl (z0a (pv 0) (z0a (pv 7) (z0a (pv 9) z0c))))))
  (z0g (z1k (z3y (z7P (pv 10))) (z0g (z2E (z9M PySem.F.plainAttrs_list PySem.F.slot_list_append PySem.F.type_list_append z1n (pv 4) (z0a (z1g (z0a (z0y (y3Q (K:=K) rfl) (pv 5) (z1g (z0a (pv 8) z0c))) (z0a (pv 10) z0c))) z0c)))) z0E))))))))
  (z0g (z0v (pv 4))))),?_⟩
 obtain⟨b2,c2⟩:=z4v hlim
 have hS:=z8c hlim
 have hBt:=hB t (by simp)
 have hBs:∀u∈ts,Bd m b c u:=fun u hu=>hB u (q0G _ hu)
 have mx:max b c≤2000:=by lia
 refine z0x (fun σ H'=>∃r,H r=none∧σ=[some (.int (m:Nat)),some (.ref lw),some (.ref lf),some (.ref an),some (.ref r),none,none,none,none,none,none]∧Same H H'∧H' r=some (.lst [])) (fun N hN=>?_) ?_
 ·exact⟨q0N _,fun r hr=>hN _ _ ⟨r,hr,rfl,z0e hr _,z0b⟩⟩
 rintro σ H0 ⟨r,hr0,rfl,g0,e0⟩
 refine z0x (fun σ H'=>∃xs' ds' s5 s6 s7 s8 s9 s10,σ=[some (.int (m:Nat)),some (.ref lw),some (.ref lf),some (.ref an),some (.ref r),s5,s6,s7,s8,s9,s10]∧Same H H'∧H' r=some (.lst xs')∧Each (LandAt H') ds' xs'∧(∀d∈ds',z3e m b c (ts++[t]) d)∧ds'.map LandD.sg=(ds.map LandD.sg).flatMap (z1e m ts t)) (fun N hN=>?_) ?_
 ·refine⟨_,rfl,lf,rfl,⟨_,SqL.of (g0 _ _ hlf)⟩,?_⟩
  refine z0C (z0r K lf xs) (fun i σ H'=>∃xs' ds' s5 s6 s7 s8 s9 s10,σ=[some (.int (m:Nat)),some (.ref lw),some (.ref lf),some (.ref an),some (.ref r),s5,s6,s7,s8,s9,s10]∧Same H H'∧H' r=some (.lst xs')∧Each (LandAt H') ds' xs'∧(∀d∈ds',z3e m b c (ts++[t]) d∧d.q≠r)∧xs'.length≤2*i∧ds'.map LandD.sg=((ds.take i).map LandD.sg).flatMap (z1e m ts t))
   ⟨[],[],_,_,_,_,_,_,rfl,g0,e0,.nil,(fun d hd=>by cases hd),q0N _,rfl⟩ (fun i σ H' _ h=>by obtain⟨_,_,_,_,_,_,_,_,_,g,_⟩:=h;exact SqL.of (g _ _ hlf)) ?_ ?_
  ·clear g0 e0
   rintro i x σ H1 H2 hi ⟨xs',ds',s5,s6,s7,s8,s9,s10,rfl,g,er,hE',hG',hx',hsg⟩ ⟨rfl,hx⟩
   have hid:i<ds.length:=by rw[hE.length];exact hi
   have hdi:ds[i]? =some ds[i]:=q0c hid
   have hdm:ds[i]∈ds:=q0z hid
   have tk:ds.take (i+1)=ds.take i++[ds[i]]:=by rw[q0R,hdi];rfl
   generalize ds[i]=d at hdi hdm tk
   obtain⟨p,rfl,h1,h2,h3⟩:=(hE.get hdi hx).same g
   have hd:=hG d hdm
   have hdq0:d.q≠r:=fun z=>by
        obtain⟨_,_,_,_,h3'⟩:=hE.get hdi hx
        rw[z,hr0] at h3';cases h3'
   refine⟨p,_,rfl,SqT.of h1,rfl,_,_,rfl,_,_,rfl,rfl,?_⟩
   have hBb:=y6B hBs hd.sgn
   refine z0x (fun σ H'=>∃lb bs,σ=[some (.int (m:Nat)),some (.ref lw),some (.ref lf),some (.ref an),some (.ref r),some (.ref d.a),some (.ref d.q),some (.ref lb),s8,s9,s10]∧Same H2 H'∧H' lb=some (.lst (bs.map V.ref))∧LsA H' bs (bdL ts d.sg)∧lb≠r∧r∉bs) (fun N' hN'=>?_) ?_
   ·refine⟨_,rfl,_,rfl,lw,d.a,as,ts,d.sg,rfl,g _ _ hlw,hts.same g,h2,hd.len,hd.sgn,by lia,fun u hu=>⟨by rw[(hBs u hu).len];lia,fun n hn=>z0s ((hBs u hu).all n hn) (by lia)⟩,fun lb bs H3 hlb g3 elb hbs=>?_⟩
    refine hN' _ _ ⟨lb,bs,rfl,g3,elb,hbs,fun z=>(by rw[z,er] at hlb;cases hlb),fun z=>?_⟩
    obtain⟨k,hk⟩:=q1N.mp z
    have hkl:k<(bdL ts d.sg).length :=by rw[←hbs.1];exact (q0H.mp hk).1
    have h4:=hbs.2 k r _ hk (q0c hkl)
    have hl1:=(hBb _ (q0z hkl)).len
    rw[g3 _ _ er] at h4
    generalize (bdL ts d.sg)[k]=row at h4 hl1
    cases row with
    |nil=>simp at hl1
    |cons n0 row=>
     have h5:xs'=(n0::row).map V.int:=by injection h4 with z;injection z
     rw[h5] at hE'
     cases hE' with
     |cons h6 _=>
      obtain⟨_,h7,_⟩:=h6
      cases h7
   rintro σ H3 ⟨lb,bs,rfl,g3,elb,hbs,lbr,hrb⟩
   have gH3:=g.trans g3
   have er3:=g3 _ _ er
   have hE3:=hE'.imp fun _ _ h=>LandAt.same h g3
   clear h1 h2 h3 er hE' g g3
   refine⟨_,rfl,z0h (by show 2≤_;decide),fun z hz=>?_⟩
   have zr:z≠r:=fun e=>by rw[e,er3] at hz;cases hz
   have g4:=z0e hz (.tup [V.int (-1),V.int 1])
   have e4:upd H3 z (.tup [V.int (-1),V.int 1]) z=some (.tup [V.int (-1),V.int 1]):=z0b
   generalize upd H3 z (.tup [V.int (-1),V.int 1])=H4 at*
   refine⟨z,rfl,⟨_,SqT.of e4⟩,?_⟩
   refine z0C (z5J K z [V.int (-1),V.int 1]) (fun j σ H'=>∃xs' ds' s8 s9 s10,σ=[some (.int (m:Nat)),some (.ref lw),some (.ref lf),some (.ref an),some (.ref r),some (.ref d.a),some (.ref d.q),some (.ref lb),s8,s9,s10]∧Same H H'∧H' lb=some (.lst (bs.map V.ref))∧LsA H' bs (bdL ts d.sg)∧H' z=some (.tup [V.int (-1),V.int 1])∧H' r=some (.lst xs')∧Each (LandAt H') ds' xs'∧(∀d∈ds',z3e m b c (ts++[t]) d∧d.q≠r)∧xs'.length≤2*i+j∧ds'.map LandD.sg=((ds.take i).map LandD.sg).flatMap (z1e m ts t)++([d.sg++[-1],d.sg++[1]].take j).filter fun s'=>decide (z6n m (ts++[t]) s'))
        ⟨xs',ds',_,_,_,rfl,gH3.trans g4,g4 _ _ elb,hbs.same g4,e4,g4 _ _ er3,hE3.imp fun _ _ h=>LandAt.same h g4,hG',by lia,by rw[hsg];simp⟩ (fun j σ H' _ h=>let ⟨_,_,_,_,_,_,_,_,_,e,_⟩:=h;SqT.of e) ?_ ?_
   ·clear hE3 er3 hbs elb gH3 e4 g4 hsg hx' hG'
    rintro j x σ H5 H5' hj ⟨xs',ds',s8,s9,s10,rfl,g,elb,hbs,e4,er,hE',hG',hx',hsg⟩ ⟨rfl,hx⟩
    obtain⟨sg,rfl,hsgn,tk2⟩:∃sg:Int,x= .int sg∧(sg=1∨sg= -1)∧[d.sg++[-1],d.sg++[1]].take (j+1)=[d.sg++[-1],d.sg++[1]].take j++[d.sg++[sg]]:=by
     have hj2:j<2:=hj
     rcases (by lia:j=0∨j=1) with rfl|rfl
     ·exact⟨-1,(Option.some.inj hx).symm,.inr rfl,rfl⟩
     ·exact⟨1,(Option.some.inj hx).symm,.inl rfl,rfl⟩
    have hlj:j<2:=hj
    have hRe:z6n m (ts++[t]) (d.sg++[sg])↔Pw m (bdL ts d.sg++[z0o sg t]):=by unfold z6n;rw[z2K hd.len]
    have hBx:=hBt.turn hsgn
    have hda:H5' d.a=some (.tup (d.sg.map V.int)):=by
     obtain⟨_,_,_,h2,_⟩:=hE.get hdi ‹xs[i]? =some _›
     exact g _ _ h2
    have hdq:H5' d.q=some (.lst (d.sp.map V.int)):=by
     obtain⟨_,_,_,_,h3⟩:=hE.get hdi ‹xs[i]? =some _›
     exact g _ _ h3
    refine z0x (fun σ H'=>∃ab,σ=[some (.int (m:Nat)),some (.ref lw),some (.ref lf),some (.ref an),some (.ref r),some (.ref d.a),some (.ref d.q),some (.ref lb),some (.int sg),some (.ref ab),s10]∧Same H5' H'∧H' ab=some (.lst ((z0o sg t).map V.int))) (fun N' hN'=>?_) ?_
    ·exact⟨_,rfl,_,rfl,an,t,sg,rfl,.inr (SqT.of (g _ _ han)),by rw[hBt.len];lia,hsgn,fun n hn=>z0s (hBt.all n hn) (by lia),fun ab H' hab g' e'=>hN' _ _ ⟨ab,rfl,g',e'⟩⟩
    rintro σ H6 ⟨ab,rfl,g6,eab⟩
    refine z0x (fun σ H'=>Same H6 H'∧((∃q5 sp5,σ=[some (.int (m:Nat)),some (.ref lw),some (.ref lf),some (.ref an),some (.ref r),some (.ref d.a),some (.ref d.q),some (.ref lb),some (.int sg),some (.ref ab),some (.ref q5)]∧H' q5=some (.lst (sp5.map V.int))∧q5≠r∧Win m (bdL ts d.sg++[z0o sg t]) sp5∧∀n∈sp5,intBits n≤Sb m b c)∨(σ=[some (.int (m:Nat)),some (.ref lw),some (.ref lf),some (.ref an),some (.ref r),some (.ref d.a),some (.ref d.q),some (.ref lb),some (.int sg),some (.ref ab),some .non]∧¬Pw m (bdL ts d.sg++[z0o sg t])))) (fun N' hN'=>?_) ?_
    ·refine⟨_,rfl,_,rfl,ab,d.q,z0o sg t,d.sp,m,rfl,eab,g6 _ _ hdq,hBx.len,hd.win.1.1,by lia,fun n hn=>z0s (hBx.all n hn) (by lia),fun n hn=>z0s (hd.bits n hn) (by lia),fun H7 g7=>?_⟩
     refine⟨_,_,rfl,rfl,_,rfl,?_⟩
     refine z6c (fun cc=>?_) (fun cc=>?_)
     ·have hpos:0<hg m (v (z0o sg t)) (v d.sp):=of_decide_eq_true cc
      refine⟨_,rfl,?_⟩
      refine hN' _ _ ⟨g7,.inl ⟨d.q,d.sp,rfl,(g6.trans g7) _ _ hdq,hdq0,⟨hd.win.1,fun b' hb'=>?_⟩,hd.bits⟩⟩
      rcases q0I.mp hb' with h|h
      ·exact hd.win.2 b' h
      ·rw[q0g.mp h];exact hpos
     ·have hle:hg m (v (z0o sg t)) (v d.sp)≤0:=by
          have:¬0<hg m (v (z0o sg t)) (v d.sp):=fun z=>cc (decide_eq_true z)
          lia
      have g67:=g6.trans g7
      refine⟨_,rfl,_,rfl,_,rfl,m,lb,ab,bs,bdL ts d.sg,z0o sg t,d.sp,b,c,rfl,rfl,g67 _ _ elb,hbs.same g67,g7 _ _ eab,hBb,hBx,hlim,by lia,by unfold bdL;rw[List.length_zipWith];lia,hd.win,hle,fun r5 sp5 H8 hr5 g8 er5 hW5 hb5=>?_,fun H8 g8 hno=>?_⟩
      ·exact hN' _ _ ⟨g7.trans g8,.inl ⟨r5,sp5,rfl,er5,fun z=>(by rw[z,g67 _ _ er] at hr5;cases hr5),hW5,hb5⟩⟩
      ·exact hN' _ _ ⟨g7.trans g8,.inr ⟨rfl,hno⟩⟩
    rintro σ H7 ⟨g7,⟨q5,sp5,rfl,eq5,q5r,hW5,hb5⟩|⟨rfl,hno⟩⟩
    ·have g57:=g6.trans g7
     refine⟨_,rfl,_,rfl,?_⟩
     refine z5h ?_
     refine⟨_,rfl,.inl ⟨rfl,_,SqL.of (g57 _ _ er)⟩,_,rfl,_,rfl,z0h (by show 1≤_;decide),fun z1 hz1=>?_⟩
     have g8:=z0e hz1 (.tup [V.int sg])
     have e8:upd H7 z1 (.tup [V.int sg]) z1=some (.tup [V.int sg]):=z0b
     generalize upd H7 z1 (.tup [V.int sg])=H8 at*
     have g58:=g57.trans g8
     refine⟨d.a,z1,_,_,rfl,rfl,SqT.of (g58 _ _ hda),e8,by simp,z0h (by rw[q0a,←hd.len];show _+1≤_;lia),fun p9 H9 g9 e9=>?_⟩
     have e9':H9 p9=some (.tup ((d.sg++[sg]).map V.int)):=by rw[e9,q0r];rfl
     refine⟨_,rfl,z0h (by show 2≤_;decide),fun pA hpA=>?_⟩
     have gA:=z0e hpA (.tup [V.ref p9,V.ref q5])
     have eA:upd H9 pA (.tup [V.ref p9,V.ref q5]) pA=some (.tup [V.ref p9,V.ref q5]):=z0b
     generalize upd H9 pA (.tup [V.ref p9,V.ref q5])=HA at*
     have g5A:=g58.trans (g9.trans gA)
     have erA:=g5A _ _ er
     refine⟨r,_,_,rfl,rfl,erA,z3q (by lia),?_⟩
     have hnew:LandAt HA ⟨p9,d.sg++[sg],q5,sp5⟩ (.ref pA):=⟨pA,rfl,eA,gA _ _ e9',(g8.trans (g9.trans gA)) _ _ eq5⟩
     refine⟨xs'++[.ref pA],ds'++[⟨p9,d.sg++[sg],q5,sp5⟩],_,_,_,rfl,fun b' o e=>by rw[z0i (z0f e hr0)];exact (g.trans g5A) _ _ e,by rw[z0i lbr];exact g5A _ _ elb,⟨hbs.1,fun k a' t' e1 e2=>by
         have ne:a'≠r:=fun z=>hrb (by rw[←z];exact q0A e1)
         rw[z0i ne];exact g5A _ _ (hbs.2 k a' t' e1 e2)⟩,by rw[z0i zr];exact g5A _ _ e4,z0b,?_,fun d' hd'=>?_,by rw[q0k,q1j];lia,?_⟩
     ·refine Each.snoc ?_ (hnew.put erA q5r)
      have hE5:Each (fun d' x=>LandAt HA d' x∧d'.q≠r) ds' xs':=Each.andL (hE'.imp fun _ _ h=>LandAt.same h g5A) fun d' hd'=>(hG' d' hd').2
      exact hE5.imp fun _ _ h=>h.1.put erA h.2
     ·rcases q0I.mp hd' with h|h
      ·exact hG' d' h
      ·rw[q0g.mp h]
       refine⟨⟨by rw[q0k,q0k,hd.len];rfl,fun y hy=>?_,?_,hb5⟩,q5r⟩
       ·rcases q0I.mp hy with h|h
        ·exact hd.sgn y h
        ·rw[q0g.mp h];exact hsgn
       ·show Win m (bdL (ts++[t]) (d.sg++[sg])) sp5
        rw[z2K hd.len];exact hW5
     ·rw[q0r,hsg,tk2,q1f,q0O (by rw[decide_eq_true_eq,hRe];exact⟨sp5,hW5⟩),List.filter_nil,q1A]
      rfl
    ·have g57:=g6.trans g7
     refine⟨_,rfl,_,rfl,?_⟩
     refine z5i ?_
     refine⟨xs',ds',_,_,_,rfl,g.trans g57,g57 _ _ elb,hbs.same g57,g57 _ _ e4,g57 _ _ er,hE'.imp fun _ _ h=>LandAt.same h g57,hG',by lia,?_⟩
     rw[tk2,q1f,q0V (by rw[decide_eq_true_eq,hRe];exact hno),List.filter_nil,q1F]
     exact hsg
   ·rintro σ H5 ⟨xs',ds',s8,s9,s10,rfl,g,_,_,_,er,hE',hG',hx',hsg⟩
    refine⟨xs',ds',_,_,_,_,_,_,rfl,g,er,hE',hG',by simp at hx';lia,?_⟩
    rw[hsg,tk,q0r,List.flatMap_append]
    congr 1
    show _=([d.sg]:List (List Int)).flatMap (z1e m ts t)
    rw[q1Y,List.flatMap_nil,q1F]
    rfl
  ·rintro σ H1 ⟨xs',ds',s5,s6,s7,s8,s9,s10,rfl,g,er,hE',hG',_,hsg⟩
   rw[←hE.length,q0T] at hsg
   exact hN _ _ ⟨xs',ds',_,_,_,_,_,_,rfl,g,er,hE',fun d hd=>(hG' d hd).1,hsg⟩
 clear g0 e0
 rintro σ H1 ⟨xs',ds',s5,s6,s7,s8,s9,s10,rfl,g,er,hE',hG',hsg⟩
 exact⟨_,rfl,q r xs' ds' H1 hr0 g er hE' hG' hsg⟩
end
end L2
namespace L2
open PySem PySem.Spec PyProof.Rows
section
open Fr Wl Rk Pt Ld
open Builtin.Int (intBits)
variable {P:Program}{w:World}{K:PySem.W.Frag}{mg:Str→Option Value}{base:Heap}{f:Addr}{fd:FuncData}
abbrev z2h:Stmt:=top 30
theorem sc_land_spots:z0u ["ways","walls","found","place","numbers"] ["ways","walls"] (z0l z2h):=⟨rfl,rfl,rfl,by decide+kernel,rfl,by decide+kernel,by decide+kernel⟩
def y0N (K:PySem.W.Frag):Sp:=fun vs H Q _=>∃(m:Nat) (lw:Addr) (as:List Addr) (ts:List (List Int)) (b c:Nat),vs=[.int (m:Nat),.ref lw]∧H lw=some (.lst (as.map V.ref))∧TsA H as ts∧(∀u∈ts,Bd m b c u)∧z6S m b c=true∧m≤4∧ts.length≤8∧
 ∀(r:Addr) (xs:List V) (ds:List LandD) (H':Hp),H r=none→Same H H'→H' r=some (.lst xs)→Each (LandAt H') ds xs→(∀d∈ds,z3e m b c ts d)→ds.map LandD.sg=sgN m ts ts.length→Q (.ref r) H'
theorem z5U (T:Txt mg) (F:Fun K "land_spots" "land_spots" z2h f fd) (c_parted:Cal P w K mg base 16 "parted" ["ways","walls","found","numbers"] (z8x K)):FnOk P w K mg base CX0 17 f fd ["ways","walls"] (y0N K):=by
 refine F.ok sc_land_spots (fun vs H Q E h=>?_) (fun cdv A outer s H vs Q E hr h=>?_)
 ·obtain⟨_,_,_,_,_,_,rfl,_⟩:=h;rfl
 obtain⟨m,lw,as,ts,b,c,rfl,hlw,hts,hB,hlim,m4,n8,q⟩:=h
 refine⟨_,(z0d (z0q (i:=2) sc_land_spots.nd rfl (Or.inl rfl) (z0K (z0a (z1g (z0a (z1g z0c) (z0a (z0y z2z (z0y z6K (z0K (z0a z0j z0c)) (pv 0)) (z0K (z0a z0j z0c))) z0c))) z0c)))
  (z0d (z0W PassesOwn.never rfl (z5O (K:=K) rfl rfl T.enumerate (z0a (pv 1) z0c)) (z0Q (K:=K) rfl 2 rfl (z0t (z0k (i:=3) sc_land_spots.nd rfl (Or.inl rfl)) (z0t (z0k (i:=4) sc_land_spots.nd rfl (Or.inl rfl)) z0P))) (z0g (z0q (i:=2) sc_land_spots.nd rfl (Or.inl rfl) (z0p c_parted hr rfl (z0a (pv 0) (z0a (z1t (z1P (K:=K) rfl) (pv 1) z1W (z1V (pv 3))) (z0a (pv 2) (z0a (pv 4) z0c))))))))
  (z0g (z0v (pv 2))))),?_⟩
 refine z0x (fun σ H'=>∃r xs ds,H r=none∧σ=[some (.int (m:Nat)),some (.ref lw),some (.ref r),none,none]∧Same H H'∧H' r=some (.lst xs)∧Each (LandAt H') ds xs∧(∀d∈ds,z3e m b c [] d)∧ds.map LandD.sg=[[]]) (fun N hN=>?_) ?_
 ·refine⟨z0h (by show 0≤_;decide),fun zt hzt=>?_⟩
  have gt:=z0e hzt (.tup [])
  have et:upd H zt (.tup []) zt=some (.tup (([]:List Int).map V.int)):=z0b
  generalize upd H zt (.tup [])=Ht at*
  refine⟨z0h (by show 1≤_;decide),fun z hz=>?_⟩
  have g0:=z0e hz (.lst [V.int 0])
  have e0:upd Ht z (.lst [V.int 0]) z=some (.lst [V.int 0]):=z0b
  generalize upd Ht z (.lst [V.int 0])=H0 at*
  refine⟨_,rfl,z,_,_,rfl,rfl,e0,by lia,by lia,z0h (by rw[q0E];show 1*m≤_;lia),fun z1 hz1=>?_⟩
  rw[q0E,z3g]
  have g1:=z0e hz1 (.lst ((List.replicate m (0:Int)).map V.int))
  have e1:upd H0 z1 (.lst ((List.replicate m (0:Int)).map V.int)) z1=some (.lst ((List.replicate m (0:Int)).map V.int)):=z0b
  generalize upd H0 z1 (.lst ((List.replicate m (0:Int)).map V.int))=H1 at*
  refine⟨z0h (by show 1≤_;decide),fun z2 hz2=>?_⟩
  have g2:=z0e hz2 (.lst [V.int 1])
  have e2:upd H1 z2 (.lst [V.int 1]) z2=some (.lst [V.int 1]):=z0b
  generalize upd H1 z2 (.lst [V.int 1])=H2 at*
  refine⟨z1,z2,_,_,rfl,rfl,g2 _ _ e1,e2,z0h (by rw[q0a,q1c];show m+1≤_;lia),fun z3 hz3=>?_⟩
  have ez:(List.replicate m (0:Int)).map V.int++[V.int 1]=(z2w m).map V.int:=by unfold z2w;rw[List.map_append];rfl
  rw[ez]
  have g3:=z0e hz3 (.lst ((z2w m).map V.int))
  have e3:upd H2 z3 (.lst ((z2w m).map V.int)) z3=some (.lst ((z2w m).map V.int)):=z0b
  generalize upd H2 z3 (.lst ((z2w m).map V.int))=H3 at*
  refine⟨z0h (by show 2≤_;decide),fun z4 hz4=>?_⟩
  have g4:=z0e hz4 (.tup [V.ref zt,V.ref z3])
  have e4:upd H3 z4 (.tup [V.ref zt,V.ref z3]) z4=some (.tup [V.ref zt,V.ref z3]):=z0b
  generalize upd H3 z4 (.tup [V.ref zt,V.ref z3])=H4 at*
  refine⟨z0h (by show 1≤_;decide),fun z5 hz5=>?_⟩
  have g5:=z0e hz5 (.lst [V.ref z4])
  have g04:Same H H4:=gt.trans (g0.trans (g1.trans (g2.trans (g3.trans g4))))
  refine hN _ _ ⟨z5,[V.ref z4],[⟨zt,[],z3,z2w m⟩],g04.free hz5,rfl,g04.trans g5,z0b,.cons ⟨z4,rfl,g5 _ _ e4,(g0.trans (g1.trans (g2.trans (g3.trans (g4.trans g5))))) _ _ et,(g4.trans g5) _ _ e3⟩ .nil,fun d hd=>?_,rfl⟩
  rw[q0g.mp hd]
  exact⟨rfl,(fun x hx=>by cases hx),⟨z6o m,fun b' hb'=>by unfold bdL at hb';simp at hb'⟩,fun n hn=>z0s (z4S m n hn) (y3d _ _ _)⟩
 rintro σ H0 ⟨r0,xs0,ds0,hr0,rfl,g0,e0,hE0,hG0,hs0⟩
 refine z0x (fun σ H'=>∃r xs ds s3 s4,H r=none∧σ=[some (.int (m:Nat)),some (.ref lw),some (.ref r),s3,s4]∧Same H H'∧H' r=some (.lst xs)∧Each (LandAt H') ds xs∧(∀d∈ds,z3e m b c ts d)∧ds.map LandD.sg=sgN m ts ts.length) (fun N hN=>?_) ?_
 ·refine⟨_,rfl,lw,_,rfl,g0 _ _ hlw,?_⟩
  refine z0C (z4l K lw (as.map V.ref)) (fun i σ H'=>∃r xs ds s3 s4,H r=none∧σ=[some (.int (m:Nat)),some (.ref lw),some (.ref r),s3,s4]∧Same H H'∧H' r=some (.lst xs)∧Each (LandAt H') ds xs∧(∀d∈ds,z3e m b c (ts.take i) d)∧ds.map LandD.sg=sgN m ts i)
   ⟨r0,xs0,ds0,_,_,hr0,rfl,g0,e0,hE0,hG0,hs0⟩ (fun i σ H' _ h=>by obtain⟨_,_,_,_,_,_,_,g,_⟩:=h;exact SqL.of (g _ _ hlw)) ?_ ?_
  ·clear e0 g0 hr0 hE0 hG0 hs0
   rintro i x σ H1 H2 hi ⟨r,xs,ds,s3,s4,hr1,rfl,g,er,hE,hG,hsg⟩ ⟨pr,vv,rfl,hpr,hvv,rfl⟩
   rw[q0a,hts.1] at hi
   rw[q0h] at hvv
   obtain⟨a,ha,rfl⟩:=q0u.mp hvv
   have et:ts[i]? =some (ts.getD i []):=by rw[q0b,q0c hi];rfl
   have tk:ts.take (i+1)=ts.take i++[ts.getD i []]:=by rw[q0R,et];rfl
   have esg:sgN m ts (i+1)=(sgN m ts i).flatMap (z1e m (ts.take i) (ts.getD i [])):=rfl
   generalize ts.getD i []=t at et tk esg
   have g2:=z0e hpr (.tup [.int i,.ref a])
   have ep:upd H1 pr (.tup [.int i,.ref a]) pr=some (.tup [.int i,.ref a]):=z0b
   generalize upd H1 pr (.tup [.int i,.ref a])=H2 at*
   have gg2:=g.trans g2
   refine⟨pr,_,rfl,SqT.of ep,rfl,_,_,rfl,_,_,rfl,rfl,?_⟩
   refine⟨_,rfl,_,rfl,_,rfl,_,rfl,lw,_,rfl,SqL.of (gg2 _ _ hlw),fun p1 hp1=>?_⟩
   rw[y2P (by lia) (by rw[q0a,hts.1];lia),q0E,←List.map_take]
   have g4:=z0e hp1 (.lst ((as.take i).map V.ref))
   have e4:upd H2 p1 (.lst ((as.take i).map V.ref)) p1=some (.lst ((as.take i).map V.ref)):=z0b
   generalize upd H2 p1 (.lst ((as.take i).map V.ref))=H4 at*
   have gg4:=gg2.trans g4
   have g24:=g2.trans g4
   have hts4:TsA H4 (as.take i) (ts.take i):=⟨by rw[q0w,q0w,hts.1],fun j a' t' e1 e2=>by
        have hj:j<i:=by
         have:=(q0H.mp e2).1
         rw[q0w] at this;lia
        rw[q1V hj] at e1 e2
        exact gg4 _ _ (hts.2 j a' t' e1 e2)⟩
   have dl:ds.length≤1000:=by
        have h1:=z7B m ts i
        rw[←hsg,q0a] at h1
        exact q0m h1 (q0m (q1G (by decide) (show i≤8 by lia)) (by decide))
   refine⟨_,rfl,_,rfl,m,p1,r,a,as.take i,ts.take i,xs,ds,t,b,c,rfl,e4,hts4,g24 _ _ er,hE.imp fun _ _ h=>LandAt.same h g24,gg4 _ _ (hts.2 i a t ha et),fun u hu=>?_,hG,hlim,m4,by rw[q0w];lia,dl,fun r5 xs5 ds5 H5 hr5 g5 er5 hE5 hG5 hs5=>?_⟩
   ·rw[←tk] at hu;exact hB u (List.mem_of_mem_take hu)
   ·refine⟨r5,xs5,ds5,_,_,gg4.free hr5,rfl,gg4.trans g5,er5,hE5,by rw[tk];exact hG5,?_⟩
    rw[hs5,hsg,esg]
  ·rintro σ H1 ⟨r,xs,ds,s3,s4,hr1,rfl,g,er,hE,hG,hsg⟩
   rw[q0a,hts.1] at hG hsg
   rw[q0T] at hG
   exact hN _ _ ⟨r,xs,ds,_,_,hr1,rfl,g,er,hE,hG,hsg⟩
 clear e0 g0 hr0 hE0 hG0 hs0
 rintro σ H1 ⟨r,xs,ds,s3,s4,hr1,rfl,g,er,hE,hG,hsg⟩
 exact⟨_,rfl,q r xs ds H1 hr1 g er hE hG hsg⟩
def y3f (H:Hp) (m:Nat) (d:LandD) (x:V):Prop:=∃p pp bs,x= .ref p∧H p=some (.tup [.ref d.a,.ref pp])∧H d.a=some (.tup (d.sg.map V.int))∧H pp=some (.tup (bs.map V.ref))∧TsA H bs (d.sp.dropLast.map fun t=>z4L t (v d.sp m))
abbrev z7G:Stmt:=top 32
theorem y3x:z0u ["ways","walls"] ["ways","walls"] (z0l z7G):=⟨rfl,rfl,rfl,by decide+kernel,rfl,by decide+kernel,by decide+kernel⟩
def z7y (K:PySem.W.Frag):Sp:=fun vs H Q _=>∃(m:Nat) (lw:Addr) (as:List Addr) (ts:List (List Int)) (b c:Nat),vs=[.int (m:Nat),.ref lw]∧H lw=some (.lst (as.map V.ref))∧TsA H as ts∧(∀u∈ts,Bd m b c u)∧z6S m b c=true∧m≤4∧ts.length≤8∧
 ∀(r:Addr) (xs:List V) (ds:List LandD) (H':Hp),H r=none→Same H H'→H' r=some (.lst xs)→Each (y3f H' m) ds xs→(∀d∈ds,z3e m b c ts d)→ds.map LandD.sg=sgN m ts ts.length→Q (.ref r) H'
theorem y3U (T:Txt mg) (F:Fun K "lands" "lands" z7G f fd) (c_land_spots:Cal P w K mg base 17 "land_spots" ["ways","walls"] (y0N K)) (c_point_of:Cal P w K mg base 17 "point_of" ["spot"] (y0S K)):FnOk P w K mg base CX0 18 f fd ["ways","walls"] (z7y K):=by
 refine F.ok y3x (fun vs H Q E h=>?_) (fun cdv A outer s H vs Q E hr h=>?_)
 ·obtain⟨_,_,_,_,_,_,rfl,_⟩:=h;rfl
 obtain⟨m,lw,as,ts,b,c,rfl,hlw,hts,hB,hlim,m4,n8,q⟩:=h
 refine⟨_,(z0g (z0v (z0H (Nc:=["signs","spot"]) (fr:=[none,none]) rfl (z0w (K:=K) rfl (z0p c_land_spots hr rfl (z0a (pv 0) (z0a (pv 1) z0c)))) rfl (by decide) rfl (by decide) rfl trivial trivial (fun _ _ _ _=>(z0Q (K:=K) rfl 2 rfl (z0t (z0k (i:=0) (show List.Nodup (["signs","spot"]:List Str) from by decide) rfl (Or.inl rfl)) (z0t (z0k (i:=1) (show List.Nodup (["signs","spot"]:List Str) from by decide) rfl (Or.inl rfl)) z0P)))) (fun _ _ _ _=>z0I) (fun _ _ _ _=>(z1g (z0a (pv 0) (z0a (z0p c_point_of hr rfl (z0a (pv 1) z0c)) z0c))))))),?_⟩
 refine⟨_,rfl,_,rfl,m,lw,as,ts,b,c,rfl,hlw,hts,hB,hlim,m4,n8,fun r xs ds H1 hr1 g1 er hE hG hsg=>?_⟩
 have hS:=z8c hlim
 have dl:ds.length≤1000:=by
  have h1:=z7B m ts ts.length
  rw[←hsg,q0a] at h1
  exact q0m h1 (q0m (q1G (by decide) n8) (by decide))
 refine⟨r,rfl,⟨_,SqL.of er⟩,fun D hD=>?_⟩
 refine z0G ds hE.length.symm (z0r K r xs) hD (fun d σ=>(σ.set 0 (some (.ref d.a))).set 1 (some (.ref d.q))) (fun d e σ=>z1f _ _ _ _ _) (fun _=>true) (fun H' d u=>y3f H' m d u) ?_ (fun H' g'=>SqL.of (g' _ _ er)) (z0h (by rw[←hE.length];lia)) ?_ ?_ ?_ ?_
 ·rintro H2 H3 d u k ⟨acc,hd⟩ ⟨p,pp,bs,e,h1,h2,h3,h4⟩
  exact⟨p,pp,bs,e,k _ _ (fun z=>by rw[z,hd] at h1;cases h1) h1,k _ _ (fun z=>by rw[z,hd] at h2;cases h2) h2,k _ _ (fun z=>by rw[z,hd] at h3;cases h3) h3,h4.1,fun i a t ea et=>k _ _ (fun z=>by have:=h4.2 i a t ea et;rw[z,hd] at this;cases this) (h4.2 i a t ea et)⟩
 ·intro i x d hx hd σ H2 g2 S h
  obtain⟨p,rfl,h1,_⟩:=(hE.get hd hx).same g2
  exact⟨p,_,rfl,SqT.of h1,rfl,_,_,rfl,_,_,rfl,rfl,h⟩
 ·intro d hd Hc gc S h
  exact h _ (Same.refl _)
 ·intro d hd _ Hc gc _ S h
  obtain⟨x,hx⟩:∃x,LandAt H1 d x:=by
   obtain⟨i,hi,e⟩:=q0B.mp hd
   have hi2:i<xs.length:=by rw[←hE.length];exact hi
   exact⟨xs[i],hE.get (by rw[q0c hi,e]) (q0c hi2)⟩
  obtain⟨p,rfl,h1,h2,h3⟩:=hx.same gc
  have gd:=hG d hd
  refine⟨_,rfl,_,rfl,d.q,d.sp,m,rfl,h3,gd.win.1,by lia,fun n hn=>z0s (gd.bits n hn) (by lia),fun pp bs H2 hpp g2 epp hbs=>?_⟩
  refine⟨z0h (by show 2≤_;decide),fun z hz=>?_⟩
  have g3:=z0e hz (.tup [V.ref d.a,V.ref pp])
  exact h _ _ (g2.trans g3) ⟨z,pp,bs,rfl,z0b,(g2.trans g3) _ _ h2,g3 _ _ epp,hbs.same g3⟩
 ·intro us H2 g2 hD2 he
  rw[z0z] at he
  exact q D us ds H2 (g1.free hD) (g1.trans g2) hD2 he hG hsg
end
end L2
namespace L2
open PySem PySem.Spec PyProof.Rows
section
open Fr Wl Rk Pt Ld
open Builtin.Int (intBits)
variable {P:Program}{w:World}{K:PySem.W.Frag}{mg:Str→Option Value}{base:Heap}{f:Addr}{fd:FuncData}
abbrev z3l:Stmt:=top 12
theorem z7D:z0u ["number"] ["number"] (z0l z3l):=⟨rfl,rfl,rfl,by decide+kernel,rfl,by decide+kernel,by decide+kernel⟩
theorem z7X (T:Txt mg) (F:Fun K "is_whole" "is_whole" z3l f fd):FnOk P w K mg base CX0 1 f fd ["number"] y0L:=by
 refine F.ok z7D (fun vs H Q E h=>?_) (fun cdv A outer s H vs Q E hr h=>?_)
 ·obtain⟨_,rfl,_⟩:=h;rfl
 obtain⟨i,rfl,q⟩:=h
 refine⟨_,(z0g (z0v (y1y (z0A z4G rfl T.isinstance boot_isinstance (z0a (pv 0) (z0a (y1x (v:= .ty "int") rfl T.int boot_int rfl) z0c))) (y1w (y7j (z0A z4G rfl T.isinstance boot_isinstance (z0a (pv 0) (z0a (y1x (v:= .ty "bool") rfl T.bool boot_bool rfl) z0c)))))))),?_⟩
 exact⟨_,rfl,_,_,_,_,rfl,.int i,rfl,_,rfl,z5h ⟨_,rfl,_,_,_,_,rfl,.int i,rfl,_,rfl,q⟩⟩
def z7q (m:Nat) (ts:List (List Int)) (sg:List Int):Prop:=sg.length=ts.length∧Sgn sg∧z6n m ts sg
def inS (n:Int):Bool:=inV (V.int n) [V.int (-1),V.int 1]
theorem y2m (n:Int):inS n=true↔n=1∨n= -1:=by
 unfold inS inV
 show ((((-1:Int)==n) || (((1:Int)==n) || false))=true)↔_
 rw[Bool.or_false,Bool.or_eq_true,beq_iff_eq,beq_iff_eq]
 lia
theorem y3b (sg:List Int):((sg.map fun n=>V.bl (inS n)).all trV=true)↔Sgn sg:=by
 rw[List.all_map,q0X]
 constructor
 ·exact fun h x hx=>(y2m x).mp (h x hx)
 ·exact fun h x hx=>(y2m x).mpr (h x hx)
abbrev z4f:Stmt:=top 33
theorem z9E:z0u ["ways","walls","signs"] ["ways","walls","signs"] (z0l z4f):=⟨rfl,rfl,rfl,by decide+kernel,rfl,by decide+kernel,by decide+kernel⟩
structure WsA (K:PySem.W.Frag) (H:Hp) (m:Nat) (lw:Addr) (as:List Addr) (ts:List (List Int)) (b c:Nat):Prop where
 lst:H lw=some (.lst (as.map V.ref))
 rows:TsA H as ts
 bd:∀u∈ts,Bd m b c u
 lim:z6S m b c=true
 m4:m≤4
 n8:ts.length≤8
theorem WsA.same {H H':Hp}{m:Nat}{lw:Addr}{as:List Addr}{ts:List (List Int)}{b c:Nat} (h:WsA K H m lw as ts b c) (g:Same H H'):WsA K H' m lw as ts b c:=⟨g _ _ h.lst,h.rows.same g,h.bd,h.lim,h.m4,h.n8⟩
open Classical in
noncomputable def z8z (K:PySem.W.Frag):Sp:=fun vs H Q _=>∃(m:Nat) (lw q:Addr) (as:List Addr) (ts:List (List Int)) (sg:List Int) (b c:Nat),vs=[.int (m:Nat),.ref lw,.ref q]∧WsA K H m lw as ts b c∧H q=some (.tup (sg.map V.int))∧sg.length≤30∧∀H',Same H H'→Q (.bl (decide (z7q m ts sg))) H'
open Classical in
theorem z9T (T:Txt mg) (F:Fun K "is_land" "is_land" z4f f fd) (c_is_whole:Cal P w K mg base 16 "is_whole" ["number"] y0L) (c_bounds_at:Cal P w K mg base 16 "bounds_at" ["walls","signs"] (z3H K)) (c0:∀m,m≤4→Cal P w K mg base 16 "spot_within" ["ways","bounds"] (z7x K (m+1))):FnOk P w K mg base CX0 17 f fd ["ways","walls","signs"] (z8z K):=by
 refine F.ok z9E (fun vs H Q E h=>?_) (fun cdv A outer s H vs Q E hr h=>?_)
 ·obtain⟨_,_,_,_,_,_,_,_,rfl,_⟩:=h;rfl
 obtain⟨m,lw,q',as,ts,sg,b,c,rfl,hW,hq,s30,q⟩:=h
 have c_spot_within:=c0 m hW.m4
 have m4:=hW.m4
 have n8:=hW.n8
 refine⟨_,(z0d (z1k (z0D y1A (z0A (z1b (K:=K) rfl) rfl T.len PySem.boot_len (z0a (pv 2) z0c)) (z0A (z1b (K:=K) rfl) rfl T.len PySem.boot_len (z0a (pv 1) z0c)) (z0M _)) (z0g (z0v z7O)) z0E)
  (z0d (z1k (z5b (z3x (z0A (y2W (K:=K) rfl rfl) rfl T.all boot_all (z0a (z0H (Nc:=["sign"]) (fr:=[none]) rfl (y1u (K:=K) rfl (pv 2)) rfl (by decide) rfl (by decide) rfl trivial trivial (fun _ _ _ _=>(z0k (i:=0) (show List.Nodup (["sign"]:List Str) from by decide) rfl (Or.inl rfl))) (fun _ _ _ _=>z0I) (fun _ _ _ _=>(y1y (z0p c_is_whole hr rfl (z0a (pv 0) z0c)) (y1w (z4n (y4O (K:=K) rfl) (pv 0) (z1g (z0a (z1Z z1d z0j) (z0a z0j z0c))) (by with_unfolding_all rfl)))))) z0c)))) (z0g (z0v z7O)) z0E)
  (z0g (z0v (y7k (z7P (z0p c_spot_within hr rfl (z0a (pv 0) (z0a (z0p c_bounds_at hr rfl (z0a (pv 1) (z0a (pv 2) z0c))) z0c))))))))),?_⟩
 obtain⟨b2,c2⟩:=z4v hW.lim
 have no:¬z7q m ts sg→∀H',Same H H'→Q (.bl false) H':=fun h H' g=>by
  have:=q H' g
  rw[decide_eq_false h] at this
  exact this
 refine z0x (fun σ H'=>σ=[some (.int (m:Nat)),some (.ref lw),some (.ref q')]∧H=H'∧sg.length=ts.length) (fun N hN=>?_) ?_
 ·refine⟨_,rfl,q',_,rfl,.inr (SqT.of hq),_,rfl,lw,_,rfl,.inl (SqL.of hW.lst),rfl,_,rfl,?_⟩
  rw[q0a,q0a,hW.rows.1]
  refine z6c (fun cc=>?_) (fun cc=>?_)
  ·refine no (fun h=>?_) _ (Same.refl _)
   rw[h.1] at cc
   simp at cc
  ·have:(((sg.length:Nat):Int))=((ts.length:Nat):Int):=by
        have h2:V.int ((sg.length:Nat):Int)=V.int ((ts.length:Nat):Int):=q0p fun z=>cc (by rw[decide_eq_false z];rfl)
        injection h2
   exact hN _ _ ⟨rfl,rfl,by lia⟩
 rintro σ H0 ⟨rfl,rfl,hl⟩
 refine z0x (fun σ H'=>σ=[some (.int (m:Nat)),some (.ref lw),some (.ref q')]∧Same H H'∧Sgn sg) (fun N hN=>?_) ?_
 ·refine⟨_,rfl,q',rfl,⟨_,SqT.of hq⟩,fun D hD=>?_⟩
  refine z0G sg (by rw[q0a]) (z5J K q' (sg.map V.int)) hD (fun n σ=>σ.set 0 (some (.int n))) (fun d e σ=>q1Z ..) (fun _=>true) (fun H' n u=>u= .bl (inS n)) (fun _ _ _ _ _ _ h=>h) (fun H' g'=>SqT.of (g' _ _ hq)) (z0h (by rw[q0a];lia)) ?_ ?_ ?_ ?_
  ·intro i x d hx hd σ H2 g2 S h
   rw[q0h,hd] at hx
   cases hx
   exact h
  ·intro d hd Hc gc S h
   exact h _ (Same.refl _)
  ·intro d hd _ Hc gc _ S h
   refine⟨_,rfl,d,rfl,_,rfl,?_⟩
   refine z5h ?_
   refine⟨_,rfl,_,rfl,z0h (by show 2≤_;decide),fun z hz=>?_⟩
   exact⟨z,_,rfl,.inr (SqT.of z0b),rfl,rfl,h _ _ (z0e hz _) rfl⟩
  ·intro us H1 g1 hD1 he
   rw[z0z] at he
   have eu:us=sg.map fun n=>V.bl (inS n):=by
        clear hD1 hq hl s30 q no hN
        induction he with
        |nil=>rfl
        |cons h1 _ ih=>rw[h1,ih];rfl
   subst eu
   refine⟨D,_,rfl,.inl (SqL.of hD1),fun y hy=>(by obtain⟨n,_,rfl⟩:=q0f.mp hy;trivial),_,rfl,?_⟩
   by_cases hs:Sgn sg
   ·rw[(y3b sg).mpr hs]
    refine z5i ?_
    exact hN _ _ ⟨rfl,g1,hs⟩
   ·have h0:(sg.map fun n=>V.bl (inS n)).all trV=false:=by
     cases z:(sg.map fun n=>V.bl (inS n)).all trV with
     |false=>rfl
     |true=>exact absurd ((y3b sg).mp z) hs
    rw[h0]
    refine z5h ?_
    exact no (fun h=>hs h.2.1) _ g1
 rintro σ H1 ⟨rfl,g1,hs⟩
 have hW1:=hW.same g1
 refine⟨_,rfl,_,rfl,_,rfl,lw,q',as,ts,sg,rfl,hW1.lst,hW1.rows,g1 _ _ hq,hl.symm,hs,by lia,fun u hu=>⟨by rw[(hW.bd u hu).len];lia,fun n hn=>z0s ((hW.bd u hu).all n hn) (by lia)⟩,fun rb bs H2 hrb g2 erb hbs=>?_⟩
 refine⟨m,rb,bs,bdL ts sg,b,c,rfl,rfl,erb,hbs,y6B hW.bd hs,hW.lim,by lia,by unfold bdL;rw[List.length_zipWith];lia,fun r3 sp H3 hr3 g3 er3 hw3 hb3=>?_,fun H3 g3 hno=>?_⟩
 ·have:=q H3 (g1.trans (g2.trans g3))
  rw[decide_eq_true (show z7q m ts sg from⟨hl,hs,sp,hw3⟩)] at this
  exact this
 ·exact no (fun h=>hno h.2.2) _ (g1.trans (g2.trans g3))
end
end L2
namespace L2
open PySem PySem.Spec PyProof.Rows
section
open Fr Wl Rk Pt Ld
open Builtin.Int (intBits)
variable {P:Program}{w:World}{K:PySem.W.Frag}{mg:Str→Option Value}{base:Heap}{f:Addr}{fd:FuncData}
abbrev z1Q:Stmt:=top 35
theorem sc_way_along:z0u ["ways","bounds","bound","way","row","found"] ["ways","bounds","bound","way"] (z0l z1Q):=⟨rfl,rfl,rfl,by decide+kernel,rfl,by decide+kernel,by decide+kernel⟩
abbrev z1C:Stmt:=top 36
theorem sc_way_within:z0u ["ways","bounds","way","place","bound"] ["ways","bounds"] (z0l z1C):=⟨rfl,rfl,rfl,by decide+kernel,rfl,by decide+kernel,by decide+kernel⟩
abbrev y7V (m:Nat) (bs:List (List Int)) (k:Nat) (H:Hp) (Q:VK):Prop:=
 (∀(r:Addr) (d:List Int) (H':Hp),H r=none→Same H H'→H' r=some (.lst (d.map V.int))→Wy m bs d→(∀n∈d,intBits n≤k)→Q (.ref r) H')∧(∀H',Same H H'→¬PWy m bs→Q .non H')
def z3U (K:PySem.W.Frag) (k:Nat):Sp:=fun vs H Q _=>∃(m:Nat) (l:Addr) (as:List Addr) (bs:List (List Int)) (b c:Nat),k=m+1∧vs=[.int (m:Nat),.ref l]∧H l=some (.lst (as.map V.ref))∧LsA H as bs∧(∀r∈bs,Bd m b c r)∧z6S m b c=true∧m≤5∧bs.length≤100∧y7V m bs (Sb m b c) H Q
def z8v (K:PySem.W.Frag) (k:Nat):Sp:=fun vs H Q _=>∃(m:Nat) (l ab q:Addr) (as:List Addr) (bs:List (List Int)) (bd d0:List Int) (b c:Nat),k=m+1∧vs=[.int (m:Nat),.ref l,.ref ab,.ref q]∧H l=some (.lst (as.map V.ref))∧LsA H as bs∧H ab=some (.lst (bd.map V.int))∧H q=some (.lst (d0.map V.int))∧(∀r∈bs,Bd m b c r)∧Bd m b c bd∧z6S m b c=true∧m≤5∧bs.length≤100∧Wy m bs d0∧hg m (v bd) (v d0)<0∧(∀n∈d0,intBits n≤Sb m b c)∧y7V m (bs++[bd]) (Sb m b c) H Q
theorem y1G (T:Txt mg) (F:Fun K "way_along" "way_along" z1Q f fd) (n:Nat) (c_height:Cal P w K mg base (6+2*n) "height" ["bound","spot"] (z1q K)) (c_turned:Cal P w K mg base (6+2*n) "turned" ["numbers","sign"] (z1O K)) (c_lead:Cal P w K mg base (6+2*n) "lead" ["bound"] (z6w K)) (c_drawn:Cal P w K mg base (6+2*n) "drawn" ["rows","numbers"] (z3X K)) (c_lifted:Cal P w K mg base (6+2*n) "lifted" ["rows","spot"] (z2N K)) (c_way_within:Cal P w K mg base (6+2*n) "way_within" ["ways","bounds"] (z3U K n)):FnOk P w K mg base CX0 (6+2*n+1) f fd ["ways","bounds","bound","way"] (z8v K (n+1)):=by
 refine F.ok sc_way_along (fun vs H Q E h=>?_) (fun cdv A outer s H vs Q E hr h=>?_)
 ·obtain⟨_,_,_,_,_,_,_,_,_,_,_,rfl,_⟩:=h;rfl
 obtain⟨m,l,ab,qd,as,bs,bd,d0,b,c,hk,rfl,hl,hls,hab,hqd,hB,hbd,hlim,m5,n100,hW0,hh0,db,q1,q2⟩:=h
 obtain rfl:n=m:=by lia
 refine⟨_,(z0d (z1k (z5b (z3x (z0A (z3c (K:=K) rfl rfl) rfl T.any boot_any (z0a (z0H (Nc:=["other","way"]) (fr:=[none,some 3]) rfl (z0w (K:=K) rfl (pv 1)) rfl (by decide) rfl (by decide) rfl ⟨rfl,trivial⟩ ⟨⟨rfl,rfl,rfl,rfl⟩,trivial⟩ (fun _ _ _ _=>(z0k (i:=0) (show List.Nodup (["other","way"]:List Str) from by decide) rfl (Or.inl rfl))) (fun _ _ _ _=>z0I) (fun _ _ _ _=>(z0p c_height hr rfl (z0a (pv 0) (z0a (pv 1) z0c))))) z0c)))) (z0g (z0v (z0p c_turned hr rfl (z0a (pv 3) (z0a (z1Z z1d z0j) z0c))))) z0E)
  (z0d (z0q (i:=4) sc_way_along.nd rfl (Or.inr rfl) (z0p c_turned hr rfl (z0a (pv 2) (z0a (z0p c_lead hr rfl (z0a (pv 2) z0c)) z0c))))
  (z0d (z0q (i:=5) sc_way_along.nd rfl (Or.inl rfl) (z0p c_way_within hr rfl (z0a (z0y z4r (pv 0) z0j) (z0a (z0H (Nc:=["other","row"]) (fr:=[none,some 4]) rfl (z0w (K:=K) rfl (pv 1)) rfl (by decide) rfl (by decide) rfl ⟨rfl,trivial⟩ ⟨⟨rfl,rfl,rfl,rfl⟩,trivial⟩ (fun _ _ _ _=>(z0k (i:=0) (show List.Nodup (["other","row"]:List Str) from by decide) rfl (Or.inl rfl))) (fun _ _ _ _=>z0I) (fun _ _ _ _=>(z0p c_drawn hr rfl (z0a (z0K (z0a (pv 1) z0c)) (z0a (pv 0) z0c))))) z0c))))
  (z0g (z0v (z3K (z3y (z5d (pv 5))) z3A (z0p c_lifted hr rfl (z0a (z0K (z0a (pv 4) z0c)) (z0a (pv 5) z0c))))))))),?_⟩
 obtain⟨b2,c2⟩:=z4v hlim
 have hS:=z8c hlim
 have hfp:=z9u hbd.len hW0.1 hh0
 obtain⟨m,rfl⟩:∃k,n=k+1:=⟨n - 1,by lia⟩
 obtain⟨hS2,hlim'⟩:=z5Z hlim
 have bl:=hbd.len
 have bnz:∃n∈bd,n≠0:=z6P (by lia)
 have ft:=z3s bnz (z0O bd)
 have hBt:=hbd.turn (z0O bd)
 have tnz:∃n∈z0o (ldL bd) bd,n≠0:=z1F (j:=fp bd) (by rw[z1i];have:=z2B bnz;lia)
 have tpos:0<v (z0o (ldL bd) bd) (fp (z0o (ldL bd) bd)):=by rw[z1i,ft];exact z2B bnz
 have hrl:∀u∈bs,u.length=m+2:=fun u hu=>(hB u hu).len
 refine z0x (fun σ H'=>∃s4 s5,σ=[some (.int ((m+1:Nat):Int)),some (.ref l),some (.ref ab),some (.ref qd),s4,s5]∧Same H H'∧∃u∈bs,hg (m+1) (v u) (v d0)≠0) (fun N hN=>?_) ?_
 ·refine⟨_,rfl,l,rfl,⟨_,SqL.of hl⟩,fun D hD=>?_⟩
  refine z0G (as.zip bs) (by rw[q0a,q1h,hls.1];lia) (z0r K l (as.map V.ref)) hD (fun e σ=>σ.set 0 (some (.ref e.1))) (fun d e σ=>q1Z ..) (fun _=>true) (fun H' e u=>u= .int (hg (m+1) (v e.2) (v d0))) (fun _ _ _ _ _ _ h=>h) (fun H' g'=>SqL.of (g' _ _ hl)) (z0h (by rw[q0a,hls.1];lia)) ?_ ?_ ?_ ?_
  ·intro i x e hx he σ H2 g2 S h
   rw[q0Z] at he
   rw[q0h,he.1] at hx
   cases hx
   exact h
  ·intro d hd Hc gc S h
   exact h _ (Same.refl _)
  ·intro e he _ Hc gc _ S h
   obtain⟨i,hi⟩:=q1N.mp he
   rw[q0Z] at hi
   have hBr:=hB e.2 (q0A hi.2)
   exact⟨_,rfl,_,rfl,e.1,qd,e.2,d0,m+1,rfl,gc _ _ (hls.2 i _ _ hi.1 hi.2),gc _ _ hqd,hBr.len,hW0.1.1,by lia,fun n hn=>z0s (hBr.all n hn) (by lia),fun n hn=>z0s (db n hn) (by lia),fun H' g'=>h _ _ g' rfl⟩
  ·intro us H1 g1 hD1 he
   rw[z0z] at he
   have eu:us=(bs.map fun u=>hg (m+1) (v u) (v d0)).map V.int:=by
        have:us=((as.zip bs).map fun e=>hg (m+1) (v e.2) (v d0)).map V.int:=by
         clear hD1 hN
         generalize as.zip bs=zs at he
         induction he with
         |nil=>rfl
         |cons h1 _ ih=>rw[h1,ih];rfl
        rw[this]
        congr 1
        have e2:(as.zip bs).map (fun e=>hg (m+1) (v e.2) (v d0))=((as.zip bs).map Prod.snd).map fun u=>hg (m+1) (v u) (v d0):=by rw[q0K];rfl
        rw[e2,List.map_snd_zip (by rw[hls.1];exact q0i _)]
   subst eu
   refine⟨D,_,rfl,.inl (SqL.of hD1),z2r _,_,rfl,?_⟩
   by_cases hany:∃n∈bs.map (fun u=>hg (m+1) (v u) (v d0)),n≠0
   ·rw[(z2b _).mpr hany]
    refine z5i ?_
    obtain⟨n,hn,n0⟩:=hany
    obtain⟨u,hu,rfl⟩:=q0f.mp hn
    exact hN _ _ ⟨_,_,rfl,g1,u,hu,n0⟩
   ·have h0:((bs.map fun u=>hg (m+1) (v u) (v d0)).map V.int).any trV=false:=by
     cases z:((bs.map fun u=>hg (m+1) (v u) (v d0)).map V.int).any trV with
     |false=>rfl
     |true=>exact absurd ((z2b _).mp z) hany
    rw[h0]
    refine z5h ?_
    have hz:∀u∈bs,hg (m+1) (v u) (v d0)=0:=fun u hu=>q0p fun z=>hany ⟨_,q0L hu,z⟩
    have hw:=y0o hW0 hz hh0
    refine⟨_,rfl,_,rfl,qd,d0,-1,rfl,.inl (SqL.of (g1 _ _ hqd)),by rw[hW0.1.1];lia,.inr rfl,fun n hn=>z0s (db n hn) (by lia),fun r H' hr g' e'=>?_⟩
    refine q1 r _ H' (g1.free hr) (g1.trans g') e' hw fun n hn=>?_
    unfold z0o at hn
    obtain⟨x,hx,rfl⟩:=q0f.mp hn
    exact z5A (.inr rfl) (db x hx)
 rintro σ H1 ⟨s4,s5,rfl,g1,hsome⟩
 refine z0x (fun σ H'=>∃ar s5,σ=[some (.int ((m+1:Nat):Int)),some (.ref l),some (.ref ab),some (.ref qd),some (.ref ar),s5]∧Same H H'∧H' ar=some (.lst ((z0o (ldL bd) bd).map V.int))) (fun N hN=>?_) ?_
 ·refine⟨_,rfl,_,rfl,ab,bd,rfl,g1 _ _ hab,by lia,bnz,fun H2 g2=>?_⟩
  exact⟨ab,bd,ldL bd,rfl,.inl (SqL.of ((g1.trans g2) _ _ hab)),by lia,z0O bd,fun n hn=>z0s (hbd.all n hn) (by lia),fun r H' hr g' e'=>hN _ _ ⟨r,_,rfl,g1.trans (g2.trans g'),e'⟩⟩
 clear g1
 rintro σ H1 ⟨ar,s5',rfl,g1,ear⟩
 have hl1:=g1 _ _ hl
 have hls1:=hls.same g1
 refine z0x (fun σ H'=>Same H H'∧((∃rf fs,σ=[some (.int ((m+1:Nat):Int)),some (.ref l),some (.ref ab),some (.ref qd),some (.ref ar),some (.ref rf)]∧H' rf=some (.lst (fs.map V.int))∧H' ar=some (.lst ((z0o (ldL bd) bd).map V.int))∧Wy m (bs.map (drR (z0o (ldL bd) bd))) fs∧∀n∈fs,intBits n≤Sb m (2*b+1) (b+c+1))∨(σ=[some (.int ((m+1:Nat):Int)),some (.ref l),some (.ref ab),some (.ref qd),some (.ref ar),some .non]∧¬PWy m (bs.map (drR (z0o (ldL bd) bd)))))) (fun N hN=>?_) ?_
 ·refine⟨_,rfl,_,_,rfl,rfl,_,rfl,l,rfl,⟨_,SqL.of hl1⟩,fun D hD=>?_⟩
  refine z3t rfl (z0r K l (as.map V.ref)) hD (fun _=>true) (fun H' x u=>∃(a:Addr) (t:List Int) (p:Addr),x=V.ref a∧u=V.ref p∧H1 a=some (.lst (t.map V.int))∧H' p=some (.lst ((drR (z0o (ldL bd) bd) t).map V.int))∧p≠D) ?_ (fun H' g'=>SqL.of (g' _ _ hl1)) (z0h (by rw[q0a,hls.1];lia)) ?_ ?_ ?_
  ·rintro H2 H3 x u k ⟨acc,hd⟩ ⟨a,t,p,e1,e2,e3,e4,e5⟩
   exact⟨a,t,p,e1,e2,e3,k _ _ e5 e4,e5⟩
  ·intro x hx Hc gc S h
   exact h _ (Same.refl _)
  ·rintro x hx _ Hc gc ⟨acc,hacc⟩ S h
   obtain⟨a,ha,rfl⟩:=q0f.mp hx
   obtain⟨i,hi,rfl⟩:=q0B.mp ha
   have hi2:i<bs.length:=by rw[←hls.1];exact hi
   have hc:=hls1.2 i _ _ (q0c hi) (q0c hi2)
   have htm:bs[i]∈bs:=q0z hi2
   generalize bs[i]=t at hc htm
   have hBr:=hB t htm
   refine⟨_,rfl,z0h (by show 1≤_;decide),fun z hz=>?_⟩
   have g2:=z0e hz (.lst [V.ref ar])
   refine⟨_,rfl,z,_,ar,z0o (ldL bd) bd,t,2000,rfl,z0b,g2 _ _ (gc _ _ ear),.inl (SqL.of (g2 _ _ (gc _ _ hc))),by rw[hBr.len,hBt.len],by rw[hBt.len];lia,tnz,fun n hn=>z0s (hBt.all n hn) (by lia),fun n hn=>z0s (hBr.all n hn) (by lia),by decide,fun r H3 hr3 _ g3 e3=>?_⟩
   exact h _ _ (g2.trans g3) ⟨_,t,r,rfl,rfl,hc,e3,fun z=>by rw[z] at hr3;have:=g2 _ _ hacc;rw[hr3] at this;cases this⟩
  ·intro us H2 g2 hD2 he
   rw[z0z] at he
   obtain⟨as1,rfl,hL1,hL2⟩:=z2Z (G:= .lst) (F:= .lst) (g:=drR (z0o (ldL bd) bd)) (fun xs ys h=>by injection h) hls1.1 hls1.2 (he.imp fun x u ⟨a,t,p,e1,e2,e3,e4,_⟩=>⟨a,t,p,e1,e2,e3,e4⟩)
   refine⟨m,D,as1,bs.map (drR (z0o (ldL bd) bd)),2*b+1,b+c+1,rfl,?_,hD2,⟨hL1,hL2⟩,fun r hr=>?_,hlim',by lia,by rw[q0a];lia,fun rf fs H3 hrf g3 erf hWf hbf=>?_,fun H3 g3 hno=>?_⟩
   ·show [V.int _,V.ref D]=_
    congr 2
    lia
   ·obtain⟨u,hu,rfl⟩:=q0f.mp hr
    exact hBt.draw (hB u hu) (by lia) tnz
   ·exact hN _ _ ⟨g1.trans (g2.trans g3),.inl ⟨rf,fs,rfl,erf,(g2.trans g3) _ _ ear,hWf,hbf⟩⟩
   ·exact hN _ _ ⟨g1.trans (g2.trans g3),.inr ⟨rfl,hno⟩⟩
 clear g1 hl1 hls1 ear
 rintro σ H1 ⟨g1,⟨rf,fs,rfl,erf,ear,hWf,hbf⟩|⟨rfl,hno⟩⟩
 ·refine⟨_,rfl,_,rfl,?_⟩
  refine z5i ?_
  have e0:Sb (m+1) b c=b+2*(max b c+Sb m (2*b+1) (b+c+1)+m+3)+4:=rfl
  refine⟨_,rfl,z0h (by show 1≤_;decide),fun z hz=>?_⟩
  have g2:=z0e hz (.lst [V.ref ar])
  have e2:upd H1 z (.lst [V.ref ar]) z=some (.lst [V.ref ar]):=z0b
  generalize upd H1 z (.lst [V.ref ar])=H2 at*
  obtain⟨j,hj,hjn⟩:=hWf.1.2.2
  refine⟨_,rfl,z,rf,ar,z0o (ldL bd) bd,fs,m,b,c,Sb m (2*b+1) (b+c+1),rfl,e2,g2 _ _ ear,g2 _ _ erf,hBt,by rw[ft];lia,tpos,hWf.1.1,⟨j,hjn⟩,hbf,b2,c2,by lia,by lia,fun r3 H3 hr3 g3 e3=>?_⟩
  have g13:=g1.trans (g2.trans g3)
  have hub:=z7w hBt (by rw[ft];lia) hWf.1.1 hbf
  have unz:∃n∈upL (m+1) (z0o (ldL bd) bd) fs,n≠0:=by
   refine z1F (j:=skp (fp (z0o (ldL bd) bd)) j) ?_
   rw[z2M hWf.1.1 (by rw[ft];lia)]
   exact q1g (by lia) hjn
  exact q1 r3 _ H3 ((g1.trans g2).free hr3) g13 e3 (y0p bl hrl (by lia) hWf) fun n hn=>z0s (z5Y unz hub n hn) (by lia)
 ·refine⟨_,rfl,_,rfl,?_⟩
  refine z5h ?_
  exact q2 _ g1 (y0q bl hrl hW0 hh0 hsome hno)
end
end L2
namespace L2
open PySem PySem.Spec PyProof.Rows
section
open Fr Wl Rk Pt Ld
open Builtin.Int (intBits)
variable {P:Program}{w:World}{K:PySem.W.Frag}{mg:Str→Option Value}{base:Heap}{f:Addr}{fd:FuncData}
def y4P (m:Nat):List Int:=1::List.replicate m 0
theorem y3R (m:Nat):Way (m+1) (y4P (m+1)):=by
 refine⟨by unfold y4P;simp,?_,0,by lia,show (1:Int)≠0 by decide⟩
 show (y4P (m+1)).getD (m+1) 0=0
 unfold y4P
 rw[q0b,List.getElem?_cons_succ,q2b,if_pos (by lia)];rfl
theorem y1D (m:Nat):∀n∈y4P m,intBits n≤1:=fun n hn=>by
 unfold y4P at hn
 rcases q0n.mp hn with rfl|h
 ·decide
 ·rw[(List.mem_replicate.mp h).2];decide
theorem y5T (T:Txt mg) (F:Fun K "way_within" "way_within" z1C f fd) (n:Nat) (c_height:Cal P w K mg base (7+2*n) "height" ["bound","spot"] (z1q K)) (c_way_along:Cal P w K mg base (7+2*n) "way_along" ["ways","bounds","bound","way"] (z8v K (n+1))):FnOk P w K mg base CX0 (7+2*n+1) f fd ["ways","bounds"] (z3U K (n+1)):=by
 refine F.ok sc_way_within (fun vs H Q E h=>?_) (fun cdv A outer s H vs Q E hr h=>?_)
 ·obtain⟨_,_,_,_,_,_,_,rfl,_⟩:=h;rfl
 obtain⟨m,l,as,bs,b,c,hk,rfl,hl,hls,hB,hlim,m5,n100,q1,q2⟩:=h
 obtain rfl:n=m:=by lia
 refine⟨_,(z0d (z1k (z0D z4M (pv 0) z0j (z0M _)) (z0g (z0v z3A)) z0E)
  (z0d (z0q (i:=2) sc_way_within.nd rfl (Or.inl rfl) (z0y z2z (z0K (z0a z0j z0c)) (z0y z6K (z0K (z0a z0j z0c)) (pv 0))))
  (z0d (z0W PassesOwn.never rfl (z5O (K:=K) rfl rfl T.enumerate (z0a (pv 1) z0c)) (z0Q (K:=K) rfl 2 rfl (z0t (z0k (i:=3) sc_way_within.nd rfl (Or.inl rfl)) (z0t (z0k (i:=4) sc_way_within.nd rfl (Or.inl rfl)) z0P))) (z0g (z1k (z0D y3P (z0p c_height hr rfl (z0a (pv 4) (z0a (pv 2) z0c))) z0j (z0M _)) (z0d (z0q (i:=2) sc_way_within.nd rfl (Or.inl rfl) (z0p c_way_along hr rfl (z0a (pv 0) (z0a (z1t (z1P (K:=K) rfl) (pv 1) z1W (z1V (pv 3))) (z0a (pv 4) (z0a (pv 2) z0c))))))
  (z0g (z1k (z3y (z5d (pv 2))) (z0g (z0v z3A)) z0E))) z0E)))
  (z0g (z0v (pv 2)))))),?_⟩
 obtain⟨b2,c2⟩:=z4v hlim
 have hS:=z8c hlim
 refine z0x (fun σ H'=>σ=[some (.int (n:Nat)),some (.ref l),none,none,none]∧H=H'∧n≠0) (fun N hN=>?_) ?_
 ·refine⟨_,rfl,rfl,_,rfl,?_⟩
  refine z6c (fun cc=>?_) (fun cc=>?_)
  ·have:n=0:=by
        have:=of_decide_eq_true cc
        injection this with z
        lia
   subst this
   exact q2 _ (Same.refl _) (y1Q _)
  ·exact hN _ _ ⟨rfl,rfl,fun z=>cc (decide_eq_true (by rw[z];rfl))⟩
 rintro σ H0 ⟨rfl,rfl,n0⟩
 obtain⟨k,rfl⟩:∃k,n=k+1:=⟨n - 1,by lia⟩
 refine z0x (fun σ H'=>∃r,H r=none∧σ=[some (.int ((k+1:Nat):Int)),some (.ref l),some (.ref r),none,none]∧Same H H'∧H' r=some (.lst ((y4P (k+1)).map V.int))) (fun N hN=>?_) ?_
 ·refine⟨z0h (by show 1≤_;decide),fun z2 hz2=>?_⟩
  have g2:=z0e hz2 (.lst [V.int 1])
  have e2:upd H z2 (.lst [V.int 1]) z2=some (.lst [V.int 1]):=z0b
  generalize upd H z2 (.lst [V.int 1])=H2 at*
  refine⟨z0h (by show 1≤_;decide),fun z hz=>?_⟩
  have g0:=z0e hz (.lst [V.int 0])
  have e0:upd H2 z (.lst [V.int 0]) z=some (.lst [V.int 0]):=z0b
  generalize upd H2 z (.lst [V.int 0])=H0 at*
  refine⟨_,rfl,z,_,_,rfl,rfl,e0,by lia,by lia,z0h (by rw[q0E];show 1*(k+1)≤_;lia),fun z1 hz1=>?_⟩
  rw[q0E,z3g]
  have g1:=z0e hz1 (.lst ((List.replicate (k+1) (0:Int)).map V.int))
  have e1:upd H0 z1 (.lst ((List.replicate (k+1) (0:Int)).map V.int)) z1=some (.lst ((List.replicate (k+1) (0:Int)).map V.int)):=z0b
  generalize upd H0 z1 (.lst ((List.replicate (k+1) (0:Int)).map V.int))=H1 at*
  refine⟨z2,z1,_,_,rfl,rfl,(g0.trans g1) _ _ e2,e1,z0h (by rw[q0a,q1c];show 1+(k+1)≤_;lia),fun z3 hz3=>?_⟩
  have g02:=g2.trans (g0.trans g1)
  refine hN _ _ ⟨z3,g02.free hz3,rfl,g02.trans (z0e hz3 _),?_⟩
  rw[z0b]
  rfl
 rintro σ H0 ⟨r0,hr0,rfl,g0,e0⟩
 refine z0x (fun σ H'=>∃r sp s3 s4,H r=none∧σ=[some (.int ((k+1:Nat):Int)),some (.ref l),some (.ref r),s3,s4]∧Same H H'∧H' r=some (.lst (sp.map V.int))∧Wy (k+1) bs sp∧∀n'∈sp,intBits n'≤Sb (k+1) b c) (fun N hN=>?_) ?_
 ·refine⟨_,rfl,l,_,rfl,g0 _ _ hl,?_⟩
  refine z0C (z4l K l (as.map V.ref)) (fun i σ H'=>∃r sp s3 s4,H r=none∧σ=[some (.int ((k+1:Nat):Int)),some (.ref l),some (.ref r),s3,s4]∧Same H H'∧H' r=some (.lst (sp.map V.int))∧Wy (k+1) (bs.take i) sp∧∀n'∈sp,intBits n'≤Sb (k+1) b c)
   ⟨r0,y4P (k+1),_,_,hr0,rfl,g0,e0,⟨y3R k,fun b' hb'=>by simp at hb'⟩,fun n' hn'=>z0s (y1D _ n' hn') (y3d _ _ _)⟩ (fun i σ H' _ h=>by obtain⟨_,_,_,_,_,_,g,_⟩:=h;exact SqL.of (g _ _ hl)) ?_ ?_
  ·clear e0 g0 hr0
   rintro i x σ H1 H2 hi ⟨r,sp,s3,s4,hr1,rfl,g,er,hW,hb⟩ ⟨pr,vv,rfl,hpr,hvv,rfl⟩
   rw[q0a,hls.1] at hi
   rw[q0h] at hvv
   obtain⟨a,ha,rfl⟩:=q0u.mp hvv
   have et:bs[i]? =some bs[i]:=q0c hi
   have hum:bs[i]∈bs:=q0z hi
   have tk:bs.take (i+1)=bs.take i++[bs[i]]:=by rw[q0R,et];rfl
   generalize bs[i]=bd at et hum tk
   have g2:=z0e hpr (.tup [.int i,.ref a])
   have ep:upd H1 pr (.tup [.int i,.ref a]) pr=some (.tup [.int i,.ref a]):=z0b
   generalize upd H1 pr (.tup [.int i,.ref a])=H2 at*
   have gg2:=g.trans g2
   have hbd:=hB bd hum
   have hab:=gg2 _ _ (hls.2 i a bd ha et)
   refine⟨pr,_,rfl,SqT.of ep,rfl,_,_,rfl,_,_,rfl,rfl,?_⟩
   refine⟨_,rfl,_,rfl,a,r,bd,sp,k+1,rfl,hab,g2 _ _ er,hbd.len,hW.1.1,by lia,fun n' hn'=>z0s (hbd.all n' hn') (by lia),fun n' hn'=>z0s (hb n' hn') (by lia),fun H3 g3=>?_⟩
   refine⟨_,_,rfl,rfl,_,rfl,?_⟩
   have gg3:=gg2.trans g3
   refine z6c (fun cc=>?_) (fun cc=>?_)
   ·have hlt:hg (k+1) (v bd) (v sp)<0:=of_decide_eq_true cc
    refine⟨_,rfl,_,rfl,_,rfl,_,rfl,l,_,rfl,SqL.of (gg3 _ _ hl),fun p1 hp1=>?_⟩
    rw[y2P (by lia) (by rw[q0a,hls.1];lia),q0E,←List.map_take]
    have g4:=z0e hp1 (.lst ((as.take i).map V.ref))
    have e4:upd H3 p1 (.lst ((as.take i).map V.ref)) p1=some (.lst ((as.take i).map V.ref)):=z0b
    generalize upd H3 p1 (.lst ((as.take i).map V.ref))=H4 at*
    have gg4:=gg3.trans g4
    have hls4:LsA H4 (as.take i) (bs.take i):=⟨by rw[q0w,q0w,hls.1],fun j a' t' e1 e2=>by
     have hj:j<i:=by
         have:=(q0H.mp e2).1
         rw[q0w] at this;lia
     rw[q1V hj] at e1 e2
     exact gg4 _ _ (hls.2 j a' t' e1 e2)⟩
    refine⟨_,rfl,_,rfl,k+1,p1,a,r,as.take i,bs.take i,bd,sp,b,c,rfl,rfl,e4,hls4,(g3.trans g4) _ _ hab,(g2.trans (g3.trans g4)) _ _ er,fun r' hr'=>hB r' (List.mem_of_mem_take hr'),hbd,hlim,m5,by rw[q0w];lia,hW,hlt,hb,fun r5 sp5 H5 hr5 g5 er5 hW5 hb5=>?_,fun H5 g5 hno=>?_⟩
    ·refine⟨_,rfl,_,rfl,?_⟩
     refine z5i ?_
     exact⟨r5,sp5,_,_,gg4.free hr5,rfl,gg4.trans g5,er5,by rw[tk];exact hW5,hb5⟩
    ·refine⟨_,rfl,_,rfl,?_⟩
     refine z5h ?_
     refine q2 _ (gg4.trans g5) fun hp=>hno ?_
     rw[←tk]
     exact PWy.less (cs:=bs.drop (i+1)) (by rw[q1M];exact hp)
   ·have hge:¬hg (k+1) (v bd) (v sp)<0:=fun z=>cc (decide_eq_true z)
    refine⟨r,sp,_,_,hr1,rfl,gg3,(g2.trans g3) _ _ er,⟨hW.1,fun b' hb'=>?_⟩,hb⟩
    rw[tk] at hb'
    rcases q0I.mp hb' with h|h
    ·exact hW.2 b' h
    ·rw[q0g.mp h];lia
  ·rintro σ H1 ⟨r,sp,s3,s4,hr1,rfl,g,er,hW,hb⟩
   rw[q0a,hls.1,q0T] at hW
   exact hN _ _ ⟨r,sp,_,_,hr1,rfl,g,er,hW,hb⟩
 clear e0 g0 hr0
 rintro σ H1 ⟨r,sp,s3,s4,hr1,rfl,g,er,hW,hb⟩
 exact⟨_,rfl,q1 r sp H1 hr1 g er hW hb⟩
theorem y1F {fa:Addr}{fda:FuncData} (T:Txt mg) (Fa:Fun K "way_along" "way_along" z1Q fa fda) (ba:Binds K fda ["ways","bounds","bound","way"] []) (ka:PySem.W.keepIn K (.ref fa)=true) (ma:mg "way_along"=some (.ref fa))
 (F:Fun K "way_within" "way_within" z1C f fd) (bw:Binds K fd ["ways","bounds"] []) (kw:PySem.W.keepIn K (.ref f)=true) (mw:mg "way_within"=some (.ref f))
 (c_turned:Cal P w K mg base 5 "turned" ["numbers","sign"] (z1O K)) (c_lead:Cal P w K mg base 5 "lead" ["bound"] (z6w K)) (c_drawn:Cal P w K mg base 5 "drawn" ["rows","numbers"] (z3X K)) (c_lifted:Cal P w K mg base 5 "lifted" ["rows","spot"] (z2N K)) (c_height:Cal P w K mg base 5 "height" ["bound","spot"] (z1q K)):
 ∀n,FnOk P w K mg base CX0 (6+2*n) f fd ["ways","bounds"] (z3U K n)∧FnOk P w K mg base CX0 (6+2*n+1) fa fda ["ways","bounds","bound","way"] (z8v K (n+1))
 |0=>by
  have cw:FnOk P w K mg base CX0 (6+2*0) f fd ["ways","bounds"] (z3U K 0):=⟨fun _ _ _ _ h=>by obtain⟨_,_,_,_,_,_,e,_⟩:=h;lia,fun _ _ _ _ _ _ _ _ _ _ _ _ _ h=>by obtain⟨_,_,_,_,_,_,e,_⟩:=h;lia⟩
  exact⟨cw,y1G T Fa 0 (c_height.mono (by lia)) (c_turned.mono (by lia)) (c_lead.mono (by lia)) (c_drawn.mono (by lia)) (c_lifted.mono (by lia)) ⟨f,fd,cw,bw,kw,mw⟩⟩
 |n+1=>by
  obtain⟨_,ha⟩:=y1F T Fa ba ka ma F bw kw mw c_turned c_lead c_drawn c_lifted c_height n
  have e7:6+2*n+1=7+2*n:=by lia
  have ha':Cal P w K mg base (7+2*n) "way_along" ["ways","bounds","bound","way"] (z8v K (n+1)):=⟨fa,fda,by rw[←e7];exact ha,ba,ka,ma⟩
  have hw:=y5T T F n (c_height.mono (by lia)) ha'
  have e8:7+2*n+1=6+2*(n+1):=by lia
  rw[e8] at hw
  exact⟨hw,y1G T Fa (n+1) (c_height.mono (by lia)) (c_turned.mono (by lia)) (c_lead.mono (by lia)) (c_drawn.mono (by lia)) (c_lifted.mono (by lia)) ⟨f,fd,hw,bw,kw,mw⟩⟩
abbrev z1R:Stmt:=top 34
theorem z4J:z0u ["ways","walls","signs"] ["ways","walls","signs"] (z0l z1R):=⟨rfl,rfl,rfl,by decide+kernel,rfl,by decide+kernel,by decide+kernel⟩
def z6v (K:PySem.W.Frag):Sp:=fun vs H Q _=>∃(m:Nat) (lw q:Addr) (as:List Addr) (ts:List (List Int)) (sg:List Int) (b c:Nat),vs=[.int (m:Nat),.ref lw,.ref q]∧WsA K H m lw as ts b c∧H q=some (.tup (sg.map V.int))∧sg.length≤30∧z7q m ts sg∧∀H',Same H H'→Q .non H'
open Classical in
theorem z4N (T:Txt mg) (F:Fun K "looked_land" "looked_land" z1R f fd) (c_is_land:Cal P w K mg base 17 "is_land" ["ways","walls","signs"] (z8z K)):FnOk P w K mg base CX0 18 f fd ["ways","walls","signs"] (z6v K):=by
 refine F.ok z4J (fun vs H Q E h=>?_) (fun cdv A outer s H vs Q E hr h=>?_)
 ·obtain⟨_,_,_,_,_,_,_,_,rfl,_⟩:=h;rfl
 obtain⟨m,lw,q',as,ts,sg,b,c,rfl,hW,hq,s30,hg,q⟩:=h
 refine⟨_,(z0g (z1k (z5b (z3x (z0p c_is_land hr rfl (z0a (pv 0) (z0a (pv 1) (z0a (pv 2) z0c)))))) (z0g z5M) z0E)),?_⟩
 refine⟨_,rfl,_,rfl,_,rfl,m,lw,q',as,ts,sg,b,c,rfl,hW,hq,s30,fun H1 g1=>?_⟩
 refine⟨_,rfl,?_⟩
 rw[decide_eq_true hg]
 refine z5i ?_
 exact q _ g1
abbrev z4a:Stmt:=top 37
theorem sc_way_out:z0u ["ways","walls","signs","way"] ["ways","walls","signs"] (z0l z4a):=⟨rfl,rfl,rfl,by decide+kernel,rfl,by decide+kernel,by decide+kernel⟩
def z8u (K:PySem.W.Frag):Sp:=fun vs H Q _=>∃(m:Nat) (lw q:Addr) (as:List Addr) (ts:List (List Int)) (sg:List Int) (b c:Nat),vs=[.int (m:Nat),.ref lw,.ref q]∧WsA K H m lw as ts b c∧H q=some (.tup (sg.map V.int))∧sg.length≤30∧
 z7q m ts sg∧(∀(r:Addr) (d:List Int) (H':Hp),Same H H'→H' r=some (.tup (d.dropLast.map V.int))→Wy m (bdL ts sg) d→(∀n∈d,intBits n≤12000)→Q (.ref r) H')∧(∀H',Same H H'→¬PWy m (bdL ts sg)→Q .non H')
theorem z9N (T:Txt mg) (F:Fun K "way_out" "way_out" z4a f fd) (c_looked_land:Cal P w K mg base 18 "looked_land" ["ways","walls","signs"] (z6v K)) (c_bounds_at:Cal P w K mg base 18 "bounds_at" ["walls","signs"] (z3H K)) (c0:∀m,m≤4→Cal P w K mg base 18 "way_within" ["ways","bounds"] (z3U K (m+1))):FnOk P w K mg base CX0 19 f fd ["ways","walls","signs"] (z8u K):=by
 refine F.ok sc_way_out (fun vs H Q E h=>?_) (fun cdv A outer s H vs Q E hr h=>?_)
 ·obtain⟨_,_,_,_,_,_,_,_,rfl,_⟩:=h;rfl
 obtain⟨m,lw,q',as,ts,sg,b,c,rfl,hW,hq,s30,hg,q1,q2⟩:=h
 have c_way_within:=c0 m hW.m4
 have m4:=hW.m4
 have n8:=hW.n8
 refine⟨_,(z0d (z2E (z0p c_looked_land hr rfl (z0a (pv 0) (z0a (pv 1) (z0a (pv 2) z0c)))))
  (z0d (z0q (i:=3) sc_way_out.nd rfl (Or.inl rfl) (z0p c_way_within hr rfl (z0a (pv 0) (z0a (z0p c_bounds_at hr rfl (z0a (pv 1) (z0a (pv 2) z0c))) z0c))))
  (z0g (z0v (z3K (z3y (z5d (pv 3))) z3A (z0T (z2J (K:=K) rfl) rfl T.tuple boot_tuple (z0a (z1t (z1P (K:=K) rfl) (pv 3) z1W (z1V (z1Z z1d z0j))) z0c))))))),?_⟩
 obtain⟨b2,c2⟩:=z4v hW.lim
 have hS:=z8c hW.lim
 refine z0x (fun σ H'=>σ=[some (.int (m:Nat)),some (.ref lw),some (.ref q'),none]∧Same H H') (fun N hN=>?_) ?_
 ·exact⟨_,rfl,_,rfl,_,rfl,m,lw,q',as,ts,sg,b,c,rfl,hW,hq,s30,hg,fun H1 g1=>hN _ _ ⟨rfl,g1⟩⟩
 rintro σ H1 ⟨rfl,g1⟩
 have hW1:=hW.same g1
 refine z0x (fun σ H'=>Same H H'∧((∃r d,σ=[some (.int (m:Nat)),some (.ref lw),some (.ref q'),some (.ref r)]∧H' r=some (.lst (d.map V.int))∧Wy m (bdL ts sg) d∧∀n∈d,intBits n≤12000)∨(σ=[some (.int (m:Nat)),some (.ref lw),some (.ref q'),some .non]∧¬PWy m (bdL ts sg)))) (fun N hN=>?_) ?_
 ·refine⟨_,rfl,_,rfl,_,rfl,lw,q',as,ts,sg,rfl,hW1.lst,hW1.rows,g1 _ _ hq,hg.1.symm,hg.2.1,by lia,fun u hu=>⟨by rw[(hW.bd u hu).len];lia,fun n hn=>z0s ((hW.bd u hu).all n hn) (by lia)⟩,fun rb bs H2 hrb g2 erb hbs=>?_⟩
  refine⟨m,rb,bs,bdL ts sg,b,c,rfl,rfl,erb,hbs,y6B hW.bd hg.2.1,hW.lim,by lia,by unfold bdL;rw[List.length_zipWith];lia,fun r3 d H3 hr3 g3 er3 hw3 hb3=>?_,fun H3 g3 hno=>?_⟩
  ·exact hN _ _ ⟨g1.trans (g2.trans g3),.inl ⟨r3,d,rfl,er3,hw3,fun n hn=>z0s (hb3 n hn) hS⟩⟩
  ·exact hN _ _ ⟨g1.trans (g2.trans g3),.inr ⟨rfl,hno⟩⟩
 clear g1 hW1
 rintro σ H1 ⟨g1,⟨r,d,rfl,er,hw,hb⟩|⟨rfl,hno⟩⟩
 ·have dl:=hw.1.1
  obtain⟨d',y,ed⟩:∃a' x,d=a'++[x]:=⟨d.dropLast,d.getLast (fun z=>by rw[z] at dl;simp at dl),(q0Q _).symm⟩
  have er':H1 r=some (.lst (d'.map V.int++[V.int y])):=by rw[er,ed,q0r];rfl
  refine⟨_,rfl,_,rfl,?_⟩
  refine z5i ?_
  refine⟨_,rfl,_,rfl,_,rfl,r,_,rfl,SqL.of er',fun z hz=>?_⟩
  rw[z2t]
  have g2:=z0e hz (.lst (d'.map V.int))
  refine⟨z,_,rfl,.inl ⟨SqL.of z0b,fun r2 hr2=>?_⟩⟩
  refine q1 r2 d _ (g1.trans (g2.trans (z0e hr2 _))) ?_ hw hb
  rw[z0b,ed,List.dropLast_concat]
 ·refine⟨_,rfl,_,rfl,?_⟩
  refine z5h ?_
  exact q2 _ g1 hno
end
end L2
namespace L2
open PySem PySem.Spec PyProof.Rows
section
open Fr Wl Rk
open Builtin.Int (intBits)
variable {P:Program}{w:World}{K:PySem.W.Frag}{mg:Str→Option Value}{base:Heap}{f:Addr}{fd:FuncData}
theorem z6u {rs:List Int} (h:0<rs.length):∃ns last,rs=ns++[last]:=⟨rs.dropLast,rs.getLast (fun z=>by rw[z] at h;simp at h),(q0Q _).symm⟩
theorem z8d {m:Nat}:∀(l:List Nat) (k:Nat),l.Pairwise (· < ·)→(∀x∈l,k≤x∧x<m)→l.length≤m - k
 |[],_,_,_=>Nat.zero_le _
 |x::l,k,hp,h=>by
  have hx:=h x q0l
  have:=z8d l (x+1) (q1P.mp hp).2 fun y hy=>⟨(q1P.mp hp).1 y hy,(h y (q0j _ hy)).2⟩
  rw[q0J]
  lia
theorem Rk.Rws.len {m:Nat}{us:List (List Int)} (h:Rws m us):us.length≤m:=by
 have:=z8d (m:=m) (us.map fp) 0 (by rw[q1a];exact h.up) fun x hx=>by
  obtain⟨t,ht,rfl⟩:=q0f.mp hx
  exact⟨q0N _,(h.row t ht).2.1⟩
 rw[q0a] at this
 exact this
def bnJ (B:Nat):Nat→Nat
 |0=>0
 |k+1=>bnJ B k+(B+k*(bnJ B k+1))+1
theorem bnJ3 {B k:Nat} (hB:B≤130) (hk:k≤3):bnJ B k≤1315:=by
 rcases (by lia:k=0∨k=1∨k=2∨k=3) with e|e|e|e<;>subst e<;>simp only[bnJ]<;>lia
theorem bnJ4 {B k:Nat} (hB:B≤130) (hk:k≤4):bnJ B k≤5394:=by
 rcases (by lia:k=0∨k=1∨k=2∨k=3∨k=4) with e|e|e|e|e<;>subst e<;>simp only[bnJ]<;>lia
def z8y (K:PySem.W.Frag):Sp:=fun vs H Q _=>∃(l p:Addr) (bs:List Addr) (us:List (List Int)) (xs:List Int) (m B:Nat),vs=[.ref l,.ref p]∧H l=some (.lst (bs.map V.ref))∧TsA H bs us∧H p=some (.tup (xs.map V.int))∧xs.length=m+1∧m≤4∧B≤130∧(∀n∈xs,intBits n≤B)∧Rws m us∧(∀t∈us,∀n∈t,intBits n≤bnJ B us.length)∧
 (∀(r:Addr) (bs':List Addr) (us':List (List Int)) (H':Hp),H r=none→Same H H'→H' r=some (.lst (bs'.map V.ref))→TsA H' bs' us'→Rws m us'→(∀t∈us',∀n∈t,intBits n≤bnJ B us'.length)→In (us'.map v)=In (v xs::us.map v)→Q (.ref r) H')∧
 (∀H',Same H H'→(∃z,In (v xs::us.map v) z∧(∀j,j<m→z j=0)∧z m≠0)→Q .non H')
theorem z9d {m j:Nat}:∀(l:List Nat) (k:Nat),l.Pairwise (· < ·)→(∀x∈l,k≤x∧x<m)→j∉l→k≤j→j<m→l.length+1≤m - k
 |[],k,_,_,_,h1,h2=>by rw[List.length_nil];lia
 |x::l,k,hp,h,hj,h1,h2=>by
  have hx:=h x q0l
  have hne:x≠j:=fun e=>hj (by rw[e];exact q0l)
  have low:=(q1P.mp hp).1
  rw[q0J]
  by_cases hlt:x<j
  ·have:=z9d (m:=m) (j:=j) l (x+1) (q1P.mp hp).2 (fun y hy=>⟨low y hy,(h y (q0j _ hy)).2⟩) (fun z=>hj (q0j _ z)) (by lia) h2
   lia
  ·have:=z8d (m:=m) l (x+1) (q1P.mp hp).2 fun y hy=>⟨low y hy,(h y (q0j _ hy)).2⟩
   lia
theorem Rk.Rws.lt {m:Nat}{us:List (List Int)} (h:Rws m us) {y:List Int} (h0:∀t∈us,v y (fp t)=0) {j:Nat} (hj:j<m) (hn:v y j≠0):us.length+1≤m:=by
 have:=z9d (m:=m) (j:=j) (us.map fp) 0 (by rw[q1a];exact h.up) (fun x hx=>by
  obtain⟨t,ht,rfl⟩:=q0f.mp hx
  exact⟨q0N _,(h.row t ht).2.1⟩) (fun hx=>by
  obtain⟨t,ht,e⟩:=q0f.mp hx
  exact hn (by rw[←e];exact h0 t ht)) (q0N _) hj
 rw[q0a] at this
 lia
theorem z5c {rs:List Int}{k:Nat} (h:∃n∈rs,n≠0) (hb:∀n∈rs,intBits n≤k):∀n∈z0m rs,intBits n≤k:=fun n hn=>by
 unfold z0m at hn
 obtain⟨x,hx,rfl⟩:=q0f.mp hn
 exact intBits_le_of_natAbs (z1G (z3u hx) (z3d h)) (hb x hx)
theorem y3K {α β:Type}{g:α→β}{l2:List α}{l:List β} (h:l.Perm (l2.map g)):∃l':List α,l'.Perm l2∧l=l'.map g:=by
 have base:∀l2:List α,Paired (fun a b=>b=g a) l2 (l2.map g):=fun l2=>by
  induction l2 with
  |nil=>exact .nil
  |cons a l ih=>exact .cons rfl ih
 obtain⟨l',h1,h2⟩:=z4o h (base l2)
 refine⟨l',h1,?_⟩
 clear h h1 base
 induction h2 with
 |nil=>rfl
 |cons e _ ih=>rw[List.map_cons,e,ih]
theorem y6M {H:Hp}{as:List Addr}{ts:List (List Int)} (h:TsA H as ts) {c:List Int×Addr} (hc:c∈ts.zip as):H c.2=some (.tup (c.1.map V.int)):=by
 obtain⟨i,hi,e⟩:=q0B.mp hc
 rw[q1h] at hi
 rw[List.getElem_zip] at e
 have e1:ts[i]=c.1:=congrArg Prod.fst e
 have e2:as[i]'(by lia)=c.2:=congrArg Prod.snd e
 exact h.2 i c.2 c.1 (by rw[q0c (by lia),e2]) (by rw[q0c (by lia),e1])
theorem ts_of {H:Hp}{zs:List (List Int×Addr)} (h:∀c∈zs,H c.2=some (.tup (c.1.map V.int))):TsA H (zs.map Prod.snd) (zs.map Prod.fst):=by
 refine⟨by rw[q0a,q0a],fun i a t e1 e2=>?_⟩
 rw[q0h] at e1 e2
 obtain⟨c,hc,rfl⟩:=q0u.mp e1
 rw[hc] at e2
 cases e2
 exact h c (q0A hc)
theorem y2C {H1 H':Hp}{r:List Int}{as:List Addr}{ts:List (List Int)}{us:List V} (h:TsA H1 as ts) (e:Each (fun x u=>∃(a:Addr) (t:List Int) (p:Addr),x=V.ref a∧u=V.ref p∧H1 a=some (.tup (t.map V.int))∧H' p=some (.tup ((z1y r t).map V.int))) (as.map V.ref) us):∃as',us=as'.map V.ref∧TsA H' as' (ts.map (z1y r)):=by
 induction us generalizing as ts with
 |nil=>
  have:=e.length
  rw[q0a] at this
  have h0:as=[]:=q0Y.mp this
  subst h0
  have h1:ts=[]:=q0Y.mp (by rw[←h.1];rfl)
  subst h1
  exact⟨[],rfl,TsA.nil⟩
 |cons u us ih=>
  cases as with
  |nil=>cases e
  |cons a as=>
   cases ts with
   |nil=>have:=h.1;simp at this
   |cons t ts=>
    cases e with
    |cons e1 e2=>
     obtain⟨b,t',p,hb,rfl,h1,h2⟩:=e1
     cases hb
     have ht:=h.2 0 a t rfl rfl
     rw[ht] at h1
     have et:t=t':=by
      have z:t.map V.int=t'.map V.int:=by injection h1 with z;injection z
      exact List.map_inj_right (fun x y h=>by injection h) |>.mp z
     subst et
     obtain⟨as',rfl,hh⟩:=ih ⟨by simpa using h.1,fun i b u e1 e2=>h.2 (i+1) b u (by simpa using e1) (by simpa using e2)⟩ e2
     refine⟨p::as',rfl,by simp[hh.1],fun i b u e1 e2=>?_⟩
     cases i with
     |zero=>cases e1;cases e2;exact h2
     |succ i=>exact hh.2 i b u (by simpa using e1) (by simpa using e2)
abbrev z5H:Stmt:=top 18
theorem sc_joined:z0u ["rows","numbers","rest","added","kept"] ["rows","numbers"] (z0l z5H):=⟨rfl,rfl,rfl,by decide+kernel,rfl,by decide+kernel,by decide+kernel⟩
theorem y1M (T:Txt mg) (F:Fun K "joined" "joined" z5H f fd) (c_rest_by:Cal P w K mg base 4 "rest_by" ["rows","numbers"] (y0P K)) (c_wall:Cal P w K mg base 4 "wall" ["numbers"] (y0M K)) (c_cleared:Cal P w K mg base 4 "cleared" ["numbers","row"] (z3Y K)) (c_first_place:Cal P w K mg base 2 "first_place" ["row"] (z2g K)):FnOk P w K mg base CX0 5 f fd ["rows","numbers"] (z8y K):=by
 refine F.ok sc_joined (fun vs H Q E h=>?_) (fun cdv A outer s H vs Q E hr h=>?_)
 ·obtain⟨_,_,_,_,_,_,_,rfl,_⟩:=h;rfl
 obtain⟨l,p,bs,us,xs,m,B,rfl,hl,htu,hp,hlx,m4,hB,zx,hR,zb,q1,q2⟩:=h
 refine⟨_,(z0d (z0q (i:=2) sc_joined.nd rfl (Or.inl rfl) (z0p c_rest_by hr rfl (z0a (pv 0) (z0a (pv 1) z0c))))
  (z0d (z1k (z3x (z0A (z3c (K:=K) rfl rfl) rfl T.any boot_any (z0a (z1t (y0Y (K:=K) rfl) (pv 2) z1W (z1V (z1Z z1d z0j))) z0c))) (z0d (z0q (i:=3) sc_joined.nd rfl (Or.inr rfl) (z0p c_wall hr rfl (z0a (pv 2) z0c)))
  (z0d (z3m (jj:=4) rfl sc_joined.nd rfl (Or.inl rfl) (Or.inl rfl) (Nc:=["row","added"]) (fr:=[none,some 3]) rfl (z0w (K:=K) rfl (pv 0)) rfl (by decide) rfl (by decide) rfl ⟨rfl,trivial⟩ ⟨⟨rfl,rfl,rfl,rfl⟩,trivial⟩ (fun _ _ _ _=>(z0k (i:=0) (show List.Nodup (["row","added"]:List Str) from by decide) rfl (Or.inl rfl))) (fun _ _ _ _=>z0I) (fun _ _ _ _=>(z0p c_wall hr rfl (z0a (z0p c_cleared hr rfl (z0a (pv 0) (z0a (pv 1) z0c))) z0c))))
  (z0g (z0v (y3L c_first_place hr rfl T.sorted rfl (z0y z2z (pv 4) (z0K (z0a (pv 3) z0c)))))))) z0E)
  (z0d (z1k (z0D z4M (z0N (z0F (K:=K) rfl) (pv 2) (z1Z z1d z0j) (fun _ _=>rfl)) z0j (z0M _)) (z0g (z0v (z0T (z2u (K:=K) rfl) rfl T.list boot_list (z0a (pv 0) z0c)))) z0E)
  (z0g (z0v z3A))))),?_⟩
 have ul:=hR.len
 have b4:bnJ B us.length≤5394:=bnJ4 hB (by lia)
 obtain⟨rl,rz,_⟩:=hR.rest hlx
 refine⟨_,rfl,_,rfl,l,p,bs,us,xs,B,bnJ B us.length,rfl,hl,htu,.inr (SqT.of hp),by lia,by lia,fun t ht=>⟨by rw[(hR.row t ht).1,hlx],hR.nz ht,zb t ht⟩,zx,by lia,fun i hi=>?_,fun r H1 zr lr g1 er=>?_⟩
 ·have:i*(bnJ B us.length+1)≤3*(bnJ B us.length+1):=Nat.mul_le_mul_right _ (by lia)
  lia
 have hoff:=hR.off_all hlx
 have hsame:=hR.same hlx
 have hmore:=fun us'=>hR.more (us':=us') hlx
 generalize us.foldl z0n xs=rs at*
 obtain⟨ns,last,ers⟩:=z6u (rs:=rs) (by lia)
 have nl:ns.length=m:=by rw[ers,q0k] at rl;simpa using rl
 have vns:∀j,j<m→v rs j=v ns j:=fun j hj=>by
  show rs.getD j 0=ns.getD j 0
  rw[ers,q0b,q0b,q0D (by lia)]
 have vl:v rs m=last:=by
  show rs.getD m 0=last
  rw[ers,q0b,q0v (by lia),nl,q1y];rfl
 have er':H1 r=some (.lst ((ns++[last]).map V.int)):=by rw[←ers];exact er
 refine⟨_,rfl,_,rfl,_,rfl,y0X (b:=true) (xs:=ns.map V.int) (v:= .int last) (by have z:=er';rw[q0r] at z;exact SqL.of z) fun q0 H2 g2 hq0=>?_⟩
 refine⟨q0,_,rfl,hq0,z2r ns,_,rfl,?_⟩
 have g12:=g1.trans g2
 by_cases hnz:∃n∈ns,n≠0
 ·rw[(z2b ns).mpr hnz]
  refine z5h ?_
  have hnz2:∃n∈rs,n≠0:=let ⟨n,h1,h2⟩:=hnz;⟨n,by rw[ers];exact q0G _ h1,h2⟩
  obtain⟨j,hj,hjn⟩:∃j,j<m∧v rs j≠0:=by
   obtain⟨n,h1,h2⟩:=hnz
   obtain⟨j,hj,e⟩:=q0B.mp h1
   refine⟨j,by lia,?_⟩
   rw[vns j (by lia)]
   show ns.getD j 0≠0
   rw[q0b,q0c hj,e];exact h2
  have u3:=hR.lt rz hj hjn
  have u3':us.length≤3:=by lia
  have bb:bnJ B us.length≤1315:=bnJ3 hB u3'
  have bm:us.length*(bnJ B us.length+1)≤3*(bnJ B us.length+1):=Nat.mul_le_mul_right _ u3'
  have zr3:∀n∈rs,intBits n≤B+us.length*(bnJ B us.length+1):=zr
  refine⟨_,rfl,r,ns,last,rfl,.inl (SqL.of (g2 _ _ er')),by rw[←ers];lia,fun n hn=>q0m (zr3 n (by rw[ers];exact hn)) (by lia),hnz,fun t H3 g3 et=>?_⟩
  rw[←ers] at et
  have za:=z5c hnz2 zr3
  have na:=z5N hnz2
  have la:(z0m rs).length =m+1:=by rw[Rk.plain_len,rl]
  have hmr:=fun us' hp hs=>hmore us' ⟨j,hj,hjn⟩ hp hs
  have zra:∀u∈us,v (z0m rs) (fp u)=0:=fun u hu=>(z1I hnz2 _).mpr (rz u hu)
  have afp:fp (z0m rs)<m:=by
   rw[z6f hnz2]
   exact q0p fun hc=>hjn (z0Z (by lia))
  have g123:=g12.trans g3
  have hl3:=g123 _ _ hl
  refine⟨_,rfl,l,rfl,⟨_,SqL.of hl3⟩,fun D hD=>?_⟩
  refine z2n rfl (z0r K l (bs.map V.ref)) hD (fun _=>true) (fun H' x u=>∃(a:Addr) (t':List Int) (q':Addr),x=V.ref a∧u=V.ref q'∧H3 a=some (.tup (t'.map V.int))∧H' q'=some (.tup ((z1y (z0m rs) t').map V.int))) ?_ (fun H' g'=>SqL.of (g' _ _ hl3)) (z0h (by rw[q0a,htu.1];lia)) ?_ ?_ ?_
  ·rintro H4 H5 x u k ⟨acc,hd⟩ ⟨a,t',q',e1,e2,e3,e4⟩
   exact⟨a,t',q',e1,e2,e3,k _ _ (fun z=>by rw[z,hd] at e4;cases e4) e4⟩
  ·intro x hx Hc gc S h
   exact h _ (Same.refl _)
  ·intro x hx _ Hc gc S h
   obtain⟨a,ha,rfl⟩:=q0f.mp hx
   obtain⟨i,hi,rfl⟩:=q0B.mp ha
   have hi2:i<us.length:=by rw[←htu.1];exact hi
   have hc:=g123 _ _ (htu.2 i _ _ (q0c hi) (q0c hi2))
   have htm:us[i]∈us:=q0z hi2
   generalize us[i]=t' at hc htm
   obtain⟨y1,y2,y3⟩:=hR.row t' htm
   have kn:v (z0n t' (z0m rs)) (fp t')≠0:=by
     rw[z1x (by rw[y1,la]),zra t' htm,q0P,Int.sub_zero]
     exact q1g (z5e na) (z1K (hR.nz htm))
   have cl:(z0n t' (z0m rs)).length =m+1:=by rw[z1h (by rw[y1,la]),y1]
   refine⟨_,rfl,_,rfl,_,t,t',z0m rs,bnJ B us.length,B+us.length*(bnJ B us.length+1),rfl,.inr (SqT.of (gc _ _ hc)),.inr (SqT.of (gc _ _ et)),by rw[y1,la],by lia,zb t' htm,za,by lia,by lia,na,fun l2 H4 z4 g4 e4=>?_⟩
   obtain⟨ns2,last2,ec⟩:=z6u (rs:=z0n t' (z0m rs)) (by lia)
   have n2l:ns2.length=m:=by rw[ec,q0k] at cl;simpa using cl
   have nz2:∃n∈ns2,n≠0:=by
     refine z1F (j:=fp t') fun z=>kn ?_
     show (z0n t' (z0m rs)).getD (fp t') 0=0
     rw[ec,q0b,q0D (by lia),←q0b]
     exact z
   refine⟨l2,ns2,last2,rfl,.inl (SqL.of (by rw[←ec];exact e4)),by rw[←ec];lia,fun n hn=>q0m (z4 n (by rw[ec];exact hn)) (by lia),nz2,fun t2 H5 g5 e5=>?_⟩
   rw[←ec] at e5
   exact h _ _ (g4.trans g5) ⟨_,t',t2,rfl,rfl,hc,e5⟩
  ·intro ks H4 g4 hD4 he
   rw[z0z] at he
   obtain⟨as',rfl,hts'⟩:=y2C (htu.same g123) he
   have gg4:=g123.trans g4
   refine⟨_,rfl,_,rfl,z0h (by show 1≤_;decide),fun r5 hr5=>?_⟩
   have g5:=z0e hr5 (.lst [V.ref t])
   have e5:upd H4 r5 (.lst [V.ref t]) r5=some (.lst [V.ref t]):=z0b
   generalize upd H4 r5 (.lst [V.ref t])=H5 at*
   refine⟨D,r5,_,_,rfl,rfl,g5 _ _ hD4,e5,z0h (by rw[q0a,hts'.1,q0a];show us.length+1≤16777216;lia),fun r6 hr6=>?_⟩
   have g6:=z0e hr6 (.lst (as'.map V.ref++[V.ref t]))
   have e6:upd H5 r6 (.lst (as'.map V.ref++[V.ref t])) r6=some (.lst ((as'++[t]).map V.ref)):=by rw[z0b,q0r];rfl
   generalize upd H5 r6 (.lst (as'.map V.ref++[V.ref t]))=H6 at*
   have tsA:TsA H6 (as'++[t]) (us.map (z1y (z0m rs))++[z0m rs]):=(hts'.same (g5.trans g6)).snoc ((g4.trans (g5.trans g6)) _ _ et)
   have g46:=g5.trans g6
   generalize hw:us.map (z1y (z0m rs))++[z0m rs]=ws at*
   have wl:ws.length=us.length+1:=by rw[←hw,q0k,q0a];rfl
   have wz:∀u∈ws,(∃n∈u,n≠0)∧u.length=m+1∧∀n∈u,intBits n≤bnJ B (us.length+1):=fun u hu=>by
     rw[←hw] at hu
     rcases q0I.mp hu with hu|hu
     ·obtain⟨t',ht',rfl⟩:=q0f.mp hu
      obtain⟨y1,y2,y3⟩:=hR.row t' ht'
      have kn:v (z0n t' (z0m rs)) (fp t')≠0:=by
         rw[z1x (by rw[y1,la]),zra t' ht',q0P,Int.sub_zero]
         exact q1g (z5e na) (z1K (hR.nz ht'))
      refine⟨z5N (z1F kn),?_,?_⟩
      ·unfold z1y;rw[Rk.plain_len,z1h (by rw[y1,la]),y1]
      ·exact z5c (z1F kn) fun n hn=>q0m (y0k (by rw[y1,la]) na (zb t' ht') za n hn) (by show _≤bnJ B us.length+(B+us.length*(bnJ B us.length+1))+1;lia)
     ·rw[q0g.mp hu]
      exact⟨na,la,fun n hn=>q0m (za n hn) (by show _≤bnJ B us.length+(B+us.length*(bnJ B us.length+1))+1;lia)⟩
   refine⟨r6,_,ws.map (fun u=>((fp u:Nat):Int)),rfl,e6,by rw[q0a,q0a,tsA.1],by rw[q0a,tsA.1,wl];lia,fun i x n hx hn Hk gk=>?_,fun D7 qs H7 hn7 g7 hp7 hw7 e7=>?_⟩
   ·rw[q0h] at hx hn
    obtain⟨a,ha,rfl⟩:=q0u.mp hx
    obtain⟨u,hu,rfl⟩:=q0u.mp hn
    obtain⟨w1,w2,_⟩:=wz u (q0A hu)
    exact⟨a,u,rfl,.inr (SqT.of (gk _ _ (tsA.2 i a u ha hu))),by lia,w1,fun H' g'=>⟨rfl,g'⟩⟩
   ·have ez:(ws.map fun u=>((fp u:Nat):Int)).zip ((as'++[t]).map V.ref)=(ws.zip (as'++[t])).map fun c=>(((fp c.1:Nat):Int),V.ref c.2):=by rw[List.zip_map];rfl
    rw[ez] at hp7
    obtain⟨zs,z1,rfl⟩:=y3K hp7
    have g67:=g46.trans g7
    have p1:(zs.map Prod.fst).Perm ws:=by
     have:=z1.map Prod.fst
     rw[List.map_fst_zip (by rw[tsA.1];exact q0i _)] at this
     exact this
    have o1:(zs.map Prod.fst).Pairwise fun a b=>fp a≤fp b:=by
     rw[q1a] at hw7 ⊢
     exact hw7.imp fun h=>by dsimp only at h;lia
    obtain⟨m1,m2,m3⟩:=hmr _ p1 o1
    refine q1 D7 (zs.map Prod.snd) (zs.map Prod.fst) H7 (((gg4.trans g46)).free hn7) (gg4.trans g67) ?_ (ts_of fun c hc=>g7 _ _ (y6M tsA (z1.mem_iff.mp hc))) m1 ?_ m2
    ·rw[e7,q0K,q0K];rfl
    ·intro u hu n hn
     rw[q0a] at m3
     rw[q0a,m3]
     exact (wz u (p1.mem_iff.mp hu)).2.2 n hn
 ·have h0:(ns.map V.int).any trV=false:=by
   cases z:(ns.map V.int).any trV with
   |false=>rfl
   |true=>exact absurd ((z2b ns).mp z) hnz
  rw[h0]
  refine z5i ?_
  have z0:∀j,j<m→v rs j=0:=fun j hj=>by
   rw[vns j hj]
   refine q0p fun hc=>hnz (z1F hc)
  refine⟨_,rfl,_,rfl,_,_,_,_,rfl,rfl,SqL.of (g2 _ _ er'),by rw[q0r];exact z2v _ _,rfl,_,rfl,?_⟩
  refine z6c (fun c=>?_) (fun c=>?_)
  ·have hz:last=0:=by simpa using c
   refine⟨_,rfl,l,_,rfl,.inl (SqL.of (g12 _ _ hl)),fun r3 hr3=>?_⟩
   refine q1 r3 bs us _ (g12.free hr3) (g12.trans (z0e hr3 _)) z0b (htu.same (g12.trans (z0e hr3 _))) hR zb ?_
   refine hsame fun j=>?_
   by_cases hj:j<m
   ·exact z0 j hj
   ·by_cases hj2:j=m
    ·rw[hj2,vl,hz]
    ·show rs.getD j 0=0
     rw[q0b,q1p (by lia)];rfl
  ·have hz:last≠0:=fun z=>c (by simp[z])
   exact q2 _ g12 ⟨v rs,hoff,z0,by rw[vl];exact hz⟩
end
end L2
namespace L2
open PySem PySem.Spec PyProof.Rows
section
open Fr Wl Rk Pt
open Builtin.Int (intBits)
variable {P:Program}{w:World}{K:PySem.W.Frag}{mg:Str→Option Value}{base:Heap}{f:Addr}{fd:FuncData}
structure z9w where
 l:Addr
 bs:List Addr
 us:List (List Int)
 s:Int
def LotAt (H:Hp) (d:z9w) (x:V):Prop:=∃p,x= .ref p∧H p=some (.tup [.ref d.l,.int d.s])∧H d.l=some (.lst (d.bs.map V.ref))∧TsA H d.bs d.us
theorem LotAt.same {H H':Hp}{d:z9w}{x:V} (h:LotAt H d x) (g:Same H H'):LotAt H' d x:=by
 obtain⟨p,e,h1,h2,h3⟩:=h
 exact⟨p,e,g _ _ h1,g _ _ h2,h3.same g⟩
def cfD (m:Nat) (ds:List z9w) (k:Nat):Int:=z2e (fun d=>if d.us.length+k=m then d.s else 0) ds
theorem z3S {α:Type} (f:α→Int):∀(a b:List α),z2e f (a++b)=z2e f a+z2e f b
 |[],b=>by show _=0+_;rw[Int.zero_add];rfl
 |x::a,b=>by rw[List.cons_append,z2e,z2e,z3S f a b];lia
theorem y6z {m j:Nat}{ds:List z9w}{d:z9w} (hj:d.us.length+j=m):((List.range (m+1)).map (cfD m ds)).set j (cfD m ds j+d.s)=(List.range (m+1)).map (cfD m (ds++[d])):=by
 refine List.ext_getElem (by simp) fun i h1 h2=>?_
 have e:cfD m (ds++[d]) i=cfD m ds i+if d.us.length+i=m then d.s else 0:=by
  unfold cfD
  rw[z3S]
  show _+(_+0)=_
  rw[q1m]
 rw[List.getElem_set,List.getElem_map,List.getElem_map,List.getElem_range,e]
 by_cases c:j=i
 ·subst c
  rw[if_pos rfl,if_pos hj]
 ·rw[if_neg c,if_neg (by lia),q1m]
theorem y0y (m:Nat):(List.replicate m [V.int 0]).flatten =(List.replicate m (0:Int)).map V.int:=by
 induction m with
 |zero=>rfl
 |succ m ih=>rw[List.replicate_succ,List.flatten_cons,ih,List.replicate_succ];rfl
theorem y6A (m:Nat):List.replicate (m+1) (0:Int)=(List.range (m+1)).map (cfD m []):=by
 refine List.ext_getElem (by simp) fun i h1 h2=>?_
 rw[List.getElem_map,List.getElem_replicate];rfl
abbrev z4h:Stmt:=top 45
theorem sc_counted:z0u ["ways","parts","polynomial","rows","sign","power"] ["ways","parts"] (z0l z4h):=⟨rfl,rfl,rfl,by decide+kernel,rfl,by decide+kernel,by decide+kernel⟩
def z6x (K:PySem.W.Frag):Sp:=fun vs H Q _=>∃(m:Nat) (l:Addr) (xs:List V) (ds:List z9w),vs=[.int (m:Nat),.ref l]∧H l=some (.lst xs)∧Each (LotAt H) ds xs∧(∀d∈ds,d.us.length≤m)∧m≤100∧ds.length≤10000∧
 ∀(r:Addr) (H':Hp),H r=none→Same H H'→H' r=some (.lst (((List.range (m+1)).map (cfD m ds)).map V.int))→Q (.ref r) H'
theorem z9V (T:Txt mg) (F:Fun K "counted" "counted" z4h f fd):FnOk P w K mg base CX0 1 f fd ["ways","parts"] (z6x K):=by
 refine F.ok sc_counted (fun vs H Q E h=>?_) (fun cdv A outer s H vs Q E hr h=>?_)
 ·obtain⟨_,_,_,_,rfl,_⟩:=h;rfl
 obtain⟨m,l,xs,ds,rfl,hl,hE,hm,m100,d10,q⟩:=h
 refine⟨_,(z0d (z0q (i:=2) sc_counted.nd rfl (Or.inl rfl) (z0y z6K (z0K (z0a z0j z0c)) (z0y z2A (pv 0) z0j)))
  (z0d (z0W PassesOwn.never rfl (z0w (K:=K) rfl (pv 1)) (z0Q (K:=K) rfl 2 rfl (z0t (z0k (i:=3) sc_counted.nd rfl (Or.inl rfl)) (z0t (z0k (i:=4) sc_counted.nd rfl (Or.inl rfl)) z0P))) (z0d (z0q (i:=5) sc_counted.nd rfl (Or.inl rfl) (z0y z4r (pv 0) (z0A (z1b (K:=K) rfl) rfl T.len PySem.boot_len (z0a (pv 3) z0c))))
  (z0g (z6H (z0y z2A (z0N (z0F (K:=K) rfl) (pv 2) (pv 5) (fun _ _=>rfl)) (pv 4)) (z6J (pv 2) (pv 5) z2S)))))
  (z0g (z0v (pv 2))))),?_⟩
 refine z0x (fun σ H'=>∃r,H r=none∧σ=[some (.int (m:Nat)),some (.ref l),some (.ref r),none,none,none]∧Same H H'∧H' r=some (.lst (((List.range (m+1)).map (cfD m [])).map V.int))) (fun N hN=>?_) ?_
 ·refine⟨z0h (by show 1≤_;decide),fun z hz=>?_⟩
  have g0:=z0e hz (.lst [V.int 0])
  have e0:upd H z (.lst [V.int 0]) z=some (.lst [V.int 0]):=z0b
  generalize upd H z (.lst [V.int 0])=H0 at*
  refine⟨_,rfl,_,_,rfl,rfl,z,_,_,rfl,rfl,e0,by lia,by lia,z0h (by show 1*((m:Int)+1).toNat ≤_;lia),fun z1 hz1=>?_⟩
  have et:((m:Int)+1).toNat =m+1:=by lia
  rw[et,y0y,y6A]
  exact hN _ _ ⟨z1,g0.free hz1,rfl,g0.trans (z0e hz1 _),z0b⟩
 rintro σ0 H0 ⟨r,hr0,rfl,g0,e0⟩
 refine z0x (fun σ H'=>∃s3 s4 s5,σ=[some (.int (m:Nat)),some (.ref l),some (.ref r),s3,s4,s5]∧Same H H'∧H' r=some (.lst (((List.range (m+1)).map (cfD m ds)).map V.int))) (fun N hN=>?_) ?_
 ·refine⟨_,rfl,l,rfl,⟨_,SqL.of (g0 _ _ hl)⟩,?_⟩
  refine z0C (z0r K l xs) (fun i σ H'=>∃s3 s4 s5,σ=[some (.int (m:Nat)),some (.ref l),some (.ref r),s3,s4,s5]∧Same H H'∧H' r=some (.lst (((List.range (m+1)).map (cfD m (ds.take i))).map V.int))) ⟨_,_,_,rfl,g0,e0⟩ (fun i σ H' _ h=>by obtain⟨_,_,_,_,g,_⟩:=h;exact SqL.of (g _ _ hl)) ?_ ?_
  ·rintro i x σ H1 H2 hi ⟨s3,s4,s5,rfl,g,er⟩ ⟨rfl,hx⟩
   have hid:i<ds.length:=by rw[hE.length];exact hi
   have hdi:ds[i]? =some ds[i]:=q0c hid
   have hdm:ds[i]∈ds:=q0z hid
   have tk:ds.take (i+1)=ds.take i++[ds[i]]:=by rw[q0R,hdi];rfl
   generalize ds[i]=d at hdi hdm tk
   obtain⟨p,rfl,h1,h2,h3⟩:=(hE.get hdi hx).same g
   have hdl:=hm d hdm
   obtain⟨j,hj⟩:∃j,d.us.length+j=m:=⟨m - d.us.length,by lia⟩
   refine⟨p,_,rfl,SqT.of h1,rfl,_,_,rfl,_,_,rfl,rfl,?_⟩
   refine⟨_,rfl,_,rfl,d.l,_,rfl,.inl (SqL.of h2),_,_,rfl,rfl,?_⟩
   have ej:((m:Nat):Int) - (((d.bs.map V.ref).length :Nat):Int)=((j:Nat):Int):=by rw[q0a,h3.1];lia
   dsimp only
   rw[ej]
   have hat:atI (((List.range (m+1)).map (cfD m (ds.take i))).map V.int) ((j:Nat):Int)=some (.int (cfD m (ds.take i) j)):=z2a (by rw[q0h,q0h,q2c (by lia)];rfl)
   refine⟨_,rfl,_,rfl,r,_,_,_,rfl,rfl,SqL.of er,hat,_,rfl,_,_,rfl,rfl,?_⟩
   refine⟨_,rfl,_,rfl,r,_,_,j,rfl,rfl,er,z4x (by simp;lia),?_⟩
   refine⟨_,_,_,rfl,fun b o e=>by rw[z0i (z0f e hr0)];exact g _ _ e,?_⟩
   rw[z0b,tk,←y6z hj,List.map_set]
  ·rintro σ H1 ⟨s3,s4,s5,rfl,g,er⟩
   rw[←hE.length,q0T] at er
   exact hN _ _ ⟨_,_,_,rfl,g,er⟩
 rintro σ1 H1 ⟨s3,s4,s5,rfl,g1,e1⟩
 exact⟨_,rfl,q r H1 hr0 g1 e1⟩
end
section
open Fr Wl Rk Pt
open Builtin.Int (intBits)
variable {P:Program}{w:World}{K:PySem.W.Frag}{mg:Str→Option Value}{base:Heap}{f:Addr}{fd:FuncData}
abbrev z7E:Stmt:=top 44
theorem sc_worth:z0u ["polynomial","number","total","taken"] ["polynomial","number"] (z0l z7E):=⟨rfl,rfl,rfl,by decide+kernel,rfl,by decide+kernel,by decide+kernel⟩
def y0K (K:PySem.W.Frag):Sp:=fun vs H Q _=>∃(l:Addr) (cs:List Int) (q:Int),vs=[.ref l,.int q]∧H l=some (.lst (cs.map V.int))∧cs.length≤10∧(∀c∈cs,c.natAbs≤2^20)∧q.natAbs≤100∧Q (.int (Wp cs q)) H
def wpA (q:Int) (l:List Int):Int:=l.foldl (fun acc a=>acc*q+a) 0
theorem y5o (q:Int) (cs:List Int):wpA q cs.reverse=Wp cs q:=by
 unfold wpA Wp
 rw[List.foldl_reverse]
theorem y4C {q:Int} (hq:q.natAbs≤100):∀(l:List Int),(∀c∈l,c.natAbs≤2^20)→∀i,i≤l.length→(wpA q (l.take i)).natAbs ≤2^20*128^i
 |l,h,0,_=>by rw[List.take_zero];show (0:Int).natAbs ≤_;simp
 |l,h,i+1,hi=>by
  have ih:=y4C hq l h i (by lia)
  have et:l[i]? =some l[i]:=q0c (by lia)
  have hc:=h _ (q0z (show i<l.length by lia))
  rw[q0R,et]
  generalize l[i]=c at hc
  have e:wpA q (l.take i++(some c).toList)=wpA q (l.take i)*q+c:=by
   unfold wpA
   rw[q1z];rfl
  rw[e]
  generalize wpA q (l.take i)=z at*
  have h1:(z*q+c).natAbs ≤(z*q).natAbs +c.natAbs:=Int.natAbs_add_le _ _
  rw[Int.natAbs_mul] at h1
  have h2:z.natAbs*q.natAbs≤2^20*128^i*100:=Nat.mul_le_mul ih hq
  have h3:1≤128^i:=Nat.one_le_pow _ _ (by decide)
  have h4:128^(i+1)=128^i*128:=Nat.pow_succ _ _
  rw[h4]
  generalize 128^i=p at*
  lia
theorem y3S (T:Txt mg) (F:Fun K "worth" "worth" z7E f fd):FnOk P w K mg base CX0 1 f fd ["polynomial","number"] (y0K K):=by
 refine F.ok sc_worth (fun vs H Q E h=>?_) (fun cdv A outer s H vs Q E hr h=>?_)
 ·obtain⟨_,_,_,rfl,_⟩:=h;rfl
 obtain⟨l,cs,q',rfl,hl,c10,hc,q100,q⟩:=h
 refine⟨_,(z0d (z0q (i:=2) sc_worth.nd rfl (Or.inl rfl) z0j)
  (z0d (z0W PassesOwn.never rfl (y7g (K:=K) rfl rfl T.reversed (z0a (pv 0) z0c)) (z0k (i:=3) sc_worth.nd rfl (Or.inl rfl)) (z0g (z0q (i:=2) sc_worth.nd rfl (Or.inl rfl) (z0y z2A (z0y z0X (pv 2) (pv 1)) (pv 3)))))
  (z0g (z0v (pv 2))))),?_⟩
 refine⟨_,rfl,l,_,rfl,hl,?_⟩
 refine z0C (y3B K l (cs.map V.int)) (fun i σ H'=>H'=H∧∃(s3:Option V),σ=[some (.ref l),some (.int q'),some (.int (wpA q' (cs.reverse.take i))),s3]) ⟨rfl,_,rfl⟩ (fun i σ H' _ h=>h.1▸SqL.of hl) ?_ ?_
 ·rintro i x σ H1 H2 hi ⟨rfl,s3,rfl⟩ ⟨rfl,hx⟩
  rw[q0a] at hi
  rw[←List.map_reverse,q0h] at hx
  obtain⟨c,hc',rfl⟩:=q0u.mp hx
  have hb:=y4C q100 cs.reverse (fun c h=>hc c (List.mem_reverse.mp h)) i (by rw[List.length_reverse];lia)
  have tk:wpA q' (cs.reverse.take (i+1))=wpA q' (cs.reverse.take i)*q'+c:=by
   rw[q0R,hc']
   unfold wpA
   rw[q1z];rfl
  have bt:intBits (wpA q' (cs.reverse.take i))≤100:=by
   refine intBits_le_of_natAbs (y:=2^90) (q0m hb ?_) (by decide)
   have:128^i≤128^10:=q1G (by decide) (by lia)
   exact q0m (Nat.mul_le_mul_left _ this) (by decide)
  have bq:intBits q'≤100:=intBits_le_of_natAbs (y:=128) (by show _≤128;lia) (by decide)
  refine⟨_,rfl,_,rfl,_,_,rfl,rfl,z2x bt bq,_,rfl,_,_,rfl,rfl,?_⟩
  refine⟨rfl,some (.int c),?_⟩
  rw[tk]
  rfl
 ·rintro σ H1 ⟨rfl,s3,rfl⟩
  refine⟨_,rfl,?_⟩
  rw[q0a,←List.length_reverse,q0T,y5o]
  exact q
end
end L2
namespace L2
open PySem PySem.Spec PyProof.Rows
section
open Fr Wl Rk Pt
open Builtin.Int (intBits)
variable {P:Program}{w:World}{K:PySem.W.Frag}{mg:Str→Option Value}{base:Heap}{f:Addr}{fd:FuncData}
theorem y0g {α β γ:Type}{R:α→γ→Prop}{S:γ→β→Prop}{as:List α}{bs:List β} (h:Each (fun a b=>∃c,R a c∧S c b) as bs):∃cs,Each R as cs∧Each S cs bs:=by
 induction h with
 |nil=>exact⟨[],.nil,.nil⟩
 |cons h1 _ ih=>
  obtain⟨c,a,b⟩:=h1
  obtain⟨cs,x,y⟩:=ih
  exact⟨c::cs,.cons a x,.cons b y⟩
theorem Each.app {α β:Type}{R:α→β→Prop}{as as':List α}{bs bs':List β} (h:Each R as bs) (h':Each R as' bs'):Each R (as++as') (bs++bs'):=by
 induction h with
 |nil=>exact h'
 |cons h1 _ ih=>exact .cons h1 ih
theorem Each.mapL {α β γ:Type}{R:γ→β→Prop}{f:α→γ}{as:List α}{bs:List β} (h:Each (fun a b=>R (f a) b) as bs):Each R (as.map f) bs:=by
 induction h with
 |nil=>exact .nil
 |cons h1 _ ih=>exact .cons h1 ih
theorem Each.all {α β:Type}{R:α→β→Prop}{as:List α}{bs:List β} (h:Each R as bs) {b:β} (hb:b∈bs):∃a∈as,R a b:=by
 induction h with
 |nil=>cases hb
 |cons h1 _ ih=>
  rcases q0n.mp hb with rfl|hb
  ·exact⟨_,q0l,h1⟩
  ·obtain⟨a,ha,r⟩:=ih hb
   exact⟨a,q0j _ ha,r⟩
def MoreAt (H:Hp) (e:z9w×Bool) (x:V):Prop:=if e.2 then LotAt H e.1 x else ∃p,x= .ref p∧H p=some (.tup [.non,.int e.1.s])
theorem MoreAt.same {H H':Hp}{e:z9w×Bool}{x:V} (h:MoreAt H e x) (g:Same H H'):MoreAt H' e x:=by
 obtain⟨d,b⟩:=e
 cases b with
 |true=>exact LotAt.same (d:=d) h g
 |false=>obtain⟨p,e1,h1⟩:=h;exact⟨p,e1,g _ _ h1⟩
structure y4B (m B:Nat) (d:z9w):Prop where
 rws:Rws m d.us
 bits:∀t∈d.us,∀n∈t,intBits n≤bnJ B d.us.length
structure y6F (m B:Nat) (w:List Int) (d:z9w) (e:z9w×Bool):Prop where
 sg:e.1.s=0 - d.s
 yes:e.2=true→y4B m B e.1∧In (e.1.us.map v)=In ((w::d.us).map v)
 no:e.2=false→z8K m (w::d.us)
theorem y3t {m B:Nat}{w:List Int} (ws:List (List Int)) (k:Nat) {ds:List z9w}{es:List (z9w×Bool)} (h:Each (y6F m B w) ds es):
 z2e (fun d=>d.s*pS m d.us ws k) (ds++(es.filter (·.2)).map Prod.fst)=z2e (fun d=>d.s*pS m d.us (w::ws) k) ds:=by
 rw[z3S]
 induction h with
 |nil=>rfl
 | @cons d e ds es h1 _ ih=>
   obtain⟨a,b,c⟩:=h1
   rw[z2e,z2e,←ih,pS]
   cases hb:e.2 with
   |true=>
    obtain⟨b1,b2⟩:=b hb
    rw[q0O (by simpa using hb),q0q,z2e,z2F ws b2,a]
    grind
   |false=>
    rw[q0V (by simp[hb]),z8J ws (c hb)]
    grind
abbrev z1v:Stmt:=top 46
theorem sc_parts_of_lots:z0u ["walls","found","numbers","more"] ["walls"] (z0l z1v):=⟨rfl,rfl,rfl,by decide+kernel,rfl,by decide+kernel,by decide+kernel⟩
def z4X (K:PySem.W.Frag):Sp:=fun vs H Q _=>∃(b:Addr) (as:List Addr) (ts:List (List Int)) (m B:Nat),vs=[.ref b]∧H b=some (.lst (as.map V.ref))∧TsA H as ts∧ts.length≤8∧m≤4∧B≤130∧(∀t∈ts,t.length=m+1∧∀n∈t,intBits n≤B)∧
 ∀(r:Addr) (xs:List V) (ds:List z9w) (H':Hp),H r=none→Same H H'→H' r=some (.lst xs)→Each (LotAt H') ds xs→ds.length≤2^ts.length→(∀d∈ds,Rws m d.us)→(∀k,z2e (fun d=>d.s*pS m d.us [] k) ds=pS m [] ts k)→Q (.ref r) H'
theorem z3F (T:Txt mg) (F:Fun K "parts_of_lots" "parts_of_lots" z1v f fd) (c_joined:Cal P w K mg base 5 "joined" ["rows","numbers"] (z8y K)):FnOk P w K mg base CX0 6 f fd ["walls"] (z4X K):=by
 refine F.ok sc_parts_of_lots (fun vs H Q E h=>?_) (fun cdv A outer s H vs Q E hr h=>?_)
 ·obtain⟨_,_,_,_,_,rfl,_⟩:=h;rfl
 obtain⟨b,as,ts,m,B,rfl,hb,hts,t8,m4,hB,zt,q⟩:=h
 refine⟨_,(z0d (z0q (i:=1) sc_parts_of_lots.nd rfl (Or.inl rfl) (z0K (z0a (z1g (z0a (z0K z0c) (z0a z0j z0c))) z0c)))
  (z0d (z0W PassesOwn.never rfl (z0w (K:=K) rfl (pv 0)) (z0k (i:=2) sc_parts_of_lots.nd rfl (Or.inr rfl)) (z0d (z3m (jj:=3) rfl sc_parts_of_lots.nd rfl (Or.inl rfl) (Or.inl rfl) (Nc:=["rows","sign","numbers"]) (fr:=[none,none,some 2]) rfl (z0w (K:=K) rfl (pv 1)) rfl (by decide) rfl (by decide) rfl ⟨rfl,trivial⟩ ⟨⟨rfl,rfl,rfl,rfl⟩,trivial⟩ (fun _ _ _ _=>(z0Q (K:=K) rfl 2 rfl (z0t (z0k (i:=0) (show List.Nodup (["rows","sign","numbers"]:List Str) from by decide) rfl (Or.inl rfl)) (z0t (z0k (i:=1) (show List.Nodup (["rows","sign","numbers"]:List Str) from by decide) rfl (Or.inl rfl)) z0P)))) (fun _ _ _ _=>z0I) (fun _ _ _ _=>(z1g (z0a (z0p c_joined hr rfl (z0a (pv 0) (z0a (pv 2) z0c))) (z0a (z0y z4r z0j (pv 1)) z0c)))))
  (z0g (z0q (i:=1) sc_parts_of_lots.nd rfl (Or.inl rfl) (z0y z2z (pv 1) (z0H (Nc:=["rows","sign"]) (fr:=[none,none]) rfl (z0w (K:=K) rfl (pv 3)) rfl (by decide) rfl (by decide) rfl trivial trivial (fun _ _ _ _=>(z0Q (K:=K) rfl 2 rfl (z0t (z0k (i:=0) (show List.Nodup (["rows","sign"]:List Str) from by decide) rfl (Or.inl rfl)) (z0t (z0k (i:=1) (show List.Nodup (["rows","sign"]:List Str) from by decide) rfl (Or.inl rfl)) z0P)))) (fun _ _ _ _=>(z1U (z3y (z7P (pv 0))))) (fun _ _ _ _=>(z1g (z0a (pv 0) (z0a (pv 1) z0c))))))))))
  (z0g (z0v (pv 1))))),?_⟩
 refine z0x (fun σ H'=>∃r xs ds,H r=none∧σ=[some (.ref b),some (.ref r),none,none]∧Same H H'∧H' r=some (.lst xs)∧Each (LotAt H') ds xs∧ds.length=1∧(∀d∈ds,y4B m B d)∧∀k,z2e (fun d=>d.s*pS m d.us ts k) ds=pS m [] ts k) (fun N hN=>?_) ?_
 ·refine⟨z0h (by show 0≤_;decide),fun z hz=>?_⟩
  have g0:=z0e hz (.lst [])
  have e0:upd H z (.lst []) z=some (.lst []):=z0b
  generalize upd H z (.lst [])=H0 at*
  refine⟨z0h (by show 2≤_;decide),fun z1 hz1=>?_⟩
  have g1:=z0e hz1 (.tup [V.ref z,V.int 1])
  have e1:upd H0 z1 (.tup [V.ref z,V.int 1]) z1=some (.tup [V.ref z,V.int 1]):=z0b
  generalize upd H0 z1 (.tup [V.ref z,V.int 1])=H1 at*
  refine⟨z0h (by show 1≤_;decide),fun z2 hz2=>?_⟩
  have g2:=z0e hz2 (.lst [V.ref z1])
  have g02:=g0.trans g1
  refine hN _ _ ⟨z2,[V.ref z1],[⟨z,[],[],1⟩],g02.free hz2,rfl,g02.trans g2,z0b,.cons ⟨z1,rfl,g2 _ _ e1,(g1.trans g2) _ _ e0,TsA.nil⟩ .nil,rfl,fun d hd=>?_,fun k=>?_⟩
  ·rw[q0g.mp hd]
   exact⟨Rws.nil,fun t ht=>by cases ht⟩
  ·show 1*pS m [] ts k+0=_
   lia
 rintro σ0 H0 ⟨r0,xs0,ds0,hr0,rfl,g0,e0,hE0,dl0,hG0,hS0⟩
 refine z0x (fun σ H'=>∃r xs ds s2 s3,H r=none∧σ=[some (.ref b),some (.ref r),s2,s3]∧Same H H'∧H' r=some (.lst xs)∧Each (LotAt H') ds xs∧ds.length≤2^ts.length∧(∀d∈ds,y4B m B d)∧∀k,z2e (fun d=>d.s*pS m d.us [] k) ds=pS m [] ts k) (fun N hN=>?_) ?_
 ·refine⟨_,rfl,b,rfl,⟨_,SqL.of (g0 _ _ hb)⟩,?_⟩
  refine z0C (z0r K b (as.map V.ref)) (fun i σ H'=>∃r xs ds s2 s3,H r=none∧σ=[some (.ref b),some (.ref r),s2,s3]∧Same H H'∧H' r=some (.lst xs)∧Each (LotAt H') ds xs∧ds.length≤2^i∧(∀d∈ds,y4B m B d)∧∀k,z2e (fun d=>d.s*pS m d.us (ts.drop i) k) ds=pS m [] ts k) ⟨r0,xs0,ds0,_,_,hr0,rfl,g0,e0,hE0,by rw[dl0];decide,hG0,hS0⟩ (fun i σ H' _ h=>by obtain⟨_,_,_,_,_,_,_,g,_⟩:=h;exact SqL.of (g _ _ hb)) ?_ ?_
  ·clear e0 hE0 dl0 hG0 hS0
   rintro i x σ H1 H2 hi ⟨r,xs,ds,s2,s3,hr1,rfl,g,er,hE,dl,hG,hS⟩ ⟨rfl,hx⟩
   rw[q0a,hts.1] at hi
   rw[q0h] at hx
   obtain⟨a,ha,rfl⟩:=q0u.mp hx
   have hti:ts[i]? =some ts[i]:=q0c hi
   have htm:ts[i]∈ts:=q0z hi
   have hdr:ts.drop i=ts[i]::ts.drop (i+1):=q1v hi
   generalize ts[i]=u at hti htm hdr
   obtain⟨ul,ub⟩:=zt u htm
   have hau:=g _ _ (hts.2 i a u ha hti)
   have d8:ds.length≤256:=q0m dl (q0m (q1G (by decide) (show i≤8 by lia)) (by decide))
   refine⟨_,rfl,r,rfl,⟨_,SqL.of er⟩,fun D hD=>?_⟩
   refine z0G ds hE.length.symm (z0r K r xs) hD (fun d σ=>(σ.set 0 (some (.ref d.l))).set 1 (some (.int d.s))) (fun d e σ=>z1f _ _ _ _ _) (fun _=>true) (fun H' d u'=>∃e,(y6F m B u d e∧(e.2=true→e.1.l≠D))∧MoreAt H' e u') ?_ (fun H' g'=>SqL.of (g' _ _ er)) (z0h (by rw[←hE.length];lia)) ?_ ?_ ?_ ?_
   ·rintro H3 H4 d u' k ⟨acc,hd⟩ ⟨e,⟨he,hne⟩,hm⟩
    refine⟨e,⟨he,hne⟩,?_⟩
    obtain⟨e1,e2⟩:=e
    cases e2 with
    |true=>
     obtain⟨p,e3,h1,h2,h3⟩:=hm
     exact⟨p,e3,k _ _ (fun z=>by rw[z,hd] at h1;cases h1) h1,k _ _ (hne rfl) h2,h3.1,fun i a t ea et=>k _ _ (fun z=>by have:=h3.2 i a t ea et;rw[z,hd] at this;cases this) (h3.2 i a t ea et)⟩
    |false=>
     obtain⟨p,e3,h1⟩:=hm
     exact⟨p,e3,k _ _ (fun z=>by rw[z,hd] at h1;cases h1) h1⟩
   ·intro i x d hx hd σ H3 g3 S h
    obtain⟨p,rfl,h1,_⟩:=(hE.get hd hx).same g3
    exact⟨p,_,rfl,SqT.of h1,rfl,_,_,rfl,_,_,rfl,rfl,h⟩
   ·intro d hd Hc gc S h
    exact h _ (Same.refl _)
   ·rintro d hd _ Hc gc ⟨acc,hacc⟩ S h
    obtain⟨x,hx⟩:∃x,LotAt H2 d x:=by
     obtain⟨i,hi,e⟩:=q0B.mp hd
     have hi2:i<xs.length:=by rw[←hE.length];exact hi
     exact⟨xs[i],hE.get (by rw[q0c hi,e]) (q0c hi2)⟩
    obtain⟨p,rfl,h1,h2,h3⟩:=hx.same gc
    have gd:=hG d hd
    refine⟨_,rfl,_,rfl,d.l,a,d.bs,d.us,u,m,B,rfl,h2,h3,gc _ _ hau,ul,m4,hB,ub,gd.rws,gd.bits,fun r2 bs2 us2 H3 hr2 g3 er2 hts2 hR2 hb2 hI2=>?_,fun H3 g3 ho=>?_⟩
    ·refine⟨_,rfl,_,_,rfl,rfl,z0h (by show 2≤_;decide),fun z hz=>?_⟩
     have g4:=z0e hz (.tup [V.ref r2,V.int (0 - d.s)])
     exact h _ _ (g3.trans g4) ⟨(⟨r2,bs2,us2,0 - d.s⟩,true),⟨⟨rfl,fun _=>⟨⟨hR2,hb2⟩,hI2⟩,fun z=>(by cases z)⟩,fun _=>fun z=>(by rw[show r2=D from z] at hr2;rw[hr2] at hacc;cases hacc)⟩,z,rfl,z0b,g4 _ _ er2,hts2.same g4⟩
    ·refine⟨_,rfl,_,_,rfl,rfl,z0h (by show 2≤_;decide),fun z hz=>?_⟩
     have g4:=z0e hz (.tup [V.non,V.int (0 - d.s)])
     exact h _ _ (g3.trans g4) ⟨(⟨z,[],[],0 - d.s⟩,false),⟨⟨rfl,fun z=>(by cases z),fun _=>ho⟩,fun z=>(by cases z)⟩,z,rfl,z0b⟩
   ·intro us H3 g3 hD3 he
    rw[z0z] at he
    obtain⟨es,hes,hms⟩:=y0g he
    have hst:Each (y6F m B u) ds es:=hes.imp fun _ _ h=>h.1
    have el:es.length=ds.length:=hst.length.symm
    refine⟨_,rfl,_,rfl,D,rfl,⟨_,SqL.of hD3⟩,fun D2 hD2=>?_⟩
    refine z0G es hms.length.symm (z0r K D us) hD2 (fun e σ=>(σ.set 0 (some (if e.2 then .ref e.1.l else .non))).set 1 (some (.int e.1.s))) (fun d e σ=>z1f _ _ _ _ _) (fun e=>e.2) (fun H' e u'=>e.1.l≠D2∧LotAt H' e.1 u') ?_ (fun H' g'=>SqL.of (g' _ _ hD3)) (z0h (by rw[←hms.length];lia)) ?_ ?_ ?_ ?_
    ·rintro H4 H5 e u' k ⟨acc,hd⟩ ⟨hne,p,e3,h1,h2,h3⟩
     exact⟨hne,p,e3,k _ _ (fun z=>by rw[z,hd] at h1;cases h1) h1,k _ _ hne h2,h3.1,fun i a t ea et=>k _ _ (fun z=>by have:=h3.2 i a t ea et;rw[z,hd] at this;cases this) (h3.2 i a t ea et)⟩
    ·intro i x e hx he σ H4 g4 S h
     have hm:=(hms.get he hx).same g4
     obtain⟨d,eb⟩:=e
     cases eb with
     |true=>
      obtain⟨p,rfl,h1,_⟩:=hm
      exact⟨p,_,rfl,SqT.of h1,rfl,_,_,rfl,_,_,rfl,rfl,h⟩
     |false=>
      obtain⟨p,rfl,h1⟩:=hm
      exact⟨p,_,rfl,SqT.of h1,rfl,_,_,rfl,_,_,rfl,rfl,h⟩
    ·intro e he Hc gc S h
     obtain⟨d,eb⟩:=e
     cases eb with
     |true=>exact⟨_,rfl,_,rfl,h _ (Same.refl _)⟩
     |false=>exact⟨_,rfl,_,rfl,h _ (Same.refl _)⟩
    ·intro e he hb Hc gc _ S h
     obtain⟨x,hx⟩:∃x,MoreAt H3 e x:=by
         obtain⟨i,hi,e'⟩:=q0B.mp he
         have hi2:i<us.length:=by rw[←hms.length];exact hi
         exact⟨us[i],hms.get (by rw[q0c hi,e']) (q0c hi2)⟩
     obtain⟨d,eb⟩:=e
     cases eb with
     |false=>cases hb
     |true=>
      obtain⟨p,rfl,h1,h2,h3⟩:=hx
      refine⟨_,rfl,_,rfl,z0h (by show 2≤_;decide),fun z hz=>?_⟩
      have g4:=gc.trans (z0e hz (.tup [V.ref d.l,V.int d.s]))
      exact h _ _ (z0e hz _) ⟨fun z=>(by have h2':=h2;rw[show d.l=D2 from z] at h2';rw[hD2] at h2';cases h2'),z,rfl,z0b,g4 _ _ h2,h3.same g4⟩
    ·intro us2 H4 g4 hD4 he2
     have he2':Each (LotAt H4) ((es.filter (·.2)).map Prod.fst) us2:=Each.mapL (he2.imp fun _ _ h=>h.2)
     have g34:=g3.trans g4
     have ul2:us2.length≤ds.length:=by
         rw[←he2'.length,q0a]
         exact q0m (q1o _ _) (by lia)
     refine⟨r,D2,_,_,rfl,rfl,g34 _ _ er,hD4,z0h (by rw[←hE.length];lia),fun r6 hr6=>?_⟩
     have g6:=z0e hr6 (.lst (xs++us2))
     have g06:=g.trans (g34.trans g6)
     refine⟨r6,xs++us2,ds++(es.filter (·.2)).map Prod.fst,_,_,(g.trans g34).free hr6,rfl,g06,z0b,(hE.imp fun _ _ h=>h.same (g34.trans g6)).app (he2'.imp fun _ _ h=>h.same g6),?_,fun d hd=>?_,fun k=>?_⟩
     ·rw[q0k,he2'.length,Nat.pow_succ]
      lia
     ·rcases q0I.mp hd with hd|hd
      ·exact hG d hd
      ·obtain⟨e,he',rfl⟩:=q0f.mp hd
       obtain⟨h1,h2⟩:=q1u.mp he'
       obtain⟨d',_,hst'⟩:=hst.all h1
       exact (hst'.yes h2).1
     ·rw[y3t (ts.drop (i+1)) k hst,←hdr]
      exact hS k
  ·rintro σ H1 ⟨r,xs,ds,s2,s3,hr1,rfl,g,er,hE,dl,hG,hS⟩
   rw[q0a,hts.1] at dl hS
   rw[List.drop_length] at hS
   exact hN _ _ ⟨r,xs,ds,s2,s3,hr1,rfl,g,er,hE,dl,hG,hS⟩
 rintro σ1 H1 ⟨r,xs,ds,s2,s3,hr1,rfl,g,er,hE,dl,hG,hS⟩
 exact⟨_,rfl,q r xs ds H1 hr1 g er hE dl (fun d hd=>(hG d hd).rws) hS⟩
abbrev z4j:Stmt:=top 47
theorem z9F:z0u ["ways","walls"] ["ways","walls"] (z0l z4j):=⟨rfl,rfl,rfl,by decide+kernel,rfl,by decide+kernel,by decide+kernel⟩
noncomputable def y3h (m:Nat) (ts:List (List Int)):List Int:=(List.range (m+1)).map (pS m [] ts)
def z8B (K:PySem.W.Frag):Sp:=fun vs H Q _=>∃(b:Addr) (as:List Addr) (ts:List (List Int)) (m B:Nat),vs=[.int (m:Nat),.ref b]∧H b=some (.lst (as.map V.ref))∧TsA H as ts∧ts.length≤8∧m≤4∧B≤130∧(∀t∈ts,t.length=m+1∧∀n∈t,intBits n≤B)∧
 ∀(r:Addr) (H':Hp),H r=none→Same H H'→H' r=some (.lst ((y3h m ts).map V.int))→Q (.ref r) H'
theorem z9X (T:Txt mg) (F:Fun K "by_lots" "by_lots" z4j f fd) (c_counted:Cal P w K mg base 6 "counted" ["ways","parts"] (z6x K)) (c_parts_of_lots:Cal P w K mg base 6 "parts_of_lots" ["walls"] (z4X K)):FnOk P w K mg base CX0 7 f fd ["ways","walls"] (z8B K):=by
 refine F.ok z9F (fun vs H Q E h=>?_) (fun cdv A outer s H vs Q E hr h=>?_)
 ·obtain⟨_,_,_,_,_,rfl,_⟩:=h;rfl
 obtain⟨b,as,ts,m,B,rfl,hb,hts,t8,m4,hB,zt,q⟩:=h
 refine⟨_,(z0g (z0v (z0p c_counted hr rfl (z0a (pv 0) (z0a (z0p c_parts_of_lots hr rfl (z0a (pv 1) z0c)) z0c))))),?_⟩
 refine⟨_,rfl,_,rfl,b,as,ts,m,B,rfl,hb,hts,t8,m4,hB,zt,fun r xs ds H1 hr1 g1 er hE dl hR hS=>?_⟩
 have d8:ds.length≤256:=q0m dl (q0m (q1G (by decide) t8) (by decide))
 refine⟨m,r,xs,ds,rfl,er,hE,fun d hd=>(hR d hd).len,by lia,by lia,fun r2 H2 hr2 g2 er2=>?_⟩
 refine q r2 H2 (g1.free hr2) (g1.trans g2) ?_
 rw[er2]
 congr 3
 unfold y3h
 refine q0S fun k _=>?_
 rw[←hS k]
 unfold cfD
 clear hS hE er2 d8 dl
 induction ds with
 |nil=>rfl
 |cons d ds ih=>
  rw[z2e,z2e,ih (fun d' h=>hR d' (q0j _ h)),pS,(hR d q0l).gS]
  congr 1
  split<;>simp
end
end L2
namespace L2
open PySem PySem.Spec PyProof.Rows
section
open Fr Wl Rk Pt Ld
open Builtin.Int (intBits)
variable {P:Program}{w:World}{K:PySem.W.Frag}{mg:Str→Option Value}{base:Heap}{f:Addr}{fd:FuncData}
theorem z3B:∀{L:List Nat}{j k:Nat},L.Nodup→L[j]? =some k→L.filter (· != k)=L.eraseIdx j
 |[],j,k,_,h=>by simp at h
 |x::L,0,k,hn,h=>by
  have:x=k:=by simpa using h
  subst this
  have hx:=(q1E.mp hn).1
  rw[List.eraseIdx_zero,List.tail_cons,q0V (by simp)]
  exact List.filter_eq_self.mpr fun y hy=>by
   have:y≠x:=fun z=>hx (z▸hy)
   simpa using this
 |x::L,j+1,k,hn,h=>by
  obtain⟨hx,hL⟩:=q1E.mp hn
  have h':L[j]? =some k:=by simpa using h
  have:x≠k:=fun z=>hx (z▸q0A h')
  rw[List.eraseIdx_cons_succ,q0O (by simpa using this),z3B hL h']
def nV (L:List Nat):List V:=(L.map fun k=>((k:Nat):Int)).map V.int
theorem y4R (L:List Nat):(nV L).length =L.length:=by unfold nV;rw[List.length_map,List.length_map]
theorem rg_nV (n:Nat):rgV n=nV (List.range n):=by
 unfold rgV nV
 rw[q0K]
 exact q0S fun k _=>by show V.int (0+(k:Int))=V.int (k:Int);rw[Int.zero_add]
def noG (row:List (List Int)) (L:List Nat) (w:Nat):Bool:=row.all fun p=> !(decide (v p 0=(w:Int))&&L.any fun k=>decide (v p 1=(k:Int)))
def goR (row:List (List Int)):Nat→List Nat→Bool
 |0,_=>false
 |k+1,L=>match L.filter (noG row L) with
  |[]=>true
  |w::_=>goR row k (L.filter (· != w))
def gR (m:Nat) (row:List (List Int)):List Nat:=if goR row m (List.range m)=true then [0] else []
theorem y7K (m:Nat) (row:List (List Int)):(!(gR m row).isEmpty)=goR row m (List.range m):=by
 unfold gR
 cases goR row m (List.range m)<;>rfl
theorem y4Z (j:Int):∀(L:List Nat),inV (V.int j) (nV L)=L.any fun k=>decide (j=(k:Int))
 |[]=>rfl
 |k::L=>by
  have e:inV (V.int j) (nV (k::L))=(eqV (V.int (k:Nat)) (V.int j) || inV (V.int j) (nV L)):=rfl
  rw[e,y4Z j L,List.any_cons]
  congr 1
  show (((k:Nat):Int)==j)=_
  rw[q1i,beq_iff_eq,decide_eq_true_iff]
  exact eq_comm
def two (q:List Int):Prop:=∃i j:Int,q=[i,j]
theorem y5X (M:List Nat):(nV M).all z4P=true:=by
 unfold nV
 rw[q0X]
 intro x hx
 obtain⟨n,_,rfl⟩:=q0f.mp hx
 rfl
theorem y4b (M:List Nat) (j:Nat):(nV M).eraseIdx j=nV (M.eraseIdx j):=by
 unfold nV
 rw[q1K,q1K,q0r,q0r,List.map_take,List.map_take,List.map_drop,List.map_drop]
theorem y2y (L:List Nat) (w:Nat):∀row:List (List Int),(row.filter fun q=>decide (V.int (v q 0)=V.int (w:Nat))&&inV (V.int (v q 1)) (nV L)).isEmpty =noG row L w
 |[]=>rfl
 |q::row=>by
  have ih:=y2y L w row
  have e0:decide (V.int (v q 0)=V.int (w:Nat))=decide (v q 0=(w:Int)):=by rw[z2m,q1i];simp
  have e1:noG (q::row) L w=((!(decide (v q 0=(w:Int))&&L.any fun k=>decide (v q 1=(k:Int))))&&noG row L w):=rfl
  rw[List.filter_cons,e1,←ih,e0,y4Z]
  cases (decide (v q 0=(w:Int))&&L.any fun k=>decide (v q 1=(k:Int)))<;>rfl
theorem y4p {H:Hp}{L:List Nat}{us:List V} (h:Each (fun (w:Nat) u=>u=V.int (w:Nat)) L us):us=nV L:=by
 induction h with
 |nil=>rfl
 |cons e _ ih=>rw[e,ih];rfl
theorem z9g {α:Type}{R:α→V→Prop}{es:List α}{us:List V} (h:Each R es us):us.isEmpty=es.isEmpty:=by
 cases h<;>rfl
abbrev z1D:Stmt:=top 52
theorem sc_l_goes_round:z0u ["_law_places","_law_some","_law_left","_law_k","_law_last"] ["_law_places","_law_some"] (z0l z1D):=⟨rfl,rfl,rfl,by decide+kernel,rfl,by decide+kernel,by decide+kernel⟩
def y0O (K:PySem.W.Frag):Sp:=fun vs H Q _=>∃(m:Nat) (l:Addr) (as:List Addr) (row:List (List Int)),vs=[.int (m:Nat),.ref l]∧H l=some (.lst (as.map V.ref))∧TsA H as row∧row.length≤6∧m≤4∧(∀q∈row,two q)∧∀H',Same H H'→Q (.bl (goR row m (List.range m))) H'
theorem z9R (T:Txt mg) (F:Fun K "_law_goes_round" "_law_goes_round" z1D f fd):FnOk P w K mg base CX0 1 f fd ["_law_places","_law_some"] (y0O K):=by
 refine F.ok sc_l_goes_round (fun vs H Q E h=>?_) (fun cdv A outer s H vs Q E hr h=>?_)
 ·obtain⟨_,_,_,_,rfl,_⟩:=h;rfl
 obtain⟨m,l,as,row,rfl,hl,hrow,r6,m4,h2,q⟩:=h
 refine⟨_,(z0d (z0q (i:=2) sc_l_goes_round.nd rfl (Or.inr rfl) (z0T (y0m rfl) rfl T.list boot_list (z0a (z0T y2U rfl T.range boot_range (z0a (pv 0) z0c)) z0c)))
  (z0d (z0W PassesOwn.never rfl (z1w rfl T.range (z0a (pv 0) z0c)) (z0k (i:=3) sc_l_goes_round.nd rfl (Or.inl rfl)) (z0d (y3H (jj:=4) rfl sc_l_goes_round.nd rfl (Or.inl rfl) (Or.inl rfl) (Nc:=["_law_place","_law_some","_law_left"]) (fr:=[none,some 1,some 2]) rfl (z0w (K:=K) rfl (pv 2)) rfl rfl (by decide) (fun _=>rfl) ⟨rfl,⟨rfl,trivial⟩⟩ ⟨⟨rfl,rfl,rfl,rfl⟩,⟨⟨rfl,rfl,rfl,rfl⟩,trivial⟩⟩ ⟨fun _=>rfl,⟨fun _=>rfl,trivial⟩⟩ (fun _ _ _ _=>(z0k (i:=0) (show List.Nodup (["_law_place","_law_some","_law_left"]:List Str) from by decide) rfl (Or.inr rfl))) (fun _ _ _ _=>(z1U (z0D (z5R (K:=K) rfl hr.units) (z0H (Nc:=["_law_i","_law_j","_law_place","_law_left"]) (fr:=[none,none,some 0,some 2]) rfl (z0w (K:=K) rfl (pv 1)) rfl (by decide) rfl (by decide) rfl ⟨rfl,⟨rfl,trivial⟩⟩ ⟨⟨rfl,rfl,rfl,rfl⟩,⟨⟨rfl,rfl,rfl,rfl⟩,trivial⟩⟩ (fun _ _ _ _=>(z0Q (K:=K) rfl 2 rfl (z0t (z0k (i:=0) (show List.Nodup (["_law_i","_law_j","_law_place","_law_left"]:List Str) from by decide) rfl (Or.inl rfl)) (z0t (z0k (i:=1) (show List.Nodup (["_law_i","_law_j","_law_place","_law_left"]:List Str) from by decide) rfl (Or.inl rfl)) z0P)))) (fun _ _ _ _=>(z1U (PW.pt (y4J (z0D z4M (pv 0) (pv 2) (z0M _)) (y1r (z0D (y4O (K:=K) rfl) (pv 1) (pv 3) (by with_unfolding_all rfl))))))) (fun _ _ _ _=>z0j)) (z0K z0c) (z0M _)))) (fun _ _ _ _=>(pv 0)))
  (z0d (z1k (z0D (z5R (K:=K) rfl hr.units) (pv 4) (z0K z0c) (z0M _)) (z0g (z0v z7O)) z0E)
  (z0g (z2E (z9M PySem.F.plainAttrs_list PySem.F.slot_list_remove PySem.F.type_list_remove (z9Y (K:=K) rfl hr.units) (pv 2) (z0a (z0N (z0F (K:=K) rfl) (pv 4) z0j (fun _ _=>rfl)) z0c)))))))
  (z0g (z0v z7O)))),?_⟩
 refine z0x (fun σ H'=>∃lf,H lf=none∧σ=[some (.int (m:Nat)),some (.ref l),some (.ref lf),none,none]∧Same H H'∧H' lf=some (.lst (nV (List.range m)))) (fun N hN=>?_) ?_
 ·refine⟨_,rfl,_,rfl,fun r hr1=>?_⟩
  have g1:=z0e hr1 (.rng 0 ((m:Nat):Int))
  have e1:upd H r (.rng 0 ((m:Nat):Int)) r=some (.rng 0 ((m:Nat):Int)):=z0b
  generalize upd H r (.rng 0 ((m:Nat):Int))=H1 at*
  refine⟨r,m,rfl,e1,by lia,fun lf hlf=>?_⟩
  rw[rg_nV]
  exact hN _ _ ⟨lf,g1.free hlf,rfl,g1.trans (z0e hlf _),z0b⟩
 rintro σ H0 ⟨lf,hlf,rfl,g0,e0⟩
 refine z0x (fun σ H'=>∃s3 s4,σ=[some (.int (m:Nat)),some (.ref l),some (.ref lf),s3,s4]∧Same H H'∧goR row m (List.range m)=false) (fun N hN=>?_) ?_
 ·refine⟨_,rfl,_,rfl,by lia,by lia,?_⟩
  refine z0C (z1j 0 ((m:Nat):Int).toNat) (fun k σ H'=>∃s3 s4 L,σ=[some (.int (m:Nat)),some (.ref l),some (.ref lf),s3,s4]∧Same H H'∧H' lf=some (.lst (nV L))∧L.Sublist (List.range m)∧goR row m (List.range m)=goR row (m - k) L)
   ⟨_,_,_,rfl,g0,e0,List.Sublist.refl _,rfl⟩ (fun _ _ _ _ _=>trivial) ?_ ?_
  ·clear e0 g0
   rintro k x σ H1' H1 hk ⟨s3,s4,L,rfl,g,el,hsub,hgo⟩ ⟨rfl,rfl⟩
   rw[q0E] at hk
   have hnd:L.Nodup:=hsub.nodup List.nodup_range
   have hle:=hsub.length_le
   rw[q0W] at hle
   obtain⟨k',hk'⟩:∃k',m - k=k'+1:=⟨m - k - 1,by lia⟩
   rw[hk'] at hgo
   have hl1:=g _ _ hl
   have hrow1:=hrow.same g
   refine⟨_,rfl,lf,rfl,⟨_,SqL.of el⟩,fun D hD=>?_⟩
   refine z0G L (by rw[y4R]) (z0r K lf (nV L)) hD (fun (w:Nat) σ=>σ.set 0 (some (.int (w:Nat)))) (fun d e σ=>q1Z ..) (noG row L) (fun _ (w:Nat) u=>u=V.int (w:Nat)) (fun _ _ _ _ _ _ h=>h) (fun H' g'=>SqL.of (g' _ _ el)) (z0h (by rw[y4R];lia)) ?_ ?_ ?_ ?_
   ·intro i x w hx hw σ H3 g3 S h
    have:(nV L)[i]? =some (V.int (w:Nat)):=by
     unfold nV
     rw[q0h,q0h,hw];rfl
    rw[this] at hx
    obtain rfl:=Option.some.inj hx
    exact h
   ·intro w hw Hc gc S h
    refine⟨_,rfl,l,rfl,⟨_,SqL.of (gc _ _ hl1)⟩,fun D2 hD2=>?_⟩
    refine z0G row (by rw[q0a,hrow.1]) (z0r K l (as.map V.ref)) hD2 (fun q σ=>(σ.set 0 (some (.int (v q 0)))).set 1 (some (.int (v q 1)))) (fun d e σ=>z1f _ _ _ _ _) (fun q=>decide (V.int (v q 0)=V.int (w:Nat))&&inV (V.int (v q 1)) (nV L)) (fun _ _ u=>u=V.int 1) (fun _ _ _ _ _ _ h=>h) (fun H' g'=>SqL.of ((gc.trans g') _ _ hl1)) (z0h (by rw[q0a,hrow.1];lia)) ?_ ?_ ?_ ?_
    ·intro i x q' hx hq σ H3 g3 S h
     rw[q0h] at hx
     obtain⟨b,hb,rfl⟩:=q0u.mp hx
     have h1:=hrow1.2 i b q' hb hq
     obtain⟨i',j',rfl⟩:=h2 q' (q0A hq)
     exact⟨b,_,rfl,SqT.of ((gc.trans g3) _ _ h1),rfl,_,_,rfl,_,_,rfl,rfl,h⟩
    ·intro q' hq Hc2 gc2 S h
     refine⟨_,rfl,_,rfl,rfl,_,rfl,?_⟩
     refine z6c (fun c=>?_) (fun c=>?_)
     ·rw[c,Bool.true_and] at h
      exact⟨_,rfl,_,rfl,lf,_,rfl,.inl (SqL.of ((gc.trans gc2) _ _ el)),rfl,y5X _,_,rfl,h _ (Same.refl _)⟩
     ·have c':decide (V.int (v q' 0)=V.int (w:Nat))=false:=by simpa using c
      rw[c',Bool.false_and] at h
      exact h _ (Same.refl _)
    ·intro q' hq _ Hc2 gc2 _ S h
     exact h _ _ (Same.refl _) rfl
    ·intro us H3 g3 hD3 he
     refine⟨q0N _,fun e0 he0=>?_⟩
     have g5:=z0e he0 (.lst [])
     have e5:upd H3 e0 (.lst []) e0=some (.lst []):=z0b
     generalize upd H3 e0 (.lst [])=H5 at*
     refine⟨D2,e0,_,rfl,rfl,SqL.of (g5 _ _ hD3),SqL.of e5,_,rfl,?_⟩
     rw[z9g he,y2y]
     exact h _ (g3.trans g5)
   ·intro w hw _ Hc gc _ S h
    exact⟨_,rfl,h _ _ (Same.refl _) rfl⟩
   ·intro us H2 g2 hD2 he
    obtain rfl:=y4p (H:=H2) he
    refine⟨_,rfl,q0N _,fun e0 he0=>?_⟩
    have g5:=z0e he0 (.lst [])
    have e5:upd H2 e0 (.lst []) e0=some (.lst []):=z0b
    generalize upd H2 e0 (.lst [])=H5 at*
    refine⟨D,e0,_,rfl,rfl,SqL.of (g5 _ _ hD2),SqL.of e5,_,rfl,?_⟩
    have g15:=g2.trans g5
    have gg:=g.trans g15
    have el5:=g15 _ _ el
    cases hF:L.filter (noG row L) with
    |nil=>
     refine z5h ?_
     have:goR row m (List.range m)=true:=by rw[hgo,goR,hF]
     have:=q H5 gg
     rw[‹goR row m (List.range m)=true›] at this
     exact this
    |cons wy rest=>
     refine z5i ?_
     have hwL:wy∈L:=(q1u.mp (by rw[hF];exact q0l)).1
     obtain⟨j,hj,ej⟩:=q0B.mp hwL
     have hj':L[j]? =some wy:=by rw[q0c hj,ej]
     have eD5:=g5 _ _ hD2
     rw[hF] at eD5
     have at0:atI (nV (wy::rest)) 0=some (.int ((wy:Nat):Int)):=z4H (ns:=(wy::rest).map fun k=>((k:Nat):Int)) (k:=0) (by decide) (by rw[q0a,q0J];lia)
     refine⟨_,rfl,.inl ⟨rfl,_,SqL.of el5⟩,_,rfl,D,_,_,_,rfl,rfl,SqL.of eD5,at0,lf,_,_,(L.map fun k=>((k:Nat):Int)).map Dt.i,.i (wy:Nat),j,rfl,rfl,el5,z6d _,.i _,fun d hd=>?_,⟨.i (wy:Nat),by rw[q0h,q0h,hj'];rfl,by simp[Dt.eqb]⟩,fun m' d hm' hd=>?_,?_⟩
     ·obtain⟨n,_,rfl⟩:=q0f.mp hd
      simp[Dt.ok]
     ·have hm2:m'<L.length:=by lia
      rw[q0h,q0h,q0c hm2] at hd
      obtain rfl:=Option.some.inj hd
      have:=List.pairwise_iff_getElem.mp hnd m' j hm2 hj hm'
      rw[ej] at this
      show (((L[m']:Nat):Int)==((wy:Nat):Int))=false
      rw[beq_eq_false_iff_ne]
      lia
     ·rw[y4b,←z3B hnd hj']
      refine⟨_,_,_,rfl,fun b o e=>by rw[z0i (z0f e hlf)];exact gg _ _ e,z0b,(List.filter_sublist).trans hsub,?_⟩
      rw[hgo,goR,hF,show m - (k+1)=k' by lia]
  ·rintro σ H1 ⟨s3,s4,L,rfl,g,el,_,hgo⟩
   rw[q0E,q1y] at hgo
   exact hN _ _ ⟨_,_,rfl,g,hgo⟩
 clear e0 g0
 rintro σ H1 ⟨s3,s4,rfl,g,hgo⟩
 have:=q H1 g
 rw[hgo] at this
 exact this
end
end L2
namespace L2
open PySem PySem.Spec PyProof.Rows
section
open Fr Wl Rk Pt Ld Srt
open Builtin.Int (intBits)
variable {P:Program}{w:World}{K:PySem.W.Frag}{mg:Str→Option Value}{base:Heap}{f:Addr}{fd:FuncData}
def RowA (H:Hp) (a:Addr) (r:List (List Int)):Prop:=∃ts:List Addr,H a=some (.lst (ts.map V.ref))∧TsA H ts r
theorem RowA.same {H H':Hp}{a:Addr}{r:List (List Int)} (g:Same H H') (h:RowA H a r):RowA H' a r:=by
 obtain⟨ts,h1,h2⟩:=h
 exact⟨ts,g _ _ h1,h2.same g⟩
def RwA (H:Hp) (rs:List Addr) (R:List (List (List Int))):Prop:=rs.length=R.length∧∀(i:Nat) (a:Addr) (r:List (List Int)),rs[i]? =some a→R[i]? =some r→RowA H a r
theorem RwA.same {H H':Hp}{rs:List Addr}{R:List (List (List Int))} (g:Same H H') (h:RwA H rs R):RwA H' rs R:=⟨h.1,fun i a r e1 e2=>(h.2 i a r e1 e2).same g⟩
theorem RwA.nil {H:Hp}:RwA H [] []:=⟨rfl,fun i a r e=>by simp at e⟩
theorem RwA.isDs {K:PySem.W.Frag}{H:Hp}:∀{rs:List Addr}{R:List (List (List Int))},RwA H rs R→IsDs K H (rs.map V.ref) ((R.map fun r=>r.map dtT).map Dt.l)
 |[],[],_=> .nil
 |a::rs,r::R,h=>by
  obtain⟨ts,h1,h2⟩:=h.2 0 a r rfl rfl
  exact .cons (y7D h1 h2) (RwA.isDs ⟨by have:=h.1;simpa using this,fun i b t e1 e2=>h.2 (i+1) b t (by simpa using e1) (by simpa using e2)⟩)
 |[],_::_,h=>by have:=h.1;simp at this
 |_::_,[],h=>by have:=h.1;simp at this
theorem RwA.pick {H:Hp}{rs:List Addr}{R:List (List (List Int))} (h:RwA H rs R) (p:List Nat) (hp:∀i∈p,i<R.length):RwA H (p.map fun i=>rs.getD i 0) (p.map fun i=>R.getD i []):=by
 refine⟨by simp,fun i a r e1 e2=>?_⟩
 rw[q0h] at e1 e2
 obtain⟨k,hk,rfl⟩:=q0u.mp e1
 rw[hk] at e2
 obtain rfl:=Option.some.inj e2
 have hkl:=hp k (q0A hk)
 have hkl2:k<rs.length:=by rw[h.1];exact hkl
 exact h.2 k _ _ (by rw[q0b,q0c hkl2];rfl) (by show R[k]? =some (R.getD k []);rw[q0b,q0c hkl];rfl)
theorem RwA.sorted {H:Hp}{rs:List Addr}{R:List (List (List Int))} (h:RwA H rs R):∃rs':List Addr,((z4q (R.map fun r=>r.map dtT)).map fun i=>(rs.map V.ref).getD i .non)=rs'.map V.ref∧RwA H rs' (z5x R)∧∀a∈rs',a∈rs:=by
 have hlt:∀i∈z4q (R.map fun r=>r.map dtT),i<R.length:=fun i hi=>by
  have:=q1C.mp ((z2U _).mem_iff.mp hi)
  rw[q0a] at this
  exact this
 refine⟨(z4q (R.map fun r=>r.map dtT)).map fun i=>rs.getD i 0,?_,h.pick _ hlt,fun a ha=>?_⟩
 ·rw[q0K]
  refine q0S fun i hi=>?_
  have hi2:i<rs.length:=by rw[h.1];exact hlt i hi
  show (rs.map V.ref).getD i .non =V.ref (rs.getD i 0)
  rw[q0b,q0h,q0b,q0c hi2];rfl
 ·obtain⟨i,hi,rfl⟩:=q0f.mp ha
  have hi2:i<rs.length:=by rw[h.1];exact hlt i hi
  rw[q0b,q0c hi2]
  exact q0z hi2
def orS (R:List (List (List Int))) (q:List Int):List (List (List Int)):=R.flatMap fun r=>[r++[[v q 0,v q 1]],r++[[v q 1,v q 0]]]
def z7s (qs:List (List Int)):List (List (List Int)):=qs.foldl orS [[]]
def y5f (m:Nat) (qs:List (List Int)):List (List (List Int)):=(z7s qs).filter fun r=>(gR m r).isEmpty
theorem y5N (R:List (List (List Int))) (q:List Int):(orS R q).length =2*R.length:=by
 unfold orS
 induction R with
 |nil=>rfl
 |cons r R ih=>rw[List.flatMap_cons,List.length_append,ih,List.length_cons];simp;lia
theorem z9v (qs:List (List Int)):(z7s qs).length =2^qs.length:=by
 have:∀(qs:List (List Int)) R,(qs.foldl orS R).length =R.length*2^qs.length:=by
  intro qs
  induction qs with
  |nil=>intro R;simp
  |cons q qs ih=>intro R;rw[List.foldl_cons,ih,y5N,List.length_cons,Nat.pow_succ];rw[Nat.mul_comm 2,Nat.mul_assoc,Nat.mul_comm 2]
 unfold z7s
 rw[this];simp
theorem y5M {R:List (List (List Int))}{q:List Int}{n:Nat} (h:∀r∈R,r.length=n∧∀p∈r,two p):∀r∈orS R q,r.length=n+1∧∀p∈r,two p:=fun r hr=>by
 unfold orS at hr
 obtain⟨r0,h0,hr⟩:=q1H.mp hr
 obtain⟨z1,z2⟩:=h r0 h0
 have key:∀p,two p→(r0++[p]).length =n+1∧∀x∈r0++[p],two x:=fun p hp=>⟨by rw[q0k,z1];rfl,fun x hx=>by
  rcases q0I.mp hx with hx|hx
  ·exact z2 x hx
  ·rw[q0g.mp hx];exact hp⟩
 rcases q0n.mp hr with rfl|hr
 ·exact key _ ⟨_,_,rfl⟩
 ·rw[q0g.mp hr];exact key _ ⟨_,_,rfl⟩
end
end L2
namespace L2
open PySem PySem.Spec PyProof.Rows
section
open Fr Wl Rk Pt Ld
open Builtin.Int (intBits)
variable {P:Program}{w:World}{K:PySem.W.Frag}{mg:Str→Option Value}{base:Heap}{f:Addr}{fd:FuncData}
abbrev z7J:Stmt:=top 9
theorem y3y:z0u ["one","other"] ["one","other"] (z0l z7J):=⟨rfl,rfl,rfl,by decide+kernel,rfl,by decide+kernel,by decide+kernel⟩
def y0U:Sp:=fun vs H Q _=>∃(v u:V) (a b c d:Int),vs=[v,u]∧FrA H v a b∧FrA H u c d∧intBits a≤20000∧intBits b≤20000∧intBits c≤20000∧intBits d≤20000∧Q (.bl (decide (a*d<c*b))) H
theorem y3X (T:Txt mg) (F:Fun K "below" "below" z7J f fd):FnOk P w K mg base CX0 1 f fd ["one","other"] y0U:=by
 refine F.ok y3y (fun vs H Q E h=>?_) (fun cdv A outer s H vs Q E hr h=>?_)
 ·obtain⟨_,_,_,_,_,_,rfl,_⟩:=h;rfl
 obtain⟨_,_,a,b,c,d,rfl,⟨p1,rfl,h1⟩,⟨p2,rfl,h2⟩,za,zb,zc,zd,q⟩:=h
 refine⟨_,(z0g (z0v (z4n y3P (z0y z0X (z0N (z0V (K:=K) rfl) (pv 0) z0j (fun _ _=>rfl)) (z0N (z0V (K:=K) rfl) (pv 1) z0j (fun _ _=>rfl))) (z0y z0X (z0N (z0V (K:=K) rfl) (pv 1) z0j (fun _ _=>rfl)) (z0N (z0V (K:=K) rfl) (pv 0) z0j (fun _ _=>rfl))) (z0M _)))),?_⟩
 refine⟨_,rfl,_,_,_,_,rfl,rfl,SqT.of h1,rfl,_,rfl,_,_,_,_,rfl,rfl,SqT.of h2,rfl,_,_,rfl,rfl,z2x za zd,?_⟩
 refine⟨_,rfl,_,_,_,_,rfl,rfl,SqT.of h2,rfl,_,rfl,_,_,_,_,rfl,rfl,SqT.of h1,rfl,_,_,rfl,rfl,z2x zc zb,?_⟩
 exact⟨_,_,rfl,rfl,q⟩
def ltF (x y:List Int):Bool:=decide (v x 0*v y 1<v y 0*v x 1)
def y6d (fs:List (List Int)) (q:List Int):List Int:=if ltF (fs.getD (v q 0).toNat []) (fs.getD (v q 1).toNat [])=true then [v q 0,v q 1] else [v q 1,v q 0]
abbrev y5x:Stmt:=top 41
theorem y6W:z0u ["pair","point"] ["pair","point"] (z0l y5x):=⟨rfl,rfl,rfl,by decide+kernel,rfl,by decide+kernel,by decide+kernel⟩
def y6T (K:PySem.W.Frag):Sp:=fun vs H Q _=>∃(p pp:Addr) (q:List Int) (bs:List Addr) (fs:List (List Int)),vs=[.ref p,.ref pp]∧H p=some (.tup (q.map V.int))∧H pp=some (.tup (bs.map V.ref))∧TsA H bs fs∧(∀x∈fs,∃a b:Int,x=[a,b]∧intBits a≤20000∧intBits b≤20000)∧(∃i j:Nat,q=[(i:Int),(j:Int)]∧i<fs.length∧j<fs.length)∧
 ∀(t:Addr) (H':Hp),H t=none→Same H H'→H' t=some (.tup ((y6d fs q).map V.int))→Q (.ref t) H'
theorem y7t (T:Txt mg) (F:Fun K "led" "led" y5x f fd) (c_below:Cal P w K mg base 1 "below" ["one","other"] y0U):FnOk P w K mg base CX0 2 f fd ["pair","point"] (y6T K):=by
 refine F.ok y6W (fun vs H Q E h=>?_) (fun cdv A outer s H vs Q E hr h=>?_)
 ·obtain⟨_,_,_,_,_,rfl,_⟩:=h;rfl
 obtain⟨p,pp,q',bs,fs,rfl,hp,hpp,hbs,hfs,⟨i,j,rfl,hi,hj⟩,q⟩:=h
 refine⟨_,(z0d (z1k (z3x (z0p c_below hr rfl (z0a (z0N (z0V (K:=K) rfl) (pv 1) (z0N (z0V (K:=K) rfl) (pv 0) z0j (fun _ _=>rfl)) (fun _ _=>rfl)) (z0a (z0N (z0V (K:=K) rfl) (pv 1) (z0N (z0V (K:=K) rfl) (pv 0) z0j (fun _ _=>rfl)) (fun _ _=>rfl)) z0c)))) (z0g (z0v (z1g (z0a (z0N (z0V (K:=K) rfl) (pv 0) z0j (fun _ _=>rfl)) (z0a (z0N (z0V (K:=K) rfl) (pv 0) z0j (fun _ _=>rfl)) z0c))))) z0E)
  (z0g (z0v (z1g (z0a (z0N (z0V (K:=K) rfl) (pv 0) z0j (fun _ _=>rfl)) (z0a (z0N (z0V (K:=K) rfl) (pv 0) z0j (fun _ _=>rfl)) z0c)))))),?_⟩
 have at_fr:∀k:Nat,k<fs.length→∃(b:Addr) (x y:Int),atI (bs.map V.ref) ((k:Nat):Int)=some (.ref b)∧fs.getD k []=[x,y]∧FrA H (.ref b) x y∧intBits x≤20000∧intBits y≤20000:=fun k hk=>by
  have hb:bs[k]? =some (bs[k]'(by rw[hbs.1];exact hk)):=q0c _
  have hf:fs[k]? =some fs[k]:=q0c hk
  obtain⟨x,y,e,z1,z2⟩:=hfs _ (q0z hk)
  have h1:=hbs.2 k _ _ hb hf
  refine⟨_,x,y,z2a (by rw[q0h,hb];rfl),by rw[q0b,hf];exact e,⟨_,rfl,by rw[h1,e];rfl⟩,z1,z2⟩
 obtain⟨b1,x1,y1,a1,f1,r1,z1,z2⟩:=at_fr i hi
 obtain⟨b2,x2,y2,a2,f2,r2,z3,z4⟩:=at_fr j hj
 have el:y6d fs [(i:Int),(j:Int)]=if decide (x1*y2<x2*y1)=true then [(i:Int),(j:Int)] else [(j:Int),(i:Int)]:=by
  show (if ltF (fs.getD ((i:Int)).toNat []) (fs.getD ((j:Int)).toNat [])=true then _ else _)=_
  rw[q0E,q0E,f1,f2];rfl
 rw[el] at q
 have t0:atI (([(i:Int),(j:Int)]:List Int).map V.int) 0=some (.int (i:Int)):=rfl
 have t1:atI (([(i:Int),(j:Int)]:List Int).map V.int) 1=some (.int (j:Int)):=rfl
 refine⟨_,rfl,_,rfl,p,_,_,_,rfl,rfl,SqT.of hp,t0,pp,_,_,_,rfl,rfl,SqT.of hpp,a1,_,rfl,_,rfl,p,_,_,_,rfl,rfl,SqT.of hp,t1,pp,_,_,_,rfl,rfl,SqT.of hpp,a2,_,_,x1,y1,x2,y2,rfl,r1,r2,z1,z2,z3,z4,_,rfl,?_⟩
 refine z6c (fun c=>?_) (fun c=>?_)
 ·refine⟨_,rfl,p,_,_,_,rfl,rfl,SqT.of hp,t0,_,rfl,p,_,_,_,rfl,rfl,SqT.of hp,t1,z0h (by show 2≤_;decide),fun t ht=>?_⟩
  refine q t _ ht (z0e ht _) ?_
  rw[if_pos c];exact z0b
 ·refine⟨_,rfl,p,_,_,_,rfl,rfl,SqT.of hp,t1,_,rfl,p,_,_,_,rfl,rfl,SqT.of hp,t0,z0h (by show 2≤_;decide),fun t ht=>?_⟩
  refine q t _ ht (z0e ht _) ?_
  rw[if_neg c];exact z0b
end
end L2
namespace L2
open PySem PySem.Spec PyProof.Rows
section
open Fr Wl Rk Pt Ld Srt
open Builtin.Int (intBits)
variable {P:Program}{w:World}{K:PySem.W.Frag}{mg:Str→Option Value}{base:Heap}{f:Addr}{fd:FuncData}
theorem z7b {α β γ:Type}{R:α→β→Prop}{S:α×γ→β→Prop} (h:∀a b,R a b→∃c,S (a,c) b) {as:List α}{bs:List β} (e:Each R as bs):∃es:List (α×γ),es.map Prod.fst=as∧Each S es bs:=by
 induction e with
 |nil=>exact⟨[],rfl,.nil⟩
 |cons h1 _ ih=>
  obtain⟨c,hc⟩:=h _ _ h1
  obtain⟨es,e1,e2⟩:=ih
  exact⟨(_,c)::es,by rw[q0q,e1],.cons hc e2⟩
theorem z7c {m i j:Nat}:∀n∈z6m m i j 0,intBits n≤8:=fun n hn=>by
 refine intBits_le_of_natAbs (y:=255) (show _≤255 from ?_) (by decide)
 have row:∀n∈z2D m i j 0,n.natAbs≤1:=fun n hn=>by
  unfold z2D at hn
  rcases q1Q hn with hn|rfl
  ·rcases q1Q hn with hn|rfl
   ·rcases q0I.mp hn with hn|hn
    ·rw[(List.mem_replicate.mp hn).2];decide
    ·rw[q0g.mp hn];decide
   ·decide
  ·decide
 unfold z6m at hn
 split at hn
 ·obtain⟨x,hx,rfl⟩:=q0f.mp hn
  have:=row x hx
  lia
 ·have:=row n hn
  lia
theorem z9i {m i j:Nat}{k:Int}:(z6m m i j k).length =m+1:=by
 unfold z6m
 split
 ·rw[q0a,z3J]
 ·exact z3J _ _ _ _
theorem lim8 {m:Nat} (h:m≤4):z6S m 8 8=true:=by
 rcases (by lia:m=0∨m=1∨m=2∨m=3∨m=4) with rfl|rfl|rfl|rfl|rfl<;>decide
abbrev z3h:Stmt:=top 42
theorem sc_runnings:z0u ["ways","pairs","walls"] ["ways","pairs"] (z0l z3h):=⟨rfl,rfl,rfl,by decide+kernel,rfl,by decide+kernel,by decide+kernel⟩
def pr2 (m:Nat) (q:List Int):Prop:=∃(i j:Nat),q=[(i:Int),(j:Int)]∧i<m∧j<m∧i≠j
def wlP (m:Nat) (qs:List (List Int)):List (List Int):=dd [] ((qs.map fun q=>[v q 0,v q 1,0]).map (y0i m))
def y3g (m:Nat) (qs:List (List Int)) (d:LandD):List (List Int):=qs.map (y6d (d.sp.dropLast.map fun t=>z4L t (v d.sp m)))
theorem y2B {α:Type}{Pq:Addr→Prop}{H:Hp}{g:α→List (List Int)}{es:List α}{us:List V} (h:Each (fun e u=>∃rr,u=V.ref rr∧Pq rr∧RowA H rr (g e)) es us):∃rs:List Addr,us=rs.map V.ref∧RwA H rs (es.map g)∧∀a∈rs,Pq a:=by
 induction h with
 |nil=>exact⟨[],rfl,RwA.nil,fun a ha=>by cases ha⟩
 |cons e _ ih=>
  obtain⟨p,rfl,hq,hp⟩:=e
  obtain⟨rs,rfl,ht,hall⟩:=ih
  refine⟨p::rs,rfl,⟨by have:=ht.1;simpa using this,fun i a t e1 e2=>?_⟩,fun a ha=>?_⟩
  ·cases i with
   |zero=>cases e1;cases e2;exact hp
   |succ i=>exact ht.2 i a t (by simpa using e1) (by simpa using e2)
  ·rcases q0n.mp ha with rfl|ha
   ·exact hq
   ·exact hall a ha
def z4W (K:PySem.W.Frag):Sp:=fun vs H Q _=>∃(l:Addr) (as:List Addr) (qs:List (List Int)) (m:Nat),vs=[.int (m:Nat),.ref l]∧H l=some (.lst (as.map V.ref))∧TsA H as qs∧qs.length≤6∧m≤4∧(∀q∈qs,pr2 m q)∧(sgN m (wlP m qs) (wlP m qs).length).length <64∧
 ∀(D:Addr) (rs:List Addr) (ds:List LandD) (H':Hp),H D=none→Same H H'→H' D=some (.lst (rs.map V.ref))→(∀a∈rs,H a=none)→(∀a∈rs,a≠D)→(∀d∈ds,z3e m 8 8 (wlP m qs) d)→ds.map LandD.sg=sgN m (wlP m qs) (wlP m qs).length →RwA H' rs (z5x (ds.map (y3g m qs)))→Q (.ref D) H'
theorem z7T (T:Txt mg) (F:Fun K "runnings" "runnings" z3h f fd) (c_of_pairs:Cal P w K mg base 18 "of_pairs" ["ways","pairs"] (z3W K)) (c_lands:Cal P w K mg base 18 "lands" ["ways","walls"] (z7y K)) (c_led:Cal P w K mg base 18 "led" ["pair","point"] (y6T K)):FnOk P w K mg base CX0 19 f fd ["ways","pairs"] (z4W K):=by
 refine F.ok sc_runnings (fun vs H Q E h=>?_) (fun cdv A outer s H vs Q E hr h=>?_)
 ·obtain⟨_,_,_,_,rfl,_⟩:=h;rfl
 obtain⟨l,as,qs,m,rfl,hl,hqs,q6,m4,hok,hlt,q⟩:=h
 refine⟨_,(z0d (z0q (i:=2) sc_runnings.nd rfl (Or.inl rfl) (z0p c_of_pairs hr rfl (z0a (pv 0) (z0a (z0H (Nc:=["pair"]) (fr:=[none]) rfl (z0w (K:=K) rfl (pv 1)) rfl (by decide) rfl (by decide) rfl trivial trivial (fun _ _ _ _=>(z0k (i:=0) (show List.Nodup (["pair"]:List Str) from by decide) rfl (Or.inl rfl))) (fun _ _ _ _=>z0I) (fun _ _ _ _=>(z1g (z0a (z0N (z0V (K:=K) rfl) (pv 0) z0j (fun _ _=>rfl)) (z0a (z0N (z0V (K:=K) rfl) (pv 0) z0j (fun _ _=>rfl)) (z0a z0j z0c)))))) z0c))))
  (z0g (z0v (z0A (z5n (K:=K) rfl hr.units) rfl T.sorted boot_sorted (z0a (y3N (Nc:=["signs","point","pairs"]) (fr:=[none,none,some 1]) rfl (z0w (K:=K) rfl (z0p c_lands hr rfl (z0a (pv 0) (z0a (pv 2) z0c)))) rfl rfl (by decide) (fun _=>rfl) ⟨rfl,trivial⟩ ⟨⟨rfl,rfl,rfl,rfl⟩,trivial⟩ ⟨fun _=>rfl,trivial⟩ (fun _ _ _ _=>(z0Q (K:=K) rfl 2 rfl (z0t (z0k (i:=0) (show List.Nodup (["signs","point","pairs"]:List Str) from by decide) rfl (Or.inl rfl)) (z0t (z0k (i:=1) (show List.Nodup (["signs","point","pairs"]:List Str) from by decide) rfl (Or.inr rfl)) z0P)))) (fun _ _ _ _=>z0I) (fun _ _ _ _=>(z0H (Nc:=["pair","point"]) (fr:=[none,some 1]) rfl (z0w (K:=K) rfl (pv 2)) rfl (by decide) rfl (by decide) rfl ⟨rfl,trivial⟩ ⟨⟨rfl,rfl,rfl,rfl⟩,trivial⟩ (fun _ _ _ _=>(z0k (i:=0) (show List.Nodup (["pair","point"]:List Str) from by decide) rfl (Or.inl rfl))) (fun _ _ _ _=>z0I) (fun _ _ _ _=>(z0p c_led hr rfl (z0a (pv 0) (z0a (pv 1) z0c))))))) z0c))))),?_⟩
 have hpair:∀a:Addr,V.ref a∈as.map V.ref→∃i j:Nat,H a=some (.tup (([(i:Int),(j:Int)]:List Int).map V.int))∧i<m∧j<m:=fun a ha=>by
  obtain⟨b,hb,e⟩:=q0f.mp ha
  cases e
  obtain⟨k,hk,e⟩:=q0B.mp hb
  have hk2:k<qs.length:=by rw[←hqs.1];exact hk
  obtain⟨i,j,e2,hi,hj,_⟩:=hok _ (q0z hk2)
  have:=hqs.2 k _ _ (q0c hk) (q0c hk2)
  rw[e,e2] at this
  exact⟨i,j,this,hi,hj⟩
 refine z0x (fun σ H'=>∃(r:Addr) (bs:List Addr),σ=[some (.int (m:Nat)),some (.ref l),some (.ref r)]∧Same H H'∧H' r=some (.lst (bs.map V.ref))∧TsA H' bs (wlP m qs)) (fun N hN=>?_) ?_
 ·refine⟨_,rfl,_,rfl,l,rfl,⟨_,SqL.of hl⟩,fun D hD=>?_⟩
  refine z2n rfl (z0r K l (as.map V.ref)) hD (fun _=>true) (fun H' x u=>∃(a:Addr) (t:List Int) (p:Addr),x=V.ref a∧u=V.ref p∧H a=some (.tup (t.map V.int))∧H' p=some (.tup (([v t 0,v t 1,0]:List Int).map V.int))) ?_ (fun H' g'=>SqL.of (g' _ _ hl)) (z0h (by rw[q0a,hqs.1];lia)) ?_ ?_ ?_
  ·rintro H2 H3 x u k ⟨acc,hd⟩ ⟨a,t,p,e1,e2,e3,e4⟩
   exact⟨a,t,p,e1,e2,e3,k _ _ (fun z=>by rw[z,hd] at e4;cases e4) e4⟩
  ·intro x hx Hc gc S h
   exact h _ (Same.refl _)
  ·intro x hx _ Hc gc S h
   obtain⟨b,_,rfl⟩:=q0f.mp hx
   obtain⟨i,j,hb,_,_⟩:=hpair b hx
   have hbc:=gc _ _ hb
   have t0:atI (([(i:Int),(j:Int)]:List Int).map V.int) 0=some (.int (i:Int)):=rfl
   have t1:atI (([(i:Int),(j:Int)]:List Int).map V.int) 1=some (.int (j:Int)):=rfl
   refine⟨_,rfl,b,_,_,_,rfl,rfl,SqT.of hbc,t0,_,rfl,b,_,_,_,rfl,rfl,SqT.of hbc,t1,z0h (by show 3≤_;decide),fun t ht=>?_⟩
   exact h _ _ (z0e ht _) ⟨b,_,t,rfl,rfl,hb,z0b⟩
  intro us H1 g1 hD1 he
  rw[z0z] at he
  obtain⟨as1,rfl,hL1,hL2⟩:=z2Z (G:= .tup) (F:= .tup) (g:=fun t=>[v t 0,v t 1,0]) (fun xs ys h=>by injection h) hqs.1 hqs.2 he
  refine⟨D,as1,qs.map fun q=>[v q 0,v q 1,0],m,rfl,hD1,⟨hL1,hL2⟩,by rw[q0a];lia,m4,fun x hx=>?_,fun r bs H2 hr2 g2 er hbs=>?_⟩
  ·obtain⟨y,hy,rfl⟩:=q0f.mp hx
   obtain⟨i,j,rfl,hi,hj,hn⟩:=hok y hy
   exact⟨i,j,0,rfl,hi,hj,hn,by decide⟩
  ·exact hN _ _ ⟨r,bs,rfl,g1.trans g2,er,hbs⟩
 rintro σ H1 ⟨r,bs,rfl,g1,er,hbs⟩
 have hw:∀x∈wlP m qs,x.length=m+1∧∀n∈x,intBits n≤8:=fun x hx=>by
  unfold wlP at hx
  rcases (z7d _ _).mp hx with hx|hx
  ·cases hx
  ·obtain⟨y,hy,rfl⟩:=q0f.mp hx
   obtain⟨z,hz,rfl⟩:=q0f.mp hy
   exact⟨z9i,z7c⟩
 have wl6:(wlP m qs).length ≤8:=by
  have:=z7e ((qs.map fun q=>[v q 0,v q 1,0]).map (y0i m)) []
  rw[q0a,q0a,List.length_nil] at this
  unfold wlP;lia
 generalize wlP m qs=ts at*
 refine⟨_,rfl,_,rfl,m,r,bs,ts,8,8,rfl,er,hbs,fun x hx=>⟨(hw x hx).1,fun j _=>z1a (hw x hx).2 j,z1a (hw x hx).2 m⟩,lim8 m4,m4,wl6,fun rl xs ds H2 hrl g2 erl hE hG hsg=>?_⟩
 have hS:=z8c (lim8 m4)
 obtain⟨es,ees,hEs⟩:=z7b (γ:=Addr×List Addr) (S:=fun e x=>∃p,x=V.ref p∧H2 p=some (.tup [.ref e.1.a,.ref e.2.1])∧H2 e.2.1=some (.tup (e.2.2.map V.ref))∧TsA H2 e.2.2 (e.1.sp.dropLast.map fun t=>z4L t (v e.1.sp m))) (fun d x h=>by
  obtain⟨p,pp,cs,e,h1,h2,h3,h4⟩:=h
  exact⟨(pp,cs),p,e,h1,h3,h4⟩) hE
 have esl:es.length=(sgN m ts ts.length).length :=by rw[←hsg,q0a,←ees,q0a]
 have hl2:=(g1.trans g2) _ _ hl
 refine⟨rl,rfl,⟨_,SqL.of erl⟩,fun D hD=>?_⟩
 refine z0G es hEs.length.symm (z0r K rl xs) hD (fun e σ=>(σ.set 0 (some (.ref e.1.a))).set 1 (some (.ref e.2.1))) (fun d e σ=>z1f _ _ _ _ _) (fun _=>true) (fun H' e u=>∃(rr:Addr),u=V.ref rr∧(rr≠D∧H rr=none)∧RowA H' rr (y3g m qs e.1)) ?_ (fun H' g'=>SqL.of (g' _ _ erl)) (z0h (by rw[←hEs.length];lia)) ?_ ?_ ?_ ?_
 ·rintro H3 H4 e u k ⟨acc,hd⟩ ⟨rr,rfl,⟨hne,hz⟩,rs,h1,h2⟩
  exact⟨rr,rfl,⟨hne,hz⟩,rs,k _ _ hne h1,h2.1,fun i a t ea et=>k _ _ (fun z=>by have:=h2.2 i a t ea et;rw[z,hd] at this;cases this) (h2.2 i a t ea et)⟩
 ·intro i x e hx he σ H3 g3 S h
  obtain⟨p,rfl,h1,_⟩:=hEs.get he hx
  exact⟨p,_,rfl,SqT.of (g3 _ _ h1),rfl,_,_,rfl,_,_,rfl,rfl,h⟩
 ·intro d hd Hc gc S h
  exact h _ (Same.refl _)
 ·intro e he _ Hc gc hacc S h
  have hed:e.1∈ds:=by rw[←ees];exact q0L he
  have gd:=hG e.1 hed
  obtain⟨k,hk,rfl⟩:=q0B.mp he
  have hk2:k<xs.length:=by rw[←hEs.length];exact hk
  obtain⟨p0,_,_,hpp,hcs⟩:=hEs.get (q0c hk) (q0c hk2)
  generalize es[k]=e at*
  have hlc:=gc _ _ hl2
  have fsl:(e.1.sp.dropLast.map fun t=>z4L t (v e.1.sp m)).length =m:=by
   rw[q0a,List.length_dropLast,gd.win.1.1];rfl
  have hfs:∀x∈e.1.sp.dropLast.map (fun t=>z4L t (v e.1.sp m)),∃a b:Int,x=[a,b]∧intBits a≤20000∧intBits b≤20000:=fun x hx=>by
   obtain⟨t,ht,rfl⟩:=q0f.mp hx
   have hpos:=gd.win.1.2
   have g0:((Int.gcd t (v e.1.sp m):Nat):Int)≠0:=by
        intro z
        have:=q2d.mp (by lia:Int.gcd t (v e.1.sp m)=0)
        lia
   refine⟨_,_,rfl,intBits_le_of_natAbs (z1G (q1s ..) g0) ?_,intBits_le_of_natAbs (z1G (q1L ..) g0) ?_⟩
   ·exact z0s (gd.bits t ((List.dropLast_sublist _).subset ht)) (by lia)
   ·exact z0s (z1a gd.bits m) (by lia)
  unfold y3g at h
  generalize (e.1.sp.dropLast.map fun t=>z4L t (v e.1.sp m))=fs at*
  refine⟨_,rfl,l,rfl,⟨_,SqL.of hlc⟩,fun D3 hD3=>?_⟩
  refine z2n rfl (z0r K l (as.map V.ref)) hD3 (fun _=>true) (fun H' x u=>∃(a:Addr) (t:List Int) (p:Addr),x=V.ref a∧u=V.ref p∧H a=some (.tup (t.map V.int))∧H' p=some (.tup ((y6d fs t).map V.int))) ?_ (fun H' g'=>SqL.of (g' _ _ hlc)) (z0h (by rw[q0a,hqs.1];lia)) ?_ ?_ ?_
  ·rintro H3 H4 x u k ⟨acc,hd⟩ ⟨a,t,p,e1,e2,e3,e4⟩
   exact⟨a,t,p,e1,e2,e3,k _ _ (fun z=>by rw[z,hd] at e4;cases e4) e4⟩
  ·intro x hx H3 g3 S h
   exact h _ (Same.refl _)
  ·intro x hx _ H3 g3 S h
   obtain⟨b,_,rfl⟩:=q0f.mp hx
   obtain⟨i,j,hb,hi,hj⟩:=hpair b hx
   have g03:=g1.trans (g2.trans (gc.trans g3))
   have g23:=gc.trans g3
   refine⟨_,rfl,_,rfl,b,e.2.1,[(i:Int),(j:Int)],e.2.2,fs,rfl,g03 _ _ hb,g23 _ _ hpp,hcs.same g23,hfs,⟨i,j,rfl,by lia,by lia⟩,fun t H4 ht g4 et=>?_⟩
   exact h _ _ g4 ⟨b,_,t,rfl,rfl,hb,et⟩
  intro us H3 g3 hD3' he3
  rw[z0z] at he3
  obtain⟨as1,rfl,hL1,hL2⟩:=z2Z (G:= .tup) (F:= .tup) (g:=y6d fs) (fun xs ys h=>by injection h) hqs.1 hqs.2 he3
  obtain⟨acc,hacc⟩:=hacc
  exact h _ _ g3 ⟨D3,rfl,⟨(fun z=>by rw[z,hacc] at hD3;cases hD3),(g1.trans (g2.trans gc)).free hD3⟩,as1,hD3',hL1,hL2⟩
 ·intro us H3 g3 hD3 hEu
  rw[z0z] at hEu
  obtain⟨rs,rfl,hrs,hfr⟩:=y2B hEu
  have erw:es.map (fun e=>y3g m qs e.1)=ds.map (y3g m qs):=by rw[←ees,q0K];rfl
  rw[erw] at hrs
  have rsl:rs.length=(sgN m ts ts.length).length :=by rw[hrs.1,q0a,←hsg,q0a]
  refine⟨D,_,(ds.map (y3g m qs)).map fun r=>r.map dtT,rfl,hD3,by rw[q0a];lia,hrs.isDs,fun a ha b hb=>?_,fun D2 H4 hD2 g4 e4=>?_⟩
  ·obtain⟨e,_,rfl⟩:=q0f.mp ha
   obtain⟨e',_,rfl⟩:=q0f.mp hb
   exact y1E _ _
  ·have g14:=g1.trans (g2.trans g3)
   obtain⟨rs',z1,z2,z3⟩:=(hrs.same g4).sorted
   rw[z1] at e4
   refine q D2 rs' ds H4 (g14.free hD2) (g14.trans g4) e4 (fun a ha=>(hfr a (z3 a ha)).2) (fun a ha z=>?_) hG hsg z2
   obtain⟨k,hk,ek⟩:=q0B.mp (z3 a ha)
   have hk2:k<(ds.map (y3g m qs)).length :=by rw[←hrs.1];exact hk
   obtain⟨ts',w1,_⟩:=hrs.2 k _ _ (q0c hk) (q0c hk2)
   rw[ek,z,hD2] at w1
   cases w1
end
end L2
namespace L2
open PySem PySem.Spec PyProof.Rows
section
open Fr Wl Rk Pt Ld Srt
open Builtin.Int (intBits)
variable {P:Program}{w:World}{K:PySem.W.Frag}{mg:Str→Option Value}{base:Heap}{f:Addr}{fd:FuncData}
def toR (R:List (List (List Int))) (q:List Int):List (List (List Int)):=R.map (fun r=>r++[[v q 0,v q 1]])++R.map (fun r=>r++[[v q 1,v q 0]])
def tuR (qs:List (List Int)):List (List (List Int)):=qs.foldl toR [[]]
theorem z8q (q:List Int):∀R:List (List (List Int)),(toR R q).Perm (orS R q)
 |[]=> .nil
 |r::R=>by
  have ih:=z8q q R
  unfold toR orS at*
  rw[q0q,q0q,q1Y]
  refine List.Perm.cons _ ?_
  exact List.perm_middle.trans (List.Perm.cons _ ih)
theorem y3O {R R':List (List (List Int))} (h:R.Perm R') (q:List Int):(orS R q).Perm (orS R' q):=by
 unfold orS
 exact h.flatMap_right _
theorem y0D:∀(qs:List (List Int)) (R R':List (List (List Int))),R.Perm R'→(qs.foldl toR R).Perm (qs.foldl orS R')
 |[],_,_,h=>h
 |q::qs,R,R',h=>y0D qs _ _ ((z8q q R).trans (y3O h q))
theorem z3G (qs:List (List Int)):(tuR qs).Perm (z7s qs):=y0D qs _ _ (.refl _)
theorem y3a:∀(qs:List (List Int)) (R:List (List (List Int))) (n:Nat),(∀r∈R,r.length=n∧∀p∈r,two p)→∀r∈qs.foldl orS R,r.length=n+qs.length∧∀p∈r,two p
 |[],_,_,h=>h
 |q::qs,R,n,h=>fun r hr=>by
  have:=y3a qs _ (n+1) (y5M h) r hr
  rw[q0J]
  exact⟨by lia,this.2⟩
theorem y0E (qs:List (List Int)):∀r∈tuR qs,r.length=qs.length∧∀p∈r,two p:=fun r hr=>by
 have:=y3a qs [[]] 0 (fun r hr=>by rw[q0g.mp hr];exact⟨rfl,fun p hp=>by cases hp⟩) r ((z3G qs).mem_iff.mp hr)
 rwa[Nat.zero_add] at this
theorem RwA.app {H:Hp}{rs rs':List Addr}{R R':List (List (List Int))} (h:RwA H rs R) (h':RwA H rs' R'):RwA H (rs++rs') (R++R'):=by
 refine⟨by rw[q0k,q0k,h.1,h'.1],fun i a r e1 e2=>?_⟩
 by_cases c:i<R.length
 ·rw[q0D (by rw[h.1];exact c)] at e1
  rw[q0D c] at e2
  exact h.2 i a r e1 e2
 ·rw[q0v (by rw[h.1];lia)] at e1
  rw[q0v (by lia)] at e2
  rw[h.1] at e1
  exact h'.2 _ a r e1 e2
theorem z7f {H1:Hp}{D0 D2:Addr}{rs:List Addr}{R:List (List (List Int))}{p:List Int}{fr:List (Option Nat)}{te:TE}{σ:St}{Q:VK} (hD:H1 D2=none) (e0:H1 D0=some (.lst (rs.map V.ref))) (hR:RwA H1 rs R) (h64:R.length≤64) (h6:∀r∈R,r.length≤6)
 (hv:∀(b:Addr) (ts:List Addr) Hc,Same H1 Hc→Hc b=some (.lst (ts.map V.ref))→ts.length≤6→∀S:VK,(∀(c t:Addr) H',Hc c=none→Same Hc H'→H' c=some (.lst ((ts++[t]).map V.ref))→H' t=some (.tup (p.map V.int))→S (.ref c) H')→te ((z0B fr σ).set 0 (some (.ref b))) Hc S)
 (q:∀rs' H',Same H1 H'→H' D2=some (.lst (rs'.map V.ref))→RwA H' rs' (R.map (· ++[p]))→Q (.ref D2) H'):
 z3f (Itl K D0) (z6X 0) (fun _ H S=>S true H) te Q D2 (z0B fr σ) (upd H1 D2 (.lst [])):=by
 refine z0G (rs.zip R) (by rw[q0a,q1h,hR.1,Nat.min_self]) (z0r K D0 (rs.map V.ref)) hD (fun d σ=>σ.set 0 (some (.ref d.1))) (fun d e σ=>q1Z ..) (fun _=>true) (fun H' d u=>∃rr,u=V.ref rr∧rr≠D2∧RowA H' rr (d.2++[p])) ?_ (fun H' g'=>SqL.of (g' _ _ e0)) (z0h (by rw[q0a,hR.1];lia)) ?_ ?_ ?_ ?_
 ·rintro H H' d u k ⟨acc,hd⟩ ⟨rr,e1,hne,ts,e2,e3⟩
  refine⟨rr,e1,hne,ts,k _ _ hne e2,e3.1,fun i a t ea et=>?_⟩
  have z:=e3.2 i a t ea et
  exact k _ _ (fun y=>by rw[y,hd] at z;cases z) z
 ·intro i x d hx hd σ H3 g3 S h
  rw[q0h] at hx
  obtain⟨b,hb,rfl⟩:=q0u.mp hx
  have:d.1=b:=by
   rw[q0Z] at hd
   rw[hb] at hd
   exact (Option.some.inj hd.1).symm
  rw[this] at h
  exact h
 ·intro d hd Hc gc S h
  exact h _ (Same.refl _)
 ·intro d hd _ Hc gc ⟨acc,hacc⟩ S h
  obtain⟨k,hk,ek⟩:=q0B.mp hd
  have hk':=hk
  rw[q1h] at hk'
  have e1:rs[k]? =some d.1:=by rw[←ek];simp[show k<rs.length by lia]
  have e2:R[k]? =some d.2:=by rw[←ek];simp[show k<R.length by lia]
  obtain⟨ts,hb1,hb2⟩:=(hR.2 k _ _ e1 e2).same gc
  refine hv d.1 ts Hc gc hb1 (by rw[hb2.1];exact h6 _ (q0A e2)) S fun c t H' hc g' w1 w2=>?_
  exact h _ _ g' ⟨c,rfl,(fun z=>by rw[z,hacc] at hc;cases hc),ts++[t],w1,(hb2.same g').snoc w2⟩
 ·intro us H3 g3 hD3 he
  rw[z0z] at he
  obtain⟨rs',rfl,hrs',_⟩:=y2B he
  refine q rs' H3 g3 hD3 ?_
  have e:(rs.zip R).map (fun d=>d.2++[p])=R.map (· ++[p]):=by
   have:(rs.zip R).map (fun d=>d.2++[p])=((rs.zip R).map Prod.snd).map (· ++[p]):=by rw[q0K];rfl
   rw[this,List.map_snd_zip (by rw[hR.1];exact q0i _)]
  rw[←e]
  exact hrs'
abbrev z3k:Stmt:=top 53
theorem sc_l_turned:z0u ["_law_pairs","_law_found","_law_i","_law_j"] ["_law_pairs"] (z0l z3k):=⟨rfl,rfl,rfl,by decide+kernel,rfl,by decide+kernel,by decide+kernel⟩
def z4V (K:PySem.W.Frag):Sp:=fun vs H Q _=>∃(l:Addr) (as:List Addr) (qs:List (List Int)),vs=[.ref l]∧H l=some (.lst (as.map V.ref))∧TsA H as qs∧qs.length≤6∧(∀q∈qs,two q)∧∀(D:Addr) (rs:List Addr) (H':Hp),Same H H'→H' D=some (.lst (rs.map V.ref))→RwA H' rs (tuR qs)→Q (.ref D) H'
theorem z7W (T:Txt mg) (F:Fun K "_law_turned" "_law_turned" z3k f fd):FnOk P w K mg base CX0 1 f fd ["_law_pairs"] (z4V K):=by
 refine F.ok sc_l_turned (fun vs H Q E h=>?_) (fun cdv A outer s H vs Q E hr h=>?_)
 ·obtain⟨_,_,_,rfl,_⟩:=h;rfl
 obtain⟨l,as,qs,rfl,hl,hqs,q6,h2,q⟩:=h
 refine⟨_,(z0d (z0q (i:=1) sc_l_turned.nd rfl (Or.inl rfl) (z0K (z0a (z0K z0c) z0c)))
  (z0d (z0W PassesOwn.never rfl (z0w (K:=K) rfl (pv 0)) (z0Q (K:=K) rfl 2 rfl (z0t (z0k (i:=2) sc_l_turned.nd rfl (Or.inr rfl)) (z0t (z0k (i:=3) sc_l_turned.nd rfl (Or.inr rfl)) z0P))) (z0g (z0q (i:=1) sc_l_turned.nd rfl (Or.inl rfl) (z0y z2z (z0H (Nc:=["_law_row","_law_i","_law_j"]) (fr:=[none,some 2,some 3]) rfl (z0w (K:=K) rfl (pv 1)) rfl (by decide) rfl (by decide) rfl ⟨rfl,⟨rfl,trivial⟩⟩ ⟨⟨rfl,rfl,rfl,rfl⟩,⟨⟨rfl,rfl,rfl,rfl⟩,trivial⟩⟩ (fun _ _ _ _=>(z0k (i:=0) (show List.Nodup (["_law_row","_law_i","_law_j"]:List Str) from by decide) rfl (Or.inl rfl))) (fun _ _ _ _=>z0I) (fun _ _ _ _=>(z0y z2z (pv 0) (z0K (z0a (z1g (z0a (pv 1) (z0a (pv 2) z0c))) z0c))))) (z0H (Nc:=["_law_row","_law_j","_law_i"]) (fr:=[none,some 3,some 2]) rfl (z0w (K:=K) rfl (pv 1)) rfl (by decide) rfl (by decide) rfl ⟨rfl,⟨rfl,trivial⟩⟩ ⟨⟨rfl,rfl,rfl,rfl⟩,⟨⟨rfl,rfl,rfl,rfl⟩,trivial⟩⟩ (fun _ _ _ _=>(z0k (i:=0) (show List.Nodup (["_law_row","_law_j","_law_i"]:List Str) from by decide) rfl (Or.inl rfl))) (fun _ _ _ _=>z0I) (fun _ _ _ _=>(z0y z2z (pv 0) (z0K (z0a (z1g (z0a (pv 1) (z0a (pv 2) z0c))) z0c)))))))))
  (z0g (z0v (pv 1))))),?_⟩
 refine z0x (fun σ H'=>∃(D:Addr) (rs:List Addr),σ=[some (.ref l),some (.ref D),none,none]∧Same H H'∧H' D=some (.lst (rs.map V.ref))∧RwA H' rs [[]]) (fun N hN=>?_) ?_
 ·refine⟨q0N _,fun z hz=>?_⟩
  have g1:=z0e hz (.lst [])
  have e1:upd H z (.lst []) z=some (.lst (([]:List Addr).map V.ref)):=z0b
  generalize upd H z (.lst [])=H1 at*
  refine⟨z0h (by show 1≤_;decide),fun z2 hz2=>?_⟩
  have g2:=z0e hz2 (.lst [V.ref z])
  refine hN _ _ ⟨z2,[z],rfl,g1.trans g2,z0b,rfl,fun i a r ea er=>?_⟩
  cases i with
  |zero=>cases ea;cases er;exact⟨[],g2 _ _ e1,TsA.nil⟩
  |succ i=>simp at ea
 rintro σ H0 ⟨D0,rs0,rfl,g0,e0,hr0⟩
 refine z0x (fun σ H'=>∃(D:Addr) (rs:List Addr) (s2 s3:Option V),σ=[some (.ref l),some (.ref D),s2,s3]∧Same H H'∧H' D=some (.lst (rs.map V.ref))∧RwA H' rs (tuR qs)) (fun N hN=>?_) ?_
 ·refine⟨_,rfl,l,rfl,⟨_,SqL.of (g0 _ _ hl)⟩,?_⟩
  refine z0C (z0r K l (as.map V.ref)) (fun i σ H'=>∃(D:Addr) (rs:List Addr) (s2 s3:Option V),σ=[some (.ref l),some (.ref D),s2,s3]∧Same H H'∧H' D=some (.lst (rs.map V.ref))∧RwA H' rs (tuR (qs.take i)))
   ⟨D0,rs0,_,_,rfl,g0,e0,hr0⟩ (fun i σ H' _ h=>by obtain⟨_,_,_,_,_,g,_⟩:=h;exact SqL.of (g _ _ hl)) ?_ ?_
  ·clear g0 e0 hr0
   rintro i x σ H1' H1 hi ⟨D,rs,s2,s3,rfl,g,eD,hrs⟩ ⟨rfl,hx⟩
   rw[q0a,hqs.1] at hi
   rw[q0h] at hx
   obtain⟨a,ha,rfl⟩:=q0u.mp hx
   have et:qs[i]? =some qs[i]:=q0c hi
   have h1:=g _ _ (hqs.2 i a _ ha et)
   obtain⟨x0,y0,eq⟩:=h2 _ (q0z hi)
   have tk:tuR (qs.take (i+1))=(tuR (qs.take i)).map (· ++[[x0,y0]])++(tuR (qs.take i)).map (· ++[[y0,x0]]):=by
        unfold tuR
        rw[q0R,et,q1z,eq];rfl
   rw[eq] at h1
   rw[tk]
   have hRl:(tuR (qs.take i)).length ≤64:=by
        rw[(z3G _).length_eq,z9v,q0w]
        exact q1G (by decide) (show _≤6 by lia)
   have hRm:∀r∈tuR (qs.take i),r.length≤6:=fun r hr=>by
        have:=(y0E _ r hr).1
        rw[q0w] at this
        lia
   generalize tuR (qs.take i)=R at*
   refine⟨a,_,rfl,SqT.of h1,rfl,_,_,rfl,_,_,rfl,rfl,?_⟩
   have grow:∀(x y:Int) {H1:Hp} (b:Addr) (ts:List Addr) (Hc:Hp),Same H1 Hc→Hc b=some (.lst (ts.map V.ref))→ts.length≤6→∀S:VK,(∀(c t:Addr) H',Hc c=none→Same Hc H'→H' c=some (.lst ((ts++[t]).map V.ref))→H' t=some (.tup (([x,y]:List Int).map V.int))→S (.ref c) H')→
    2≤sizeLine∧∀t1,Hc t1=none→1≤sizeLine∧∀l1,upd Hc t1 (.tup [V.int x,V.int y]) l1=none→∃(a b':Addr) (xs ys:List V),V.ref b= .ref a∧V.ref l1= .ref b'∧upd (upd Hc t1 (.tup [V.int x,V.int y])) l1 (.lst [V.ref t1]) a=some (.lst xs)∧upd (upd Hc t1 (.tup [V.int x,V.int y])) l1 (.lst [V.ref t1]) b'=some (.lst ys)∧xs.length+ys.length≤sizeLine∧∀p,upd (upd Hc t1 (.tup [V.int x,V.int y])) l1 (.lst [V.ref t1]) p=none→S (.ref p) (upd (upd (upd Hc t1 (.tup [V.int x,V.int y])) l1 (.lst [V.ref t1])) p (.lst (xs++ys))):=by
        intro x y H1 b ts Hc gc hb tl S h
        refine⟨z0h (by show 2≤_;decide),fun t1 ht1=>?_⟩
        have k1:=z0e ht1 (.tup [V.int x,V.int y])
        have w1:upd Hc t1 (.tup [V.int x,V.int y]) t1=some (.tup (([x,y]:List Int).map V.int)):=z0b
        generalize upd Hc t1 (.tup [V.int x,V.int y])=H4 at*
        refine⟨z0h (by show 1≤_;decide),fun l1 hl1=>?_⟩
        have k2:=z0e hl1 (.lst [V.ref t1])
        have w2:upd H4 l1 (.lst [V.ref t1]) l1=some (.lst [V.ref t1]):=z0b
        generalize upd H4 l1 (.lst [V.ref t1])=H5 at*
        refine⟨b,l1,_,_,rfl,rfl,(k1.trans k2) _ _ hb,w2,z0h (by rw[q0a];show ts.length+1≤_;lia),fun c1 hc1=>?_⟩
        have k3:=z0e hc1 (.lst (ts.map V.ref++[V.ref t1]))
        exact h c1 t1 _ ((k1.trans k2).free hc1) (k1.trans (k2.trans k3)) (by rw[z0b,q0r];rfl) ((k2.trans k3) _ _ w1)
   refine⟨_,rfl,D,rfl,⟨_,SqL.of eD⟩,fun D1 hD1=>?_⟩
   refine z7f (p:=[x0,y0]) hD1 eD hrs hRl hRm (fun b ts Hc gc hb tl S h=>?_) fun rs1 H2 g2 e2 hrs1=>?_
   ·exact⟨_,rfl,_,rfl,_,rfl,grow x0 y0 b ts Hc gc hb tl S h⟩
   refine⟨_,rfl,D,rfl,⟨_,SqL.of (g2 _ _ eD)⟩,fun D2 hD2=>?_⟩
   refine z7f (p:=[y0,x0]) hD2 (g2 _ _ eD) (hrs.same g2) hRl hRm (fun b ts Hc gc hb tl S h=>?_) fun rs2 H3 g3 e3 hrs2=>?_
   ·exact⟨_,rfl,_,rfl,_,rfl,grow y0 x0 b ts Hc gc hb tl S h⟩
   have n1:=hrs1.1
   have n2:=hrs2.1
   rw[q0a] at n1 n2
   refine⟨D1,D2,_,_,rfl,rfl,g3 _ _ e2,e3,z0h (by rw[q0a,q0a];lia),fun D3 hD3=>?_⟩
   have g4:=z0e hD3 (.lst (rs1.map V.ref++rs2.map V.ref))
   refine⟨D3,rs1++rs2,_,_,rfl,g.trans (g2.trans (g3.trans g4)),by rw[z0b,q0r],((hrs1.same g3).same g4).app (hrs2.same g4)⟩
  ·rintro σ H1 ⟨D,rs,s2,s3,rfl,g,eD,hrs⟩
   rw[q0a,hqs.1,q0T] at hrs
   exact hN _ _ ⟨D,rs,_,_,rfl,g,eD,hrs⟩
 clear g0 e0 hr0
 rintro σ H1 ⟨D,rs,s2,s3,rfl,g,eD,hrs⟩
 exact⟨_,rfl,q D rs H1 g eD hrs⟩
end
end L2
namespace L2
open PySem PySem.Spec PyProof.Rows
section
open Fr Wl Rk Pt Ld
open Builtin.Int (intBits)
variable {P:Program}{w:World}{K:PySem.W.Frag}{mg:Str→Option Value}{base:Heap}{f:Addr}{fd:FuncData}
def edR (i j:Nat):List (Nat×Nat):=(List.range j).map fun j=>(i,j)
def edM (m:Nat):List (Nat×Nat):=(List.range m).flatMap fun i=>edR i i
theorem y4n (i j:Nat):edR i (j+1)=edR i j++[(i,j)]:=by unfold edR;rw[List.range_succ,List.map_append];rfl
theorem z9f (m:Nat):edM (m+1)=edM m++edR m m:=by unfold edM;rw[List.range_succ,List.flatMap_append];simp
def edQ (q:List Int):Nat×Nat:=(max (v q 0).toNat (v q 1).toNat,min (v q 0).toNat (v q 1).toNat)
theorem z7a (i j:Nat):edQ [(i:Int),(j:Int)]=(max i j,min i j):=rfl
structure NIv (H:Hp) (m:Nat) (l ld:Addr) (ds:List Int) (pre:List (Nat×Nat)) (H':Hp):Prop where
 ex:∃as qs,H' l=some (.lst (as.map V.ref))∧TsA H' as qs∧(∀q∈qs,pr2 m q)∧(qs.map edQ).Sublist pre
 dl:H' ld=some (.lst (ds.map V.int))
 g:Same H H'
theorem NIv.up {H:Hp}{m:Nat}{l ld:Addr}{ds:List Int}{pre:List (Nat×Nat)}{H':Hp} (h:NIv H m l ld ds pre H') (e:Nat×Nat):NIv H m l ld ds (pre++[e]) H':=by
 obtain⟨⟨as,qs,h1,h2,h3,h4⟩,h5,h6⟩:=h
 exact⟨⟨as,qs,h1,h2,h3,h4.trans (List.sublist_append_left _ _)⟩,h5,h6⟩
theorem y6N {H:Hp}{as:List Addr}{ts:List (List Int)}{l:Addr}{xs ys:List V} (h:TsA H as ts) (hl:H l=some (.lst xs)):TsA (upd H l (.lst ys)) as ts:=⟨h.1,fun i a t e1 e2=>by
 have z:=h.2 i a t e1 e2
 rw[z0i (fun e=>by rw[e,hl] at z;cases z)]
 exact z⟩
theorem NIv.app {H:Hp}{m:Nat}{l ld:Addr}{ds:List Int}{pre:List (Nat×Nat)}{H1 H2:Hp}{t:Addr}{i j:Nat}{xs:List V} (h:NIv H m l ld ds pre H1) (g:Same H1 H2) (hx:H2 l=some (.lst xs)) (et:H2 t=some (.tup (([(i:Int),(j:Int)]:List Int).map V.int))) (hi:i<m) (hj:j<m) (hn:i≠j) (hl:H l=none) (hd:ld≠l):NIv H m l ld ds (pre++[(max i j,min i j)]) (upd H2 l (.lst (xs++[V.ref t]))):=by
 obtain⟨⟨as,qs,h1,h2,h3,h4⟩,h5,h6⟩:=h
 have e1:=g _ _ h1
 rw[hx] at e1
 have e2:xs=as.map V.ref:=by injection e1 with e1;injection e1
 subst e2
 refine⟨⟨as++[t],qs++[[(i:Int),(j:Int)]],by rw[z0b,q0r];rfl,y6N ((h2.same g).snoc et) hx,fun q hq=>?_,?_⟩,by rw[z0i hd];exact g _ _ h5,fun b o e=>by rw[z0i (z0f e hl)];exact (h6.trans g) _ _ e⟩
 ·rcases q0I.mp hq with hq|hq
  ·exact h3 q hq
  ·rw[q0g.mp hq];exact⟨i,j,rfl,hi,hj,hn⟩
 ·rw[q0r]
  exact h4.append (List.Sublist.refl _)
theorem y2A:∀i,i≤4→(edM i).length ≤4*i
 |0,_=>by unfold edM;simp
 |i+1,h=>by
  have:=y2A i (by lia)
  rw[z9f,q0k]
  unfold edR
  rw[q0a,q0W]
  lia
end
end L2
namespace L2
open PySem PySem.Spec PyProof.Rows
section
open Fr Wl Rk Pt Ld
open Builtin.Int (intBits)
variable {P:Program}{w:World}{K:PySem.W.Frag}{mg:Str→Option Value}{base:Heap}{f:Addr}{fd:FuncData}
def z5f (r:List Nat):List Int:=r.map fun k=>((k:Nat):Int)
def okH (E:List (Nat×Nat)) (k:Nat) (r:List Nat) (c:Nat):Bool:=E.all fun e=> !(decide (e.1=k)&&decide (r.getD e.2 0=c))
def huS (E:List (Nat×Nat)) (h k:Nat) (r:List Nat):List (List Nat):=((List.range h).filter (okH E k r)).map fun c=>r++[c]
def hu (E:List (Nat×Nat)) (h:Nat):Nat→List (List Nat)
 |0=>[[]]
 |k+1=>(hu E h k).flatMap (huS E h k)
theorem y2o {E:List (Nat×Nat)}{h:Nat}:∀k,(∀r∈hu E h k,r.length=k)∧(hu E h k).length ≤h^k
 |0=>⟨fun r hr=>by rw[List.mem_singleton.mp hr];rfl,by simp[hu]⟩
 |k+1=>by
  obtain⟨i1,i2⟩:=y2o (E:=E) (h:=h) k
  refine⟨fun r hr=>?_,?_⟩
  ·obtain⟨r0,h0,hr⟩:=q1H.mp hr
   obtain⟨c,_,rfl⟩:=q0f.mp hr
   rw[q0k,i1 r0 h0];rfl
  ·have key:∀L:List (List Nat),(L.flatMap (huS E h k)).length ≤L.length*h:=by
    intro L
    induction L with
    |nil=>simp
    |cons r L ih=>
     have z:(huS E h k r).length ≤h:=by
      unfold huS
      rw[q0a]
      have:=q1o (okH E k r) (List.range h)
      rwa[q0W] at this
     rw[q1Y,q0k,q0J,Nat.add_mul,Nat.one_mul]
     lia
   rw[hu,Nat.pow_succ]
   exact q0m (key _) (Nat.mul_le_mul_right _ i2)
theorem y3Y {E E':List (Nat×Nat)} (h:E.Perm E') (k:Nat) (r:List Nat) (c:Nat):okH E k r c=okH E' k r c:=by
 unfold okH
 rw[q1i,q0X,q0X]
 exact⟨fun z x hx=>z x (h.mem_iff.mpr hx),fun z x hx=>z x (h.mem_iff.mp hx)⟩
theorem y2n {E E':List (Nat×Nat)} (h:E.Perm E') (n:Nat):∀k,hu E n k=hu E' n k
 |0=>rfl
 |k+1=>by
  have e:huS E n k=huS E' n k:=by
   funext r
   unfold huS
   rw[show okH E k r=okH E' k r from funext (y3Y h k r)]
  rw[hu,hu,y2n h n k,e]
def tsH (k c:Nat) (r:List Nat) (q:List Int):Bool:=decide (V.int (max (v q 0) (v q 1))=V.int (k:Nat))&&decide (V.int ((z5f r).getD (min (v q 0) (v q 1)).toNat 0)=V.int (c:Nat))
theorem y2z {m:Nat} (k c:Nat) (r:List Nat):∀qs:List (List Int),(∀q∈qs,pr2 m q)→(qs.filter (tsH k c r)).isEmpty =okH (qs.map edQ) k r c
 |[],_=>rfl
 |q::qs,hq=>by
  have ih:=y2z k c r qs fun x hx=>hq x (by simp[hx])
  obtain⟨i,j,rfl,_,_,_⟩:=hq q (by simp)
  have e1:okH (([(i:Int),(j:Int)]::qs).map edQ) k r c=((!(decide (max i j=k)&&decide (r.getD (min i j) 0=c)))&&okH (qs.map edQ) k r c):=rfl
  have e2:tsH k c r [(i:Int),(j:Int)]=(decide (max i j=k)&&decide (r.getD (min i j) 0=c)):=by
   have z1:decide (V.int (max (i:Int) (j:Int))=V.int (k:Nat))=decide (max i j=k):=by
        rw[z2m,q1i];simp;lia
   have z2:(min (i:Int) (j:Int)).toNat =min i j:=by lia
   have z3:decide (V.int ((z5f r).getD (min i j) 0)=V.int (c:Nat))=decide (r.getD (min i j) 0=c):=by
        have:(z5f r).getD (min i j) 0=((r.getD (min i j) 0:Nat):Int):=by
         unfold z5f
         rw[q0b,q0b,q0h]
         cases r[min i j]? <;>rfl
        rw[this,z2m,q1i];simp;lia
   show (decide (V.int (max (i:Int) (j:Int))=V.int (k:Nat))&&decide (V.int ((z5f r).getD (min (i:Int) (j:Int)).toNat 0)=V.int (c:Nat)))=_
   rw[z2,z1,z3]
  rw[List.filter_cons,e1,←ih,e2]
  cases (decide (max i j=k)&&decide (r.getD (min i j) 0=c))<;>rfl
theorem y7w {H:Hp}{as:List Addr}{ts:List (List Int)}{l:Addr}{o:HO} (h:LsA H as ts) (hn:∀a∈as,a≠l):LsA (upd H l o) as ts:=⟨h.1,fun i a t e1 e2=>by
 rw[z0i (hn a (q0A e1))]
 exact h.2 i a t e1 e2⟩
theorem y1W {H H':Hp}{as:List Addr}{ts:List (List Int)} (h:LsA H as ts) (g:Same H H'):LsA H' as ts:=⟨h.1,fun i a t e1 e2=>g _ _ (h.2 i a t e1 e2)⟩
theorem y5Z {H:Hp}{as:List Addr}{ts:List (List Int)}{a:Addr}{t:List Int} (h:LsA H as ts) (e:H a=some (.lst (t.map V.int))):LsA H (as++[a]) (ts++[t]):=by
 refine⟨by rw[q0k,q0k,h.1];rfl,fun i b u e1 e2=>?_⟩
 by_cases c:i<ts.length
 ·rw[q0D (by rw[h.1];exact c)] at e1
  rw[q0D c] at e2
  exact h.2 i b u e1 e2
 ·rw[q0v (by rw[h.1];lia)] at e1
  rw[q0v (by lia)] at e2
  rw[h.1] at e1
  cases hk:i - ts.length with
  |zero=>rw[hk] at e1 e2;cases e1;cases e2;exact e
  |succ n=>rw[hk] at e1;simp at e1
structure HIv (H:Hp) (l:Addr) (ts:List (List Nat)) (H':Hp):Prop where
 ex:∃as,H' l=some (.lst (as.map V.ref))∧LsA H' as (ts.map z5f)∧∀a∈as,a≠l
 g:Same H H'
theorem HIv.app {H:Hp}{l:Addr}{ts:List (List Nat)}{H1 H2:Hp}{t:Addr}{r:List Nat}{xs:List V} (h:HIv H l ts H1) (g:Same H1 H2) (hx:H2 l=some (.lst xs)) (et:H2 t=some (.lst ((z5f r).map V.int))) (hn:t≠l) (hl:H l=none):HIv H l (ts++[r]) (upd H2 l (.lst (xs++[V.ref t]))):=by
 obtain⟨⟨as,h1,h2,h3⟩,h6⟩:=h
 have e1:=g _ _ h1
 rw[hx] at e1
 have e2:xs=as.map V.ref:=by injection e1 with e1;injection e1
 subst e2
 have h3':∀a∈as++[t],a≠l:=fun a ha=>by
  rcases q0I.mp ha with ha|ha
  ·exact h3 a ha
  ·rw[q0g.mp ha];exact hn
 refine⟨⟨as++[t],by rw[z0b,q0r];rfl,?_,h3'⟩,fun b o e=>by rw[z0i (z0f e hl)];exact (h6.trans g) _ _ e⟩
 rw[q0r]
 exact y7w (y5Z (y1W h2 g) et) h3'
abbrev z5G:Stmt:=top 51
theorem sc_l_hued:z0u ["_law_places","_law_pairs","_law_many","_law_found","_law_place","_law_longer","_law_row","_law_hue"] ["_law_places","_law_pairs","_law_many"] (z0l z5G):=⟨rfl,rfl,rfl,by decide+kernel,rfl,by decide+kernel,by decide+kernel⟩
def y4G (K:PySem.W.Frag):Sp:=fun vs H Q _=>∃(l:Addr) (as:List Addr) (qs:List (List Int)) (m h:Nat),vs=[.int (m:Nat),.ref l,.int (h:Nat)]∧H l=some (.lst (as.map V.ref))∧TsA H as qs∧qs.length≤6∧(∀q∈qs,pr2 m q)∧m≤4∧h≤5∧∀H',Same H H'→Q (.int ((hu (qs.map edQ) h m).length :Nat)) H'
theorem y1L (T:Txt mg) (F:Fun K "_law_hued" "_law_hued" z5G f fd):FnOk P w K mg base CX0 1 f fd ["_law_places","_law_pairs","_law_many"] (y4G K):=by
 refine F.ok sc_l_hued (fun vs H Q E h=>?_) (fun cdv A outer s H vs Q E hr h=>?_)
 ·obtain⟨_,_,_,_,_,rfl,_⟩:=h;rfl
 obtain⟨l,as,qs,m,h,rfl,hl,hqs,q6,hok,m4,h5,q⟩:=h
 refine⟨_,(z0d (z0q (i:=3) sc_l_hued.nd rfl (Or.inl rfl) (z0K (z0a (z0K z0c) z0c)))
  (z0d (z0W PassesOwn.never rfl (z1w rfl T.range (z0a (pv 0) z0c)) (z0k (i:=4) sc_l_hued.nd rfl (Or.inr rfl)) (z0d (z0q (i:=5) sc_l_hued.nd rfl (Or.inl rfl) (z0K z0c))
  (z0d (z0W PassesOwn.never rfl (z0w (K:=K) rfl (pv 3)) (z0k (i:=6) sc_l_hued.nd rfl (Or.inr rfl)) (z0g (z0W PassesOwn.never rfl (z1w rfl T.range (z0a (pv 2) z0c)) (z0k (i:=7) sc_l_hued.nd rfl (Or.inr rfl)) (z0g (z1k (z0D (z5R (K:=K) rfl hr.units) (z0H (Nc:=["_law_i","_law_j","_law_place","_law_row","_law_hue"]) (fr:=[none,none,some 4,some 6,some 7]) rfl (z0w (K:=K) rfl (pv 1)) rfl (by decide) rfl (by decide) rfl ⟨rfl,⟨rfl,⟨rfl,trivial⟩⟩⟩ ⟨⟨rfl,rfl,rfl,rfl⟩,⟨⟨rfl,rfl,rfl,rfl⟩,⟨⟨rfl,rfl,rfl,rfl⟩,trivial⟩⟩⟩ (fun _ _ _ _=>(z0Q (K:=K) rfl 2 rfl (z0t (z0k (i:=0) (show List.Nodup (["_law_i","_law_j","_law_place","_law_row","_law_hue"]:List Str) from by decide) rfl (Or.inl rfl)) (z0t (z0k (i:=1) (show List.Nodup (["_law_i","_law_j","_law_place","_law_row","_law_hue"]:List Str) from by decide) rfl (Or.inl rfl)) z0P)))) (fun _ _ _ _=>(z1U (PW.pt (y4J (z0D z4M (z0A (z7h rfl) rfl T.max boot_max (z0a (pv 0) (z0a (pv 1) z0c))) (pv 2) (z0M _)) (y1r (z0D z4M (z0N (z0F (K:=K) rfl) (pv 3) (z0A (z7g rfl) rfl T.min boot_min (z0a (pv 0) (z0a (pv 1) z0c))) (fun _ _=>rfl)) (pv 4) (z0M _))))))) (fun _ _ _ _=>z0j)) (z0K z0c) (z0M _)) (z0g (z2E (z9M PySem.F.plainAttrs_list PySem.F.slot_list_append PySem.F.type_list_append z1n (pv 5) (z0a (z0y z2z (pv 6) (z0K (z0a (pv 7) z0c))) z0c)))) z0E)))))
  (z0g (z0q (i:=3) sc_l_hued.nd rfl (Or.inl rfl) (pv 5))))))
  (z0g (z0v (z0A (z1b (K:=K) rfl) rfl T.len PySem.boot_len (z0a (pv 3) z0c)))))),?_⟩
 have hlen:∀k,k≤4→(hu (qs.map edQ) h k).length ≤625:=fun k hk=>q0m (y2o k).2 (q0m (Nat.pow_le_pow_left h5 k) (q0m (q1G (by decide) hk) (by decide)))
 refine z0x (fun σ H'=>∃D,σ=[some (.int (m:Nat)),some (.ref l),some (.int (h:Nat)),some (.ref D),none,none,none,none]∧∃as',Same H H'∧H' D=some (.lst (as'.map V.ref))∧LsA H' as' ((hu (qs.map edQ) h 0).map z5f)) (fun N hN=>?_) ?_
 ·refine⟨q0N _,fun z hz=>?_⟩
  have g1:=z0e hz (.lst [])
  have e1:upd H z (.lst []) z=some (.lst (([]:List Int).map V.int)):=z0b
  generalize upd H z (.lst [])=H1 at*
  refine⟨z0h (by show 1≤_;decide),fun z2 hz2=>?_⟩
  have g2:=z0e hz2 (.lst [V.ref z])
  refine hN _ _ ⟨z2,rfl,[z],g1.trans g2,z0b,rfl,fun i a r ea er=>?_⟩
  cases i with
  |zero=>cases ea;cases er;exact g2 _ _ e1
  |succ i=>simp at ea
 rintro σ H0 ⟨D0,rfl,as0,g0,e0,hr0⟩
 refine z0x (fun σ H'=>∃D s4 s5 s6 s7,σ=[some (.int (m:Nat)),some (.ref l),some (.int (h:Nat)),some (.ref D),s4,s5,s6,s7]∧∃as',Same H H'∧H' D=some (.lst (as'.map V.ref))∧LsA H' as' ((hu (qs.map edQ) h m).map z5f)) (fun N hN=>?_) ?_
 ·refine⟨_,rfl,_,rfl,by lia,by lia,?_⟩
  refine z0C (z1j 0 ((m:Nat):Int).toNat) (fun k σ H'=>∃D s4 s5 s6 s7,σ=[some (.int (m:Nat)),some (.ref l),some (.int (h:Nat)),some (.ref D),s4,s5,s6,s7]∧∃as',Same H H'∧H' D=some (.lst (as'.map V.ref))∧LsA H' as' ((hu (qs.map edQ) h k).map z5f))
   ⟨D0,_,_,_,_,rfl,as0,g0,e0,hr0⟩ (fun _ _ _ _ _=>trivial) ?_ ?_
  ·clear g0 e0 hr0
   rintro k x σ H1' H1 hk ⟨D,s4,s5,s6,s7,rfl,as',g,eD,hrs⟩ ⟨rfl,rfl⟩
   rw[q0E] at hk
   obtain⟨hlk,_⟩:=y2o (E:=qs.map edQ) (h:=h) k
   have hl1:=hlen k (by lia)
   have hl2:=hlen (k+1) (by lia)
   have ek:hu (qs.map edQ) h (k+1)=(hu (qs.map edQ) h k).flatMap (huS (qs.map edQ) h k):=rfl
   rw[ek] at hl2 ⊢
   generalize hu (qs.map edQ) h k=R at*
   refine⟨q0N _,fun z hz=>?_⟩
   have g2:=z0e hz (.lst [])
   have hP2:HIv H1 z [] (upd H1 z (.lst [])):=⟨⟨[],z0b,⟨rfl,fun i a t e=>by simp at e⟩,fun a ha=>by cases ha⟩,g2⟩
   have eD2:=g2 _ _ eD
   generalize upd H1 z (.lst [])=H2 at*
   refine⟨_,rfl,D,rfl,⟨_,SqL.of eD2⟩,?_⟩
   refine z0C (z0r K D (as'.map V.ref)) (fun t σ H'=>∃s6 s7,σ=[some (.int (m:Nat)),some (.ref l),some (.int (h:Nat)),some (.ref D),some (.int (0+(k:Nat))),some (.ref z),s6,s7]∧HIv H1 z ((R.take t).flatMap (huS (qs.map edQ) h k)) H')
        ⟨_,_,rfl,hP2⟩ (fun _ _ _ _ hh=>by obtain⟨_,_,_,hh⟩:=hh;exact SqL.of (hh.g _ _ eD)) ?_ ?_
   ·clear hP2 eD2 g2
    rintro t x σ H3' H3 ht ⟨s6,s7,rfl,hP⟩ ⟨rfl,hx⟩
    rw[q0a,hrs.1,q0a] at ht
    rw[q0h] at hx
    obtain⟨b,hb,rfl⟩:=q0u.mp hx
    have er:R[t]? =some R[t]:=q0c ht
    have hb1:=hrs.2 t b (z5f R[t]) hb (by rw[q0h,er];rfl)
    have rl:=hlk _ (q0z ht)
    have tk:(R.take (t+1)).flatMap (huS (qs.map edQ) h k)=(R.take t).flatMap (huS (qs.map edQ) h k)++huS (qs.map edQ) h k R[t]:=by
     rw[q0R,er,List.flatMap_append];simp
    have tl:((R.take t).flatMap (huS (qs.map edQ) h k)).length ≤625:=by
     have:(R.take t++R.drop t).flatMap (huS (qs.map edQ) h k)=(R.take t).flatMap (huS (qs.map edQ) h k)++(R.drop t).flatMap (huS (qs.map edQ) h k):=List.flatMap_append
     rw[q1M] at this
     rw[this,q0k] at hl2
     lia
    rw[tk]
    generalize R[t]=r at*
    generalize (R.take t).flatMap (huS (qs.map edQ) h k)=pre at*
    have nl:(z5f r).length =k:=by unfold z5f;rw[List.length_map,rl]
    refine⟨_,rfl,_,rfl,by lia,by lia,?_⟩
    refine z0C (z1j 0 ((h:Nat):Int).toNat) (fun c σ H'=>∃s7,σ=[some (.int (m:Nat)),some (.ref l),some (.int (h:Nat)),some (.ref D),some (.int (0+(k:Nat))),some (.ref z),some (.ref b),s7]∧HIv H1 z (pre++((List.range c).filter (okH (qs.map edQ) k r)).map fun c=>r++[c]) H')
     ⟨_,rfl,by simpa using hP⟩ (fun _ _ _ _ _=>trivial) ?_ ?_
    ·clear hP
     rintro c x σ H4' H4 hc ⟨s7,rfl,hP⟩ ⟨rfl,rfl⟩
     rw[q0E] at hc
     have hl4:=(g.trans hP.g) _ _ hl
     have hqs4:=hqs.same (g.trans hP.g)
     have hb4:=hP.g _ _ hb1
     have e0k:((0:Int)+(k:Nat))=((k:Nat):Int):=by lia
     have e0c:((0:Int)+(c:Nat))=((c:Nat):Int):=by lia
     rw[e0k,e0c]
     refine⟨_,rfl,l,rfl,⟨_,SqL.of hl4⟩,fun D2 hD2=>?_⟩
     refine z0G qs (by rw[q0a,hqs.1]) (z0r K l (as.map V.ref)) hD2 (fun q σ=>(σ.set 0 (some (.int (v q 0)))).set 1 (some (.int (v q 1)))) (fun d e σ=>z1f _ _ _ _ _) (tsH k c r) (fun _ _ u=>u=V.int 1) (fun _ _ _ _ _ _ h=>h) (fun H' g'=>SqL.of (g' _ _ hl4)) (z0h (by rw[q0a,hqs.1];lia)) ?_ ?_ ?_ ?_
     ·intro i x q' hx hq σ H5 g5 S hh
      rw[q0h] at hx
      obtain⟨b',hb',rfl⟩:=q0u.mp hx
      have h1:=hqs4.2 i b' q' hb' hq
      obtain⟨i',j',rfl,_⟩:=hok q' (q0A hq)
      exact⟨b',_,rfl,SqT.of (g5 _ _ h1),rfl,_,_,rfl,_,_,rfl,rfl,hh⟩
     ·intro q' hq Hc gc S hh
      obtain⟨i,j,rfl,_,_,hij⟩:=hok q' hq
      have emx:(if (j:Int)>(i:Int) then (j:Int) else (i:Int))=max (i:Int) (j:Int):=by split<;>lia
      have emn:(if (j:Int)<(i:Int) then (j:Int) else (i:Int))=min (i:Int) (j:Int):=by split<;>lia
      have hS:tsH k c r [(i:Int),(j:Int)]=(decide (V.int (max (i:Int) (j:Int))=V.int (k:Nat))&&decide (V.int ((z5f r).getD (min (i:Int) (j:Int)).toNat 0)=V.int (c:Nat))):=rfl
      have hh':=hh Hc (Same.refl _)
      rw[hS] at hh'
      refine⟨_,rfl,_,rfl,_,_,rfl,_,rfl,?_⟩
      rw[show v [(i:Int),(j:Int)] 0=(i:Int) from rfl,show v [(i:Int),(j:Int)] 1=(j:Int) from rfl,emx]
      refine⟨rfl,_,rfl,?_⟩
      refine z6c (fun c1=>?_) (fun c1=>?_)
      ·rw[c1,Bool.true_and] at hh'
       rw[z2m] at c1
       have c2:=eq_of_beq c1
       have hm1:0≤min (i:Int) (j:Int):=by lia
       have hm2:min (i:Int) (j:Int)<((z5f r).length :Nat):=by rw[nl];lia
       refine⟨_,rfl,_,rfl,_,rfl,_,_,rfl,?_⟩
       rw[emn]
       exact⟨b,_,_,_,rfl,rfl,SqL.of (gc _ _ hb4),z4H hm1 hm2,_,rfl,rfl,_,rfl,hh'⟩
      ·have c':decide (V.int (max (i:Int) (j:Int))=V.int (k:Nat))=false:=by simpa using c1
       rw[c',Bool.false_and] at hh'
       exact hh'
     ·intro q' hq _ Hc gc _ S hh
      exact hh _ _ (Same.refl _) rfl
     ·intro us H5 g5 hD5 he
      refine⟨q0N _,fun e0 he0=>?_⟩
      have g6:=z0e he0 (.lst [])
      have e6:upd H5 e0 (.lst []) e0=some (.lst []):=z0b
      generalize upd H5 e0 (.lst [])=H6 at*
      refine⟨D2,e0,_,rfl,rfl,SqL.of (g6 _ _ hD5),SqL.of e6,_,rfl,?_⟩
      rw[z9g he,y2z k c r qs hok]
      have g46:=g5.trans g6
      obtain⟨asz,z1,z2,z3⟩:=id hP.ex
      have hb6:=g46 _ _ hb4
      have ez6:=g46 _ _ z1
      have asl:(asz.map V.ref).length <sizeLine:=z3q (by
          rw[q0a,z2.1,q0a,q0k,q0a]
          have:=q1o (okH (qs.map edQ) k r) (List.range c)
          rw[q0W] at this
          lia)
      rw[List.range_succ,q1f]
      refine z6c (fun cc=>?_) (fun cc=>?_)
      ·rw[q0O cc,List.filter_nil,q0r,←q1A]
       refine⟨_,rfl,.inl ⟨rfl,_,SqL.of ez6⟩,_,rfl,_,rfl,z0h (by show 1≤_;decide),fun l1 hl1=>?_⟩
       have k2:=z0e hl1 (.lst [V.int (c:Nat)])
       have w2:upd H6 l1 (.lst [V.int (c:Nat)]) l1=some (.lst [V.int (c:Nat)]):=z0b
       generalize upd H6 l1 (.lst [V.int (c:Nat)])=H7 at*
       refine⟨b,l1,_,_,rfl,rfl,k2 _ _ hb6,w2,z0h (by rw[q0a,nl];show k+1≤_;lia),fun c1 hc1=>?_⟩
       have k3:=z0e hc1 (.lst ((z5f r).map V.int++[V.int (c:Nat)]))
       have w3:upd H7 c1 (.lst ((z5f r).map V.int++[V.int (c:Nat)])) c1=some (.lst ((z5f (r++[c])).map V.int)):=by
           rw[z0b]
           unfold z5f
           rw[q0r,q0r];rfl
       generalize upd H7 c1 (.lst ((z5f r).map V.int++[V.int (c:Nat)]))=H8 at*
       have k23:=k2.trans k3
       have hne:c1≠z:=fun e=>by rw[e,k2 _ _ ez6] at hc1;cases hc1
       refine⟨z,_,_,rfl,rfl,k23 _ _ ez6,asl,?_⟩
       exact⟨_,rfl,hP.app (g46.trans k23) (k23 _ _ ez6) w3 hne hz⟩
      ·rw[q0V cc,List.filter_nil,q1F]
       exact⟨_,rfl,hP.ex.elim fun as h=>⟨as,g46 _ _ h.1,y1W h.2.1 g46,h.2.2⟩,hP.g.trans g46⟩
    ·rintro σ H4 ⟨s7,rfl,hP⟩
     rw[q0E] at hP
     exact⟨_,_,rfl,hP⟩
   ·rintro σ H3 ⟨s6,s7,rfl,hP⟩
    rw[q0a,hrs.1,q0a,q0T] at hP
    obtain⟨asz,z1,z2,z3⟩:=hP.ex
    exact⟨_,rfl,z,_,_,_,_,rfl,asz,g.trans hP.g,z1,z2⟩
  ·rintro σ H1 ⟨D,s4,s5,s6,s7,rfl,as',g,eD,hrs⟩
   rw[q0E] at hrs
   exact hN _ _ ⟨D,_,_,_,_,rfl,as',g,eD,hrs⟩
 clear g0 e0 hr0
 rintro σ H1 ⟨D,s4,s5,s6,s7,rfl,as',g,eD,hrs⟩
 refine⟨_,rfl,D,_,rfl,.inl (SqL.of eD),?_⟩
 have e:(as'.map V.ref).length =(hu (qs.map edQ) h m).length :=by rw[q0a,hrs.1,q0a]
 rw[e]
 exact q _ g
end
end L2
namespace L2
open PySem PySem.Spec PyProof.Rows
section
open Fr Wl Rk Pt Ld
theorem y5r {m i j:Nat}{k:Int} (hi:i<m) (hj:j<m) (c:Nat):v (z2D m i j k) c=if c=j then -1 else if c=i then 1 else if c=m then k else 0:=by
 show (z2D m i j k).getD c 0=_
 unfold z2D
 rw[q0b,List.getElem?_set,List.getElem?_set]
 simp only[List.length_set,q0k,q1c,q1j]
 by_cases h1:c=j
 ·subst h1
  rw[if_pos rfl,if_pos rfl,if_pos (by lia)];rfl
 ·rw[if_neg (fun z=>h1 z.symm),if_neg h1]
  by_cases h2:c=i
  ·subst h2
   rw[if_pos rfl,if_pos rfl,if_pos (by lia)];rfl
  ·rw[if_neg (fun z=>h2 z.symm),if_neg h2]
   by_cases h3:c=m
   ·subst h3
    rw[if_pos rfl,q0v (by simp),q1c,q1y];rfl
   ·rw[if_neg h3]
    by_cases h4:c<m
    ·rw[q0D (by simpa using h4),q2b,if_pos h4];rfl
    ·rw[q1p (by simp;lia)];rfl
theorem y6w {m i j:Nat}{k:Int}:(z6m m i j k).length =m+1:=by
 unfold z6m
 split
 ·rw[q0a,z3J]
 ·exact z3J _ _ _ _
theorem y7M {m i j:Nat}{k:Int} (hm:m≤4) (hi:i<m) (hj:j<m) (hn:i≠j):WL m (z6m m i j k):=by
 refine⟨y6w,?_,i,hi,?_⟩
 ·rw[←y4K hm hi hj hn]
  exact z1Y ⟨1,z8F hi (Ne.symm hn),by decide⟩
 ·have e:=y5r (k:=k) hi hj i
  rw[if_neg hn,if_pos rfl] at e
  unfold z6m
  split
  ·have:(z2D m i j k).map (fun n=>0 - n)=(z2D m i j k).map (fun n=>(-1)*n):=q0S fun n _=>by lia
   rw[this,Rk.v_map,e];decide
  ·rw[e];decide
def y6H {α:Type}:List α→List (List α)
 |[]=>[[]]
 |x::xs=>y6H xs++(y6H xs).map (x:: ·)
theorem z5W {α:Type}{E L:List α} (h:E.Sublist L):E∈y6H L:=by
 induction h with
 |slnil=>exact List.mem_singleton.mpr rfl
 |cons x _ ih=>exact List.mem_append_left _ ih
 |cons_cons x _ ih=>exact List.mem_append_right _ (List.mem_map_of_mem ih)
def wE (m:Nat) (e:Nat×Nat):List Int:=z6m m e.2 e.1 0
theorem flip0 {m i j:Nat} (hm:m≤4) (hi:i<m) (hj:j<m) (hn:i≠j):z6m m i j 0=z6m m j i 0:=by
 rcases (by lia:m=0∨m=1∨m=2∨m=3∨m=4) with rfl|rfl|rfl|rfl|rfl
 ·lia
 ·lia
 ·rcases (by lia:i=0∨i=1) with rfl|rfl<;>rcases (by lia:j=0∨j=1) with rfl|rfl
  all_goals first|exact absurd rfl hn|decide
 ·rcases (by lia:i=0∨i=1∨i=2) with rfl|rfl|rfl<;>rcases (by lia:j=0∨j=1∨j=2) with rfl|rfl|rfl
  all_goals first|exact absurd rfl hn|decide
 ·rcases (by lia:i=0∨i=1∨i=2∨i=3) with rfl|rfl|rfl|rfl<;>rcases (by lia:j=0∨j=1∨j=2∨j=3) with rfl|rfl|rfl|rfl
  all_goals first|exact absurd rfl hn|decide
theorem wE_eq {m:Nat}{q:List Int} (hm:m≤4) (h:pr2 m q):y0i m [v q 0,v q 1,0]=wE m (edQ q):=by
 obtain⟨i,j,rfl,hi,hj,hn⟩:=h
 show z6m m i j 0=z6m m (min i j) (max i j) 0
 by_cases c:i<j
 ·rw[q1T (by lia),Nat.max_eq_right (by lia)]
 ·rw[Nat.min_eq_right (by lia),Nat.max_eq_left (by lia),flip0 hm hi hj hn]
theorem y1v {α β:Type}{f:α→β}{E E':List β} (h:E.Perm E'):∀l:List α,l.map f=E→∃l':List α,l'.Perm l∧l'.map f=E':=by
 induction h with
 |nil=>intro l e;exact⟨l,.refl _,e⟩
 |cons x _ ih=>
  intro l e
  cases l with
  |nil=>cases e
  |cons a l=>
   rw[q0q] at e
   injection e with e1 e2
   obtain⟨l',p,e'⟩:=ih l e2
   exact⟨a::l',p.cons a,by rw[q0q,e1,e']⟩
 |swap x y l0=>
  intro l e
  cases l with
  |nil=>cases e
  |cons a l=>
   cases l with
   |nil=>cases e
   |cons b l=>
    rw[q0q,q0q] at e
    injection e with e1 e2
    injection e2 with e2 e3
    exact⟨b::a::l,.swap _ _ _,by rw[q0q,q0q,e1,e2,e3]⟩
 |trans _ _ ih1 ih2=>
  intro l e
  obtain⟨l1,p1,e1⟩:=ih1 l e
  obtain⟨l2,p2,e2⟩:=ih2 l1 e1
  exact⟨l2,p2.trans p1,e2⟩
theorem y4a {r r':List (List Int)} (h:r.Perm r') (L:List Nat) (w:Nat):noG r L w=noG r' L w:=by
 unfold noG
 rw[q1i,q0X,q0X]
 exact⟨fun z x hx=>z x (h.mem_iff.mpr hx),fun z x hx=>z x (h.mem_iff.mp hx)⟩
theorem y6t {r r':List (List Int)} (h:r.Perm r') (m:Nat):gR m r=gR m r':=by
 have it:∀k L,goR r k L=goR r' k L:=by
  intro k
  induction k with
  |zero=>intro L;rfl
  |succ k ih=>
   intro L
   rw[goR,goR,show noG r L=noG r' L from funext (y4a h L)]
   cases L.filter (noG r' L) with
   |nil=>rfl
   |cons w _=>exact ih _
 unfold gR
 rw[it]
def funs:Nat→Nat→List (List Nat)
 |_,0=>[[]]
 |m,k+1=>(funs m k).flatMap fun f=>(List.range m).map fun x=>f++[x]
theorem z8Q {m:Nat}:∀{k:Nat}{f:List Nat},f.length=k→(∀x∈f,x<m)→f∈funs m k
 |0,f,h,_=>by rw[List.length_eq_zero_iff.mp h];exact List.mem_singleton.mpr rfl
 |k+1,f,h,hx=>by
  obtain⟨f',x,rfl⟩:∃f' x,f=f'++[x]:=⟨f.dropLast,f.getLast (fun z=>by rw[z] at h;simp at h),(q0Q _).symm⟩
  refine q1H.mpr ⟨f',z8Q (by simpa using h) fun y hy=>hx y (by simp[hy]),q0f.mpr ⟨x,q1C.mpr (hx x (by simp)),rfl⟩⟩
def y0v (f:List Nat) (r:List (List Int)):Bool:=r.all fun p=>decide (f.getD (v p 0).toNat 0<f.getD (v p 1).toNat 0)
def toL (e:Nat×Nat):List Int:=[(e.1:Int),(e.2:Int)]
def chk (m:Nat) (E:List (Nat×Nat)):Bool:=decide (E.map (wE m)).Nodup &&decide ((E.map (wE m)).length ≤6)&&decide (alt m (fun k=>(bto 6 m (E.map (wE m))).getD k 0)<64)&&E.all (fun e=>decide (e.1<m)&&decide (e.2<e.1))
def chkG (m:Nat) (E:List (Nat×Nat)):Bool:=(z7s (E.map toL)).all fun r=>(gR m r).isEmpty ==(funs m m).any fun f=>y0v f r
def chkH (m:Nat) (E:List (Nat×Nat)):Bool:=(List.range 6).all fun h=>decide (Wp (bto 6 m (E.map (wE m))) (h:Nat)=((hu E h m).length :Nat))
theorem y2R:∀m,m<5→(y6H (edM m)).all (chkH m)=true:=by decide+kernel
theorem y4v:∀m,m<5→(y6H (edM m)).all (chk m)=true:=by decide+kernel
theorem y2S:∀m,m<5→(y6H (edM m)).all (chkG m)=true:=by decide+kernel
end
end L2
namespace L2
open PySem PySem.Spec PyProof.Rows
section
open Fr Wl Rk Pt Ld
theorem z8h {m:Nat}{E:List (Nat×Nat)} (hm:m≤4) (h:E.Sublist (edM m)):chk m E=true∧chkG m E=true:=
 ⟨q0X.mp (y4v m (by lia)) E (z5W h),q0X.mp (y2S m (by lia)) E (z5W h)⟩
theorem hg_wE {m a b:Nat} (hm:m≤4) (ha:a<m) (hb:b<a) (s:Nat→Int):hg m (v (wE m (a,b))) s=s b - s a:=by
 have e:wE m (a,b)=z2D m b a 0:=by
  show z6m m b a 0=_
  unfold z6m
  rw[if_neg (by lia)]
 rw[e]
 unfold hg
 rw[sumTo_congr m (g:=fun c=>(if c=a then -1 else if c=b then 1 else if c=m then 0 else 0)*s c) fun c _=>by rw[y5r (by lia) ha],y5r (by lia) ha,if_neg (by lia),if_neg (by lia),if_pos rfl]
 rcases (by lia:m=0∨m=1∨m=2∨m=3∨m=4) with rfl|rfl|rfl|rfl|rfl
 ·lia
 ·lia
 ·rcases (by lia:a=1) with rfl
  rcases (by lia:b=0) with rfl
  simp[Ld.sumTo];lia
 ·rcases (by lia:a=1∨a=2) with rfl|rfl<;>rcases (by lia:b=0∨b=1) with rfl|rfl
  all_goals first|lia|(simp[Ld.sumTo];lia)
 ·rcases (by lia:a=1∨a=2∨a=3) with rfl|rfl|rfl<;>rcases (by lia:b=0∨b=1∨b=2) with rfl|rfl|rfl
  all_goals first|lia|(simp[Ld.sumTo];lia)
theorem y7b {a b s:Int} (hs:0<s):ltF (z4L a s) (z4L b s)=decide (a<b):=by
 have hg:(0:Int)<(Int.gcd a s:Nat):=by
  have:Int.gcd a s≠0:=fun z=>by have:=q2d.mp z;lia
  lia
 have hh:(0:Int)<(Int.gcd b s:Nat):=by
  have:Int.gcd b s≠0:=fun z=>by have:=q2d.mp z;lia
  lia
 obtain⟨a',ea⟩:=q1s (a:=a) (b:=s)
 obtain⟨s1,es1⟩:=q1L (a:=a) (b:=s)
 obtain⟨b',eb⟩:=q1s (a:=b) (b:=s)
 obtain⟨s2,es2⟩:=q1L (a:=b) (b:=s)
 have f:∀{g x y:Int},0<g→x=g*y→x.fdiv g=y:=fun hg e=>by
  rw[e,Int.fdiv_eq_ediv_of_dvd (Int.dvd_mul_right _ _),Int.mul_ediv_cancel_left _ (by lia)]
 have e1:ltF (z4L a s) (z4L b s)=decide (a'*s2<b'*s1):=by
  unfold ltF z4L
  show decide (a.fdiv _*s.fdiv _<b.fdiv _*s.fdiv _)=_
  rw[f hg ea,f hg es1,f hh eb,f hh es2]
 rw[e1]
 generalize ((Int.gcd a s:Nat):Int)=g at*
 generalize ((Int.gcd b s:Nat):Int)=h at*
 have hgh:0<g*h:=q1R hg hh
 have p1:a*s=g*h*(a'*s2):=by
  have:a*s=(g*a')*(h*s2):=by rw[←ea,←es2]
  rw[this];grind
 have p2:b*s=g*h*(b'*s1):=by
  have:b*s=(h*b')*(g*s1):=by rw[←eb,←es1]
  rw[this];grind
 rw[decide_eq_decide]
 constructor
 ·intro z
  have:=Int.mul_lt_mul_of_pos_left z hgh
  rw[←p1,←p2] at this
  exact Int.lt_of_mul_lt_mul_right this (by lia)
 ·intro z
  have:=Int.mul_lt_mul_of_pos_right z hs
  rw[p1,p2] at this
  exact Int.lt_of_mul_lt_mul_left this (by lia)
def oq (x:Nat→Int) (q:List Int):List Int:=if x (v q 0).toNat <x (v q 1).toNat then [v q 0,v q 1] else [v q 1,v q 0]
theorem y7x {m:Nat}{sp:List Int}{q:List Int} (h:Spt m sp) (hq:pr2 m q):y6d (sp.dropLast.map fun t=>z4L t (v sp m)) q=oq (v sp) q:=by
 obtain⟨i,j,rfl,hi,hj,_⟩:=hq
 have at_:∀k,k<m→(sp.dropLast.map fun t=>z4L t (v sp m)).getD k []=z4L (v sp k) (v sp m):=fun k hk=>by
  have hl:=h.1
  rw[q0b,q0h,List.getElem?_dropLast,if_pos (by lia),q0c (by lia)]
  show z4L sp[k] (v sp m)=z4L (sp.getD k 0) (v sp m)
  rw[q0b,q0c (by lia)];rfl
 unfold y6d oq
 show (if ltF ((sp.dropLast.map fun t=>z4L t (v sp m)).getD i []) ((sp.dropLast.map fun t=>z4L t (v sp m)).getD j [])=true then _ else _)=if v sp i<v sp j then _ else _
 rw[at_ i hi,at_ j hj,y7b h.2]
 by_cases c:v sp i<v sp j
 ·rw[if_pos c,if_pos (decide_eq_true c)]
 ·rw[if_neg c,if_neg (by simpa using c)]
theorem z8E {m:Nat}{qs:List (List Int)}{d:LandD} (h:Spt m d.sp) (hok:∀q∈qs,pr2 m q):y3g m qs d=qs.map (oq (v d.sp)):=q0S fun q hq=>y7x h (hok q hq)
theorem z2p (qs:List (List Int)) (q:List Int):z7s (qs++[q])=orS (z7s qs) q:=by unfold z7s;rw[List.foldl_append];rfl
theorem z2P {α:Type}{p:List α→Prop} (h0:p []) (h1:∀l x,p l→p (l++[x])):∀l,p l:=fun l=>by
 rw[←List.reverse_reverse l]
 induction l.reverse with
 |nil=>exact h0
 |cons x l ih=>rw[List.reverse_cons];exact h1 _ _ ih
theorem y4N (x:Nat→Int):∀qs:List (List Int),qs.map (oq x)∈z7s qs:=z2P (q0g.mpr rfl) fun qs q ih=>by
 rw[z2p,q0r]
 refine q1H.mpr ⟨_,ih,?_⟩
 show qs.map (oq x)++[oq x q]∈_
 unfold oq
 split
 ·exact q0l ..
 ·exact q0j _ (q0g.mpr rfl)
theorem incr_app {f:List Nat}{r:List (List Int)}{p:List Int}:y0v f (r++[p])=true↔y0v f r=true∧f.getD (v p 0).toNat 0<f.getD (v p 1).toNat 0:=by
 unfold y0v
 rw[List.all_append,q1b]
 simp
theorem y6k {m:Nat}{f:List Nat}:∀qs:List (List Int),(∀q∈qs,pr2 m q)→∀r∈z7s qs,y0v f r=true→r=qs.map (oq fun c=>((f.getD c 0:Nat):Int)):=z2P (fun _ r hr _=>q0g.mp hr) fun qs q ih hok r hr hi=>by
 rw[z2p] at hr
 obtain⟨r0,h0,hr⟩:=q1H.mp hr
 obtain⟨i,j,rfl,_,_,_⟩:=hok q (by simp)
 have ih':=ih fun q hq=>hok q (by simp[hq])
 rw[q0r]
 rcases q0n.mp hr with rfl|hr
 ·obtain⟨z1,z2⟩:=incr_app.mp hi
  have z2':f.getD i 0<f.getD j 0:=z2
  rw[ih' r0 h0 z1]
  show _=_++[if ((f.getD i 0:Nat):Int)<((f.getD j 0:Nat):Int) then _ else _]
  rw[if_pos (by lia)]
 ·rw[q0g.mp hr] at hi ⊢
  obtain⟨z1,z2⟩:=incr_app.mp hi
  have z2':f.getD j 0<f.getD i 0:=z2
  rw[ih' r0 h0 z1]
  show _=_++[if ((f.getD i 0:Nat):Int)<((f.getD j 0:Nat):Int) then _ else _]
  rw[if_neg (by lia)]
end
end L2
namespace L2
open PySem PySem.Spec PyProof.Rows
section
open Fr Wl Rk Pt Ld
theorem y6D {m:Nat}:∀qs:List (List Int),(∀q∈qs,pr2 m q)→∀r∈z7s qs,r.map edQ=qs.map edQ∧∀p∈r,pr2 m p:=z2P (fun _ r hr=>by rw[q0g.mp hr];exact⟨rfl,fun p hp=>by cases hp⟩) fun qs q ih hok r hr=>by
 rw[z2p] at hr
 obtain⟨r0,h0,hr⟩:=q1H.mp hr
 obtain⟨i,j,rfl,hi,hj,hn⟩:=hok q (by simp)
 obtain⟨z1,z2⟩:=ih (fun q hq=>hok q (by simp[hq])) r0 h0
 have fin:∀p,edQ p=edQ [(i:Int),(j:Int)]→pr2 m p→(r0++[p]).map edQ=(qs++[[(i:Int),(j:Int)]]).map edQ∧∀x∈r0++[p],pr2 m x:=fun p e hp=>⟨by rw[q0r,q0r,z1,List.map_singleton,List.map_singleton,e],fun x hx=>by
  rcases q0I.mp hx with hx|hx
  ·exact z2 x hx
  ·rw[q0g.mp hx];exact hp⟩
 rcases q0n.mp hr with rfl|hr
 ·exact fin _ rfl ⟨i,j,rfl,hi,hj,hn⟩
 ·rw[q0g.mp hr]
  exact fin _ (by show (max j i,min j i)=(max i j,min i j);rw[Nat.max_comm,Nat.min_comm]) ⟨j,i,rfl,hj,hi,Ne.symm hn⟩
theorem y5L {m:Nat}:∀r:List (List Int),(∀p∈r,pr2 m p)→r∈z7s ((r.map edQ).map toL):=z2P (fun _=>q0g.mpr rfl) fun r p ih hok=>by
 rw[q0r,q0r,List.map_singleton,List.map_singleton,z2p]
 obtain⟨i,j,rfl,hi,hj,hn⟩:=hok p (by simp)
 refine q1H.mpr ⟨r,ih fun q hq=>hok q (by simp[hq]),?_⟩
 show r++[[(i:Int),(j:Int)]]∈[r++[[((max i j:Nat):Int),((min i j:Nat):Int)]],r++[[((min i j:Nat):Int),((max i j:Nat):Int)]]]
 by_cases c:i<j
 ·rw[Nat.max_eq_right (by lia),q1T (by lia)]
  exact q0j _ (q0g.mpr rfl)
 ·rw[Nat.max_eq_left (by lia),Nat.min_eq_right (by lia)]
  exact q0l ..
theorem z6E {m:Nat}{qs r:List (List Int)}{E:List (Nat×Nat)} (hm:m≤4) (hok:∀q∈qs,pr2 m q) (hp:(qs.map edQ).Perm E) (hE:E.Sublist (edM m)) (hr:r∈z7s qs):(gR m r).isEmpty =true↔∃f∈funs m m,y0v f r=true:=by
 obtain⟨z1,z2⟩:=y6D qs hok r hr
 obtain⟨r',p,e⟩:=y1v hp r z1
 have hr':r'∈z7s (E.map toL):=by
  rw[←e]
  exact y5L r' fun x hx=>z2 x (p.mem_iff.mp hx)
 have k:=q0X.mp (z8h hm hE).2 r' hr'
 have k':(gR m r').isEmpty =(funs m m).any fun f=>y0v f r':=eq_of_beq k
 rw[←y6t p,k',List.any_eq_true]
 have ei:∀f,y0v f r'=y0v f r:=fun f=>by
  unfold y0v
  rw[q1i,q0X,q0X]
  exact⟨fun z x hx=>z x (p.mem_iff.mpr hx),fun z x hx=>z x (p.mem_iff.mp hx)⟩
 exact⟨fun⟨f,h1,h2⟩=>⟨f,h1,by rw[←ei];exact h2⟩,fun⟨f,h1,h2⟩=>⟨f,h1,by rw[ei];exact h2⟩⟩
theorem y2w {α:Type}{l:List α}{p q:α→Bool} (h:∀x∈l,p x=true→q x=true) {a:α} (ha:a∈l) (hq:q a=true) (hp:p a=false):(l.filter p).length <(l.filter q).length :=by
 have e:l.filter p=(l.filter q).filter p:=by
  rw[List.filter_filter]
  exact List.filter_congr fun x hx=>by
   cases z:p x with
   |false=>simp
   |true=>simp[h x hx z]
 rw[e]
 exact List.length_filter_lt_length_iff_exists.mpr ⟨a,q1u.mpr ⟨ha,hq⟩,by simp[hp]⟩
def hts (m:Nat) (x:Nat→Int):List Nat:=(List.range m).map fun c=>((List.range m).filter fun k=>decide (x k<x c)).length
theorem y5b {m:Nat}{x:Nat→Int}{c:Nat} (hc:c<m):(hts m x).getD c 0=((List.range m).filter fun k=>decide (x k<x c)).length :=by
 unfold hts
 rw[q0b,q0h,q2c hc];rfl
theorem y6n (m:Nat) (x:Nat→Int):hts m x∈funs m m:=by
 refine z8Q (by unfold hts;rw[List.length_map,List.length_range]) fun n hn=>?_
 unfold hts at hn
 obtain⟨c,hc,rfl⟩:=q0f.mp hn
 have:=List.length_filter_lt_length_iff_exists (p:=fun k=>decide (x k<x c)) (l:=List.range m) |>.mpr ⟨c,hc,by simp⟩
 rw[q0W] at this
 exact this
theorem y5a {m:Nat}{x:Nat→Int}{a b:Nat} (ha:a<m) (hb:b<m) (h:x a<x b):(hts m x).getD a 0<(hts m x).getD b 0:=by
 rw[y5b ha,y5b hb]
 refine y2w (fun k _ hk=>?_) (q1C.mpr ha) (decide_eq_true h) (by simp)
 have:=of_decide_eq_true hk
 exact decide_eq_true (by lia)
theorem y5O {m:Nat}{x:Nat→Int}{qs:List (List Int)} (hok:∀q∈qs,pr2 m q) (hne:∀q∈qs,x (v q 0).toNat ≠x (v q 1).toNat):y0v (hts m x) (qs.map (oq x))=true:=by
 unfold y0v
 rw[q0X]
 intro p hp
 obtain⟨q,hq,rfl⟩:=q0f.mp hp
 obtain⟨i,j,rfl,hi,hj,hn⟩:=hok q hq
 have hne':x i≠x j:=hne _ hq
 show decide ((hts m x).getD (v (if x i<x j then [(i:Int),(j:Int)] else [(j:Int),(i:Int)]) 0).toNat 0<(hts m x).getD (v (if x i<x j then [(i:Int),(j:Int)] else [(j:Int),(i:Int)]) 1).toNat 0)=true
 by_cases c:x i<x j
 ·rw[if_pos c]
  exact decide_eq_true (y5a hi hj c)
 ·rw[if_neg c]
  exact decide_eq_true (y5a hj hi (show x j<x i by lia))
theorem y0r {m:Nat}:∀qs:List (List Int),(∀q∈qs,pr2 m q)→(z7s qs).Nodup :=z2P (fun _=>by unfold z7s;simp) fun qs q ih hok=>by
 rw[z2p]
 obtain⟨i,j,rfl,hi,hj,hn⟩:=hok q (by simp)
 have ih':=ih fun q hq=>hok q (by simp[hq])
 have key:∀R:List (List (List Int)),R.Nodup→(orS R [(i:Int),(j:Int)]).Nodup :=by
  intro R
  induction R with
  |nil=>intro _;exact List.nodup_nil
  |cons r R ihR=>
   intro hR
   obtain⟨h1,h2⟩:=q1E.mp hR
   have e:orS (r::R) [(i:Int),(j:Int)]=(r++[[(i:Int),(j:Int)]])::(r++[[(j:Int),(i:Int)]])::orS R [(i:Int),(j:Int)]:=rfl
   have out:∀p,r++[p]∉orS R [(i:Int),(j:Int)]:=fun p hp=>by
        obtain⟨r0,h0,hp⟩:=q1H.mp hp
        have:r=r0:=by
         rcases q0n.mp hp with e|e
         ·exact (List.append_inj' e rfl).1
         ·exact (List.append_inj' (q0g.mp e) rfl).1
        exact h1 (this▸h0)
   rw[e]
   refine q1E.mpr ⟨fun z=>?_,q1E.mpr ⟨out _,ihR h2⟩⟩
   rcases q0n.mp z with z|z
   ·have:=(List.append_inj' z rfl).2
    simp at this
    lia
   ·exact out _ z
 exact key _ ih'
end
end L2
namespace L2
open PySem PySem.Spec PyProof.Rows
section
open Fr Wl Rk Pt Ld Srt
theorem y3l {m:Nat}{qs:List (List Int)}{E:List (Nat×Nat)} (hm:m≤4) (hok:∀q∈qs,pr2 m q) (hp:(qs.map edQ).Perm E) (hE:E.Sublist (edM m)):
 wlP m qs=(qs.map edQ).map (wE m)∧(∀x∈wlP m qs,WL m x)∧qs.length≤6∧(sgN m (wlP m qs) (wlP m qs).length).length <64:=by
 have hk:=(z8h hm hE).1
 unfold chk at hk
 simp only[q1b,decide_eq_true_eq] at hk
 obtain⟨⟨⟨k1,k2⟩,k3⟩,k6⟩:=hk
 have em:(qs.map fun q=>[v q 0,v q 1,0]).map (y0i m)=(qs.map edQ).map (wE m):=by
  rw[q0K,q0K]
  exact q0S fun q hq=>wE_eq hm (hok q hq)
 have hp2:((qs.map edQ).map (wE m)).Perm (E.map (wE m)):=hp.map _
 have nd:((qs.map edQ).map (wE m)).Nodup :=hp2.nodup_iff.mpr k1
 have ew:wlP m qs=(qs.map edQ).map (wE m):=by
  unfold wlP
  rw[em,y2J _ [] (by rw[List.nil_append];exact nd),List.nil_append]
 have wl:∀x∈E.map (wE m),WL m x:=fun x hx=>by
  obtain⟨e,he,rfl⟩:=q0f.mp hx
  have:=q0X.mp k6 e he
  simp only[q1b,decide_eq_true_eq] at this
  exact y7M (by lia) (by lia) this.1 (by lia)
 have w1:∀x∈wlP m qs,WL m x:=fun x hx=>by rw[ew] at hx;exact wl x (hp2.mem_iff.mp hx)
 have nd':(wlP m qs).Nodup :=by rw[ew];exact nd
 refine⟨ew,w1,?_,?_⟩
 ·have:=hp.length_eq
  rw[q0a] at this
  rw[q0a] at k2
  lia
 ·have hc:=z2H _ m _ rfl w1 nd'
  have:alt m (pS m [] (wlP m qs))=alt m (fun k=>(bto 6 m (E.map (wE m))).getD k 0):=by
   congr 1
   funext k
   rw[z9s 6 m _ (by lia) wl k1,ew,z4p hp2]
  lia
theorem web93 {m:Nat}{qs:List (List Int)}{E:List (Nat×Nat)} (hm:m≤4) (hok:∀q∈qs,pr2 m q) (hp:(qs.map edQ).Perm E) (hE:E.Sublist (edM m)):
 (∀c∈y3h m (wlP m qs),c.natAbs≤2^20)∧(wlP m qs).length ≤6∧∀h:Nat,h≤5→Wp (y3h m (wlP m qs)) (h:Nat)=((hu (qs.map edQ) h m).length :Nat):=by
 have hk:=(z8h hm hE).1
 unfold chk at hk
 simp only[q1b,decide_eq_true_eq] at hk
 obtain⟨⟨⟨k1,k2⟩,k3⟩,k6⟩:=hk
 obtain⟨ew,w1,_,_⟩:=y3l hm hok hp hE
 have hp2:((qs.map edQ).map (wE m)).Perm (E.map (wE m)):=hp.map _
 have wl:∀x∈E.map (wE m),WL m x:=fun x hx=>w1 x (by rw[ew];exact hp2.mem_iff.mpr hx)
 have e:y3h m (wlP m qs)=bto 6 m (E.map (wE m)):=by
  refine y0z (by rw[z3v 6 m _ wl];unfold y3h;rw[List.length_map,List.length_range]) fun k=>?_
  show (y3h m (wlP m qs)).getD k 0=(bto 6 m (E.map (wE m))).getD k 0
  by_cases c:k<m+1
  ·rw[z9s 6 m _ (by lia) wl k1,←z4p hp2,←ew]
   unfold y3h
   rw[q0b,q0h,q2c c];rfl
  ·rw[List.getD_eq_getElem?_getD,List.getElem?_eq_none (by unfold y3h;rw[List.length_map,List.length_range];lia),List.getD_eq_getElem?_getD,List.getElem?_eq_none (by rw[z3v 6 m _ wl];lia)]
 rw[e]
 refine⟨fun c hc=>q0m (y2X 6 m _ c hc) (by decide),by rw[ew,hp2.length_eq];lia,fun h h5=>?_⟩
 have:=q0X.mp (q0X.mp (y2R m (by lia)) E (z5W hE)) h (q1C.mpr (by lia))
 rw[decide_eq_true_eq] at this
 rw[this,y2n hp]
theorem y6o {m:Nat}{q:List Int} (hm:m≤4) (hq:pr2 m q) (s:Nat→Int):hg m (v (wE m (edQ q))) s=s (edQ q).2 - s (edQ q).1 :=by
 obtain⟨i,j,rfl,hi,hj,hn⟩:=hq
 rw[z7a]
 exact hg_wE hm (by lia) (by lia) s
theorem y4M {m:Nat}{q:List Int}{x y:Nat→Int} (hq:pr2 m q) (hx:x (edQ q).2 ≠x (edQ q).1) (hy:y (edQ q).2 ≠y (edQ q).1):oq x q=oq y q↔sgn (x (edQ q).2 - x (edQ q).1)=sgn (y (edQ q).2 - y (edQ q).1):=by
 obtain⟨i,j,rfl,hi,hj,hn⟩:=hq
 rw[z7a] at*
 have e:∀z:Nat→Int,oq z [(i:Int),(j:Int)]=if z i<z j then [(i:Int),(j:Int)] else [(j:Int),(i:Int)]:=fun z=>rfl
 have hne:([(i:Int),(j:Int)]:List Int)≠[(j:Int),(i:Int)]:=fun z=>by simp at z;lia
 rw[e,e]
 unfold sgn
 by_cases c:i<j
 ·simp only[Nat.max_eq_right (Nat.le_of_lt c),q1T (Nat.le_of_lt c)] at*
  by_cases a:x i<x j<;>by_cases b:y i<y j
  ·simp only[if_pos a,if_pos b]
   rw[if_neg (by lia),if_neg (by lia)];simp
  ·simp only[if_pos a,if_neg b]
   rw[if_neg (by lia),if_pos (by lia)];simp;lia
  ·simp only[if_neg a,if_pos b]
   rw[if_pos (by lia),if_neg (by lia)];simp;lia
  ·simp only[if_neg a,if_neg b]
   rw[if_pos (by lia),if_pos (by lia)];simp
 ·simp only[Nat.max_eq_left (Nat.le_of_not_lt c),Nat.min_eq_right (Nat.le_of_not_lt c)] at*
  by_cases a:x i<x j<;>by_cases b:y i<y j
  ·simp only[if_pos a,if_pos b]
   rw[if_pos (by lia),if_pos (by lia)];simp
  ·simp only[if_pos a,if_neg b]
   rw[if_pos (by lia),if_neg (by lia)];simp;lia
  ·simp only[if_neg a,if_pos b]
   rw[if_neg (by lia),if_pos (by lia)];simp;lia
  ·simp only[if_neg a,if_neg b]
   rw[if_neg (by lia),if_neg (by lia)];simp
theorem y4g {m b c:Nat}{ts:List (List Int)}{d:LandD} (h:z3e m b c ts d):Off m ts d.sp∧d.sg=sgs m ts d.sp:=by
 have key:∀i (hi:i<ts.length),hg m (v ts[i]) (v d.sp)≠0∧v d.sg i=sgn (hg m (v ts[i]) (v d.sp)):=fun i hi=>by
  have:=h.win.2 _ ((z5g h.len.symm).mpr ⟨i,hi,rfl⟩)
  rw[z0Y] at this
  exact z2Q (y0Z h.sgn (by rw[←h.len];exact hi)) this
 refine⟨⟨h.win.1,fun t ht=>?_⟩,?_⟩
 ·obtain⟨i,hi,rfl⟩:=q0B.mp ht
  exact (key i hi).1
 ·refine y0z (by unfold sgs;rw[List.length_map,h.len]) fun j=>?_
  by_cases hj:j<ts.length
  ·rw[(key j hj).2,y3w hj]
  ·rw[z9y (by rw[←h.len];lia),z9y (by unfold sgs;rw[List.length_map];lia)]
theorem z8D {m:Nat}{qs:List (List Int)}{E:List (Nat×Nat)}{ds:List LandD} (hm:m≤4) (hok:∀q∈qs,pr2 m q) (hp:(qs.map edQ).Perm E) (hE:E.Sublist (edM m)) (hG:∀d∈ds,Off m (wlP m qs) d.sp∧d.sg=sgs m (wlP m qs) d.sp) (hsg:ds.map LandD.sg=sgN m (wlP m qs) (wlP m qs).length):(ds.map (y3g m qs)).Perm (y5f m qs):=by
 obtain⟨ew,w1,q6,_⟩:=y3l hm hok hp hE
 have wmem:∀q∈qs,wE m (edQ q)∈wlP m qs:=fun q hq=>by rw[ew];exact q0L (q0L hq)
 have off:∀x:List Int,Off m (wlP m qs) x→∀q∈qs,v x (edQ q).2 ≠v x (edQ q).1 :=fun x hx q hq z=>by
  have:=hx.2 _ (wmem q hq)
  rw[y6o hm (hok q hq)] at this
  lia
 have sgq:∀x y:List Int,(∀q∈qs,sgn (v x (edQ q).2 - v x (edQ q).1)=sgn (v y (edQ q).2 - v y (edQ q).1))→sgs m (wlP m qs) x=sgs m (wlP m qs) y:=fun x y h=>by
  unfold sgs
  rw[ew,q0K,q0K,q0K,q0K]
  refine q0S fun q hq=>?_
  show sgn (hg m (v (wE m (edQ q))) (v x))=sgn (hg m (v (wE m (edQ q))) (v y))
  rw[y6o hm (hok q hq),y6o hm (hok q hq)]
  exact h q hq
 have qsg:∀x y:List Int,sgs m (wlP m qs) x=sgs m (wlP m qs) y→∀q∈qs,sgn (v x (edQ q).2 - v x (edQ q).1)=sgn (v y (edQ q).2 - v y (edQ q).1):=fun x y h q hq=>by
  have:=(List.map_inj_left.mp h) _ (wmem q hq)
  rw[y6o hm (hok q hq),y6o hm (hok q hq)] at this
  exact this
 refine (List.perm_ext_iff_of_nodup ?_ ((y0r qs hok).filter _)).mpr fun r=>?_
 ·have nd:(ds.map LandD.sg).Nodup :=by rw[hsg];exact z2R _ _ _
  refine q1a.mpr ((q1a.mp nd).imp_of_mem fun {d d'} hd hd' hne e=>hne ?_)
  obtain⟨o1,s1⟩:=hG d hd
  obtain⟨o2,s2⟩:=hG d' hd'
  rw[z8E o1.1 hok,z8E o2.1 hok] at e
  rw[s1,s2]
  exact sgq _ _ fun q hq=>(y4M (hok q hq) (off _ o1 q hq) (off _ o2 q hq)).mp (List.map_inj_left.mp e q hq)
 ·rw[q1u]
  constructor
  ·intro h
   obtain⟨d,hd,rfl⟩:=q0f.mp h
   obtain⟨o1,s1⟩:=hG d hd
   rw[z8E o1.1 hok]
   refine⟨y4N _ _,(z6E hm hok hp hE (y4N _ _)).mpr ⟨_,y6n m (v d.sp),y5O hok fun q hq=>?_⟩⟩
   have:=off _ o1 q hq
   obtain⟨i,j,rfl,hi,hj,hn⟩:=hok q hq
   rw[z7a] at this
   show v d.sp i≠v d.sp j
   by_cases c:i<j
   ·rw[Nat.max_eq_right (by lia),q1T (by lia)] at this
    exact this
   ·rw[Nat.max_eq_left (by lia),Nat.min_eq_right (by lia)] at this
    exact Ne.symm this
  ·rintro⟨hr,hg0⟩
   obtain⟨f,hf,hi⟩:=(z6E hm hok hp hE hr).mp hg0
   have er:=y6k qs hok r hr hi
   have vf:∀c,c<m→v ((List.range m).map (fun c=>((f.getD c 0:Nat):Int))++[1]) c=((f.getD c 0:Nat):Int):=fun c hc=>by
     show List.getD _ c 0=_
     rw[q0b,q0D (by simpa using hc),q0h,q2c hc];rfl
   have vm:v ((List.range m).map (fun c=>((f.getD c 0:Nat):Int))++[1]) m=1:=by
     show List.getD _ m 0=_
     rw[q0b,q0v (by simp),q0a,q0W,q1y];rfl
   have xl:((List.range m).map (fun c=>((f.getD c 0:Nat):Int))++[1]).length =m+1:=by rw[q0k,q0a,q0W];rfl
   generalize (List.range m).map (fun c=>((f.getD c 0:Nat):Int))++[1]=x at*
   have er2:r=qs.map (oq (v x)):=by
     rw[er]
     refine q0S fun q hq=>?_
     obtain⟨i,j,rfl,hi,hj,hn⟩:=hok q hq
     show (if ((f.getD i 0:Nat):Int)<((f.getD j 0:Nat):Int) then _ else _)=if v x i<v x j then _ else _
     rw[vf i hi,vf j hj]
   have hne:∀q∈qs,v x (edQ q).2 ≠v x (edQ q).1 :=fun q hq=>by
     have hm1:oq (v x) q∈r:=by rw[er2];exact q0L hq
     have h1:=of_decide_eq_true (q0X.mp hi _ hm1)
     obtain⟨i,j,rfl,hi',hj',hn⟩:=hok q hq
     have h2:f.getD i 0≠f.getD j 0:=fun z=>by
      have e:oq (v x) [(i:Int),(j:Int)]=if v x i<v x j then [(i:Int),(j:Int)] else [(j:Int),(i:Int)]:=rfl
      rw[e] at h1
      split at h1
      ·have:f.getD i 0<f.getD j 0:=h1
       lia
      ·have:f.getD j 0<f.getD i 0:=h1
       lia
     rw[z7a]
     by_cases c:i<j
     ·rw[Nat.max_eq_right (by lia),q1T (by lia),vf i hi',vf j hj'];lia
     ·rw[Nat.max_eq_left (by lia),Nat.min_eq_right (by lia),vf i hi',vf j hj'];lia
   have ox:Off m (wlP m qs) x:=⟨⟨xl,by rw[vm];decide⟩,fun t ht=>by
     rw[ew] at ht
     obtain⟨e,he,rfl⟩:=q0f.mp ht
     obtain⟨q,hq,rfl⟩:=q0f.mp he
     rw[y6o hm (hok q hq)]
     have:=hne q hq
     lia⟩
   have hs:sgs m (wlP m qs) x∈ds.map LandD.sg:=by rw[hsg];exact mem_pt.mpr ⟨x,ox,rfl⟩
   obtain⟨d,hd,ed⟩:=q0f.mp hs
   obtain⟨o1,s1⟩:=hG d hd
   refine q0f.mpr ⟨d,hd,?_⟩
   rw[z8E o1.1 hok,er2]
   rw[s1] at ed
   exact q0S fun q hq=>(y4M (hok q hq) (off _ o1 q hq) (hne q hq)).mpr (qsg _ _ ed q hq)
theorem y3C {m:Nat}{qs:List (List Int)}{E:List (Nat×Nat)}{ds:List LandD} (hm:m≤4) (hok:∀q∈qs,pr2 m q) (hp:(qs.map edQ).Perm E) (hE:E.Sublist (edM m)) (hG:∀d∈ds,z3e m 8 8 (wlP m qs) d) (hsg:ds.map LandD.sg=sgN m (wlP m qs) (wlP m qs).length):(ds.map (y3g m qs)).Perm (y5f m qs):=z8D hm hok hp hE (fun d hd=>y4g (hG d hd)) hsg
theorem y6x {m:Nat}{qs:List (List Int)}{E:List (Nat×Nat)} (hm:m≤4) (hok:∀q∈qs,pr2 m q) (hp:(qs.map edQ).Perm E) (hE:E.Sublist (edM m)):(y5f m qs).length <64:=by
 obtain⟨_,_,_,h64⟩:=y3l hm hok hp hE
 have ex:∀L:List (List Int),(∀s∈L,s∈sgN m (wlP m qs) (wlP m qs).length)→∃ds:List LandD,(∀d∈ds,Off m (wlP m qs) d.sp∧d.sg=sgs m (wlP m qs) d.sp)∧ds.map LandD.sg=L:=by
  intro L
  induction L with
  |nil=>intro _;exact⟨[],(fun d hd=>by cases hd),rfl⟩
  |cons s L ih=>
   intro h
   obtain⟨ds,h1,h2⟩:=ih fun s hs=>h s (by simp[hs])
   obtain⟨x,ox,es⟩:=mem_pt.mp (h s (by simp))
   refine⟨⟨0,s,0,x⟩::ds,fun d hd=>?_,by rw[q0q,h2]⟩
   rcases q0n.mp hd with rfl|hd
   ·exact⟨ox,es⟩
   ·exact h1 d hd
 obtain⟨ds,h1,h2⟩:=ex _ fun s hs=>hs
 have:=(z8D hm hok hp hE h1 h2).length_eq
 rw[q0a] at this
 rw[←this,←q0a (f:=LandD.sg),h2]
 exact h64
end
end L2
namespace L2
open PySem PySem.Spec PyProof.Rows
section
open Fr Wl Rk Pt Ld Srt
open Builtin.Int (intBits)
variable {P:Program}{w:World}{K:PySem.W.Frag}{mg:Str→Option Value}{base:Heap}{f:Addr}{fd:FuncData}
theorem y7q (n:Nat):∀ts us:List (List Int),Dt.oks (n+1) (ts.map dtT) (us.map dtT)=true
 |[],_=>by simp[Dt.oks]
 |_::_,[]=>by simp[Dt.oks]
 |t::ts,u::us=>by
  rw[q0q,q0q,Dt.oks,y7q n ts us,Bool.and_true]
  show Dt.oks n (t.map Dt.i) (u.map Dt.i)=true
  exact z5S n t u
theorem y7r:∀R S:List (List (List Int)),Dt.oks 8 ((R.map fun r=>r.map dtT).map Dt.l) ((S.map fun r=>r.map dtT).map Dt.l)=true
 |[],_=>by simp[Dt.oks]
 |_::_,[]=>by simp[Dt.oks]
 |t::ts,u::us=>by
  simp only[q0q]
  rw[Dt.oks,y7r ts us,Bool.and_true]
  show Dt.oks 7 (t.map dtT) (u.map dtT)=true
  exact y7q 6 t u
theorem y4o {α:Type}{H:Hp}{g:α→List Int}{es:List α}{us:List V} (h:Each (fun e u=>∃p,u=V.ref p∧H p=some (.tup ((g e).map V.int))) es us):∃as:List Addr,us=as.map V.ref∧TsA H as (es.map g):=by
 induction h with
 |nil=>exact⟨[],rfl,TsA.nil⟩
 |cons e _ ih=>
  obtain⟨p,rfl,hp⟩:=e
  obtain⟨as,rfl,ht⟩:=ih
  refine⟨p::as,rfl,by have:=ht.1;simpa using this,fun i a t e1 e2=>?_⟩
  cases i with
  |zero=>cases e1;cases e2;exact hp
  |succ i=>exact ht.2 i a t (by simpa using e1) (by simpa using e2)
theorem y5S {m:Nat}{qs:List (List Int)}{sg:List Int} (h0:0<m) (hm:m≤4) (hok:∀q∈qs,pr2 m q) (ew:wlP m qs=(qs.map edQ).map (wE m)):PWy m (bdL (wlP m qs) sg):=by
 have hv:∀j,j<m→v (List.replicate m (1:Int)++[0]) j=1:=fun j hj=>by
  show (List.replicate m (1:Int)++[0]).getD j 0=1
  rw[q0b,q0D (by simpa using hj),q2b,if_pos hj];rfl
 refine⟨List.replicate m 1++[0],⟨by simp,?_,0,h0,by rw[hv 0 h0];decide⟩,fun b hb=>?_⟩
 ·show (List.replicate m (1:Int)++[0]).getD m 0=0
  rw[q0b,q0v (by simp),q1c,q1y];rfl
 ·unfold bdL at hb
  obtain⟨i,hi,rfl⟩:=q0B.mp hb
  rw[q1J] at hi
  rw[List.getElem_zipWith,z0Y]
  have hx:(wlP m qs)[i]∈wlP m qs:=q0z (by lia)
  generalize (wlP m qs)[i]=x at hx
  rw[ew,q0K] at hx
  obtain⟨q,hq,rfl⟩:=q0f.mp hx
  have:hg m (v (wE m (edQ q))) (v (List.replicate m (1:Int)++[0]))=0:=by
   rw[y6o hm (hok q hq)]
   obtain⟨i',j',rfl,hi',hj',_⟩:=hok q hq
   rw[z7a,hv _ (by show min i' j'<m;lia),hv _ (by show max i' j'<m;lia)];rfl
  show 0≤_*hg m (v (wE m (edQ q))) _
  rw[this,q0P]
  exact Int.le_refl _
def duT (m:Nat) (qs:List (List Int)):List (List (List Int)):=(tuR qs).filter fun r=>(gR m r).isEmpty
theorem z9j (m:Nat) (qs:List (List Int)):(duT m qs).Perm (y5f m qs):=(z3G qs).filter _
theorem y2D {β:Type}{F:List (Addr×β)}{us:List V} (h:Each (fun d u=>u=V.ref d.1) F us):us=(F.map Prod.fst).map V.ref:=by
 induction h with
 |nil=>rfl
 |cons e _ ih=>rw[e,ih];rfl
abbrev z5F:Stmt:=top 54
theorem sc_law:z0u ["_law_script","_law_draws_here","_law_places","_law_pairs","_law_i","_law_j","_law_number","_law_fences","_law_many","_law_due","_law_every","_law_shut"] ["_law_script"] (z0l z5F):=⟨rfl,rfl,rfl,by decide+kernel,rfl,by decide+kernel,by decide+kernel⟩
def y3u (K:PySem.W.Frag):Sp:=fun vs H Q _=>∃(a:Addr) (ns:List Int),vs=[.ref a]∧SqL K H a (ns.map V.int)∧ns.length≤63∧∀H',Q (.bl true) H'
open Classical in
theorem y7u (T:Txt mg) (F:Fun K "law" "law" z5F f fd) (c_l_draws:Cal P w K mg base 22 "_law_draws" ["_law_script"] (y0T K)) (c_of_pairs:Cal P w K mg base 22 "of_pairs" ["ways","pairs"] (z3W K)) (c_worth:Cal P w K mg base 22 "worth" ["polynomial","number"] (y0K K)) (c_by_lots:Cal P w K mg base 22 "by_lots" ["ways","walls"] (z8B K)) (c_l_hued:Cal P w K mg base 22 "_law_hued" ["_law_places","_law_pairs","_law_many"] (y4G K)) (c_l_turned:Cal P w K mg base 22 "_law_turned" ["_law_pairs"] (z4V K)) (c_l_goes_round:Cal P w K mg base 22 "_law_goes_round" ["_law_places","_law_some"] (y0O K)) (c_runnings:Cal P w K mg base 22 "runnings" ["ways","pairs"] (z4W K)) (c_lands:Cal P w K mg base 22 "lands" ["ways","walls"] (z7y K)) (c_way_out:Cal P w K mg base 22 "way_out" ["ways","walls","signs"] (z8u K)):FnOk P w K mg base CX0 23 f fd ["_law_script"] (y3u K):=by
 refine F.ok sc_law (fun vs H Q E h=>?_) (fun cdv A outer s H vs Q E hr h=>?_)
 ·obtain⟨_,_,rfl,_⟩:=h;rfl
 obtain⟨a,ss,rfl,hS,h63,q⟩:=h
 refine⟨_,(z0d (z0q (i:=1) sc_law.nd rfl (Or.inl rfl) (z0p c_l_draws hr rfl (z0a (pv 0) z0c)))
  (z0d (z0q (i:=2) sc_law.nd rfl (Or.inr rfl) (z0y z1E (z0N (z0F (K:=K) rfl) (pv 1) z0j (fun _ _=>rfl)) z0j))
  (z0d (z0q (i:=3) sc_law.nd rfl (Or.inl rfl) (z0K z0c))
  (z0d (z0W PassesOwn.never rfl (z1w rfl T.range (z0a (pv 2) z0c)) (z0k (i:=4) sc_law.nd rfl (Or.inl rfl)) (z0g (z0W PassesOwn.never rfl (z1w rfl T.range (z0a (pv 4) z0c)) (z0k (i:=5) sc_law.nd rfl (Or.inl rfl)) (z0d (z0q (i:=6) sc_law.nd rfl (Or.inl rfl) (z0N (z0F (K:=K) rfl) (pv 1) (z0y z2A (z0y z2A z0j (z0y z0X z0j (pv 4))) (pv 5)) (fun _ _=>rfl)))
  (z0g (z1k (z0D y1C (z0y z1E (pv 6) z0j) z0j (z0M _)) (z0g (z2E (z9M PySem.F.plainAttrs_list PySem.F.slot_list_append PySem.F.type_list_append z1n (pv 3) (z0a (z0N (z0F (K:=K) rfl) (z0K (z0a (z1g (z0a (pv 4) (z0a (pv 5) z0c))) (z0a (z1g (z0a (pv 5) (z0a (pv 4) z0c))) z0c))) (z0y z1E (z0y z5Q (pv 6) z0j) z0j) (fun _ _=>rfl)) z0c)))) z0E))))))
  (z0d (z0q (i:=7) sc_law.nd rfl (Or.inr rfl) (z0p c_of_pairs hr rfl (z0a (pv 2) (z0a (z0H (Nc:=["_law_i","_law_j"]) (fr:=[none,none]) rfl (z0w (K:=K) rfl (pv 3)) rfl (by decide) rfl (by decide) rfl trivial trivial (fun _ _ _ _=>(z0Q (K:=K) rfl 2 rfl (z0t (z0k (i:=0) (show List.Nodup (["_law_i","_law_j"]:List Str) from by decide) rfl (Or.inl rfl)) (z0t (z0k (i:=1) (show List.Nodup (["_law_i","_law_j"]:List Str) from by decide) rfl (Or.inl rfl)) z0P)))) (fun _ _ _ _=>z0I) (fun _ _ _ _=>(z1g (z0a (pv 0) (z0a (pv 1) (z0a z0j z0c)))))) z0c))))
  (z0d (z0q (i:=8) sc_law.nd rfl (Or.inl rfl) (z0y z1E (z0N (z0F (K:=K) rfl) (pv 1) z0j (fun _ _=>rfl)) z0j))
  (z0d (z1k (z0D y1A (z0p c_worth hr rfl (z0a (z0p c_by_lots hr rfl (z0a (pv 2) (z0a (pv 7) z0c))) (z0a (pv 8) z0c))) (z0p c_l_hued hr rfl (z0a (pv 2) (z0a (pv 3) (z0a (pv 8) z0c)))) (z0M _)) (z0g (z0v z7O)) z0E)
  (z0d (z3m (jj:=9) rfl sc_law.nd rfl (Or.inl rfl) (Or.inl rfl) (Nc:=["_law_row","_law_places"]) (fr:=[none,some 2]) rfl (z0w (K:=K) rfl (z0p c_l_turned hr rfl (z0a (pv 3) z0c))) rfl (by decide) rfl (by decide) rfl ⟨rfl,trivial⟩ ⟨⟨rfl,rfl,rfl,rfl⟩,trivial⟩ (fun _ _ _ _=>(z0k (i:=0) (show List.Nodup (["_law_row","_law_places"]:List Str) from by decide) rfl (Or.inl rfl))) (fun _ _ _ _=>(z1U (z5b (z3x (z0p c_l_goes_round hr rfl (z0a (pv 1) (z0a (pv 0) z0c))))))) (fun _ _ _ _=>(pv 0)))
  (z0d (z1k (z0D (y5P (K:=K) rfl hr.units) (z0p c_runnings hr rfl (z0a (pv 2) (z0a (z0T (z2u (K:=K) rfl) rfl T.list boot_list (z0a (pv 3) z0c)) z0c))) (z0A (z5n (K:=K) rfl hr.units) rfl T.sorted boot_sorted (z0a (pv 9) z0c)) (z0M _)) (z0g (z0v z7O)) z0E)
  (z0d (z0q (i:=10) sc_law.nd rfl (Or.inl rfl) (z0p c_lands hr rfl (z0a (pv 2) (z0a (pv 7) z0c))))
  (z0d (z3m (jj:=11) rfl sc_law.nd rfl (Or.inl rfl) (Or.inl rfl) (Nc:=["_law_signs","_law_point","_law_places","_law_fences"]) (fr:=[none,none,some 2,some 7]) rfl (z0w (K:=K) rfl (pv 10)) rfl (by decide) rfl (by decide) rfl ⟨rfl,⟨rfl,trivial⟩⟩ ⟨⟨rfl,rfl,rfl,rfl⟩,⟨⟨rfl,rfl,rfl,rfl⟩,trivial⟩⟩ (fun _ _ _ _=>(z0Q (K:=K) rfl 2 rfl (z0t (z0k (i:=0) (show List.Nodup (["_law_signs","_law_point","_law_places","_law_fences"]:List Str) from by decide) rfl (Or.inl rfl)) (z0t (z0k (i:=1) (show List.Nodup (["_law_signs","_law_point","_law_places","_law_fences"]:List Str) from by decide) rfl (Or.inl rfl)) z0P)))) (fun _ _ _ _=>(z1U (z3y (z5d (z0p c_way_out hr rfl (z0a (pv 2) (z0a (pv 3) (z0a (pv 0) z0c)))))))) (fun _ _ _ _=>(pv 0)))
  (z0g (z0v (y1y (z4n z4M (z0A (z1b (K:=K) rfl) rfl T.len PySem.boot_len (z0a (pv 10) z0c)) (z0A (z1b (K:=K) rfl) rfl T.len PySem.boot_len (z0a (pv 9) z0c)) (z0M _)) (y1w (z4n z4M (z0A (z1b (K:=K) rfl) rfl T.len PySem.boot_len (z0a (pv 11) z0c)) (z0T y2V rfl T.int boot_int (z0a (z4n z4M (pv 2) z0j (z0M _)) z0c)) (z0M _))))))))))))))))),?_⟩
 refine z0x (fun σ H'=>∃(ld:Addr) (ds:List Int),ds.length=60∧(∀d∈ds,0≤d∧d<2147483587)∧σ=[some (.ref a),some (.ref ld),none,none,none,none,none,none,none,none,none,none]∧H' ld=some (.lst (ds.map V.int))) (fun N hN=>?_) ?_
 ·exact⟨_,rfl,a,ss,rfl,hS,h63,fun ds ld H1 _ dl db _ e=>hN _ _ ⟨ld,ds,dl,db,rfl,e⟩⟩
 rintro σ H1 ⟨ld,ds,dl,db,rfl,eds⟩
 clear hS
 refine z0x (fun σ H'=>H1=H'∧∃m:Nat,m≤4∧σ=[some (.ref a),some (.ref ld),some (.int (m:Nat)),none,none,none,none,none,none,none,none,none]) (fun N hN=>?_) ?_
 ·refine⟨_,rfl,ld,_,_,_,rfl,rfl,SqL.of eds,z4H (k:=0) (by decide) (by lia),_,_,rfl,rfl,cm,?_⟩
  refine hN _ _ ⟨rfl,(ds.getD (0:Int).toNat 0%5).toNat,by lia,?_⟩
  rw[Int.toNat_of_nonneg (Int.emod_nonneg _ (by decide))];rfl
 rintro σ H1' ⟨rfl,m,m4,rfl⟩
 refine z0x (fun σ H'=>∃l,H1 l=none∧σ=[some (.ref a),some (.ref ld),some (.int (m:Nat)),some (.ref l),none,none,none,none,none,none,none,none]∧Same H1 H'∧H' l=some (.lst [])) (fun N hN=>?_) ?_
 ·exact⟨q0N _,fun l hl=>hN _ _ ⟨l,hl,rfl,z0e hl _,z0b⟩⟩
 rintro σ H2 ⟨l,hl,rfl,g2,e2⟩
 have hne:ld≠l:=fun z=>by rw[z,hl] at eds;cases eds
 have hP1:NIv H1 m l ld ds (edM 0) H2:=⟨⟨[],[],e2,TsA.nil,fun _ h=>(by cases h),.slnil⟩,g2 _ _ eds,g2⟩
 clear e2 g2 eds
 refine z0x (fun σ H'=>∃s4 s5 s6,σ=[some (.ref a),some (.ref ld),some (.int (m:Nat)),some (.ref l),s4,s5,s6,none,none,none,none,none]∧NIv H1 m l ld ds (edM m) H') (fun N hN=>?_) ?_
 ·refine⟨_,rfl,_,rfl,by lia,by lia,?_⟩
  refine z0C (z1j 0 ((m:Nat):Int).toNat) (fun i σ H'=>∃s4 s5 s6,σ=[some (.ref a),some (.ref ld),some (.int (m:Nat)),some (.ref l),s4,s5,s6,none,none,none,none,none]∧NIv H1 m l ld ds (edM i) H')
   ⟨_,_,_,rfl,hP1⟩ (fun _ _ _ _ _=>trivial) ?_ ?_
  ·clear hP1
   rintro i x σ H2' H3 hi ⟨s4,s5,s6,rfl,hP⟩ ⟨rfl,rfl⟩
   rw[q0E] at hi
   have ei:((0:Int)+(i:Nat)).toNat =i:=by lia
   refine⟨_,rfl,_,rfl,by lia,by lia,?_⟩
   refine z0C (z1j 0 ((0:Int)+(i:Nat)).toNat) (fun j σ H'=>∃s5 s6,σ=[some (.ref a),some (.ref ld),some (.int (m:Nat)),some (.ref l),some (.int (0+(i:Nat))),s5,s6,none,none,none,none,none]∧NIv H1 m l ld ds (edM i++edR i j) H')
        ⟨_,_,rfl,by unfold edR;rw[List.range_zero,List.map_nil,List.append_nil];exact hP⟩ (fun _ _ _ _ _=>trivial) ?_ ?_
   ·clear hP
    rintro j x σ H4' H4 hj ⟨s5,s6,rfl,hP⟩ ⟨rfl,rfl⟩
    rw[ei] at hj
    rw[y4n,←q1A]
    have hpl:(edM i++edR i j).length ≤100:=by
     have h1:=y2A i (by lia)
     have h2:(edR i j).length =j:=by unfold edR;rw[List.length_map,List.length_range]
     rw[q0k];lia
    generalize edM i++edR i j=pre at hP hpl ⊢
    have bi:intBits ((0:Int)+(i:Nat))≤64:=z9t (by lia) (by lia)
    have b4:intBits (4:Int)≤64:=by decide
    refine⟨_,rfl,_,rfl,_,_,rfl,rfl,z2x b4 bi,_,_,rfl,rfl,_,rfl,_,_,rfl,rfl,ld,_,_,_,rfl,rfl,SqL.of hP.dl,z4H (k:=1+4*(0+(i:Int))+(0+(j:Int))) (by lia) (by lia),?_⟩
    generalize ds.getD (1+4*(0+(i:Int))+(0+(j:Int))).toNat 0=d
    obtain⟨as,qs,h1,h2,h3,h4⟩:=id hP.ex
    have asl:(as.map V.ref).length <sizeLine:=z3q (by
     have:=h4.length_le
     rw[q0a] at this
     rw[q0a,h2.1];lia)
    have em1:(max i j,min i j)=(i,j):=by rw[Nat.max_eq_left (by lia),Nat.min_eq_right (by lia)]
    have em2:(max j i,min j i)=(i,j):=by rw[Nat.max_eq_right (by lia),q1T (by lia)]
    refine⟨_,rfl,_,_,rfl,rfl,cm,_,_,rfl,rfl,_,rfl,?_⟩
    refine z6c (fun c=>?_) (fun c=>?_)
    ·refine⟨_,rfl,.inl ⟨rfl,_,SqL.of h1⟩,_,rfl,_,rfl,z0h (by show 2≤_;decide),fun t ht=>?_⟩
     have k1:=z0e ht (.tup [V.int (0+(i:Nat)),V.int (0+(j:Nat))])
     have w1:upd H4 t (.tup [V.int (0+(i:Nat)),V.int (0+(j:Nat))]) t=some (.tup (([(i:Int),(j:Int)]:List Int).map V.int)):=by rw[z0b,Int.zero_add,Int.zero_add];rfl
     generalize upd H4 t (.tup [V.int (0+(i:Nat)),V.int (0+(j:Nat))])=H5 at*
     refine⟨_,rfl,_,rfl,z0h (by show 2≤_;decide),fun t2 ht2=>?_⟩
     have k2:=z0e ht2 (.tup [V.int (0+(j:Nat)),V.int (0+(i:Nat))])
     have w2:upd H5 t2 (.tup [V.int (0+(j:Nat)),V.int (0+(i:Nat))]) t2=some (.tup (([(j:Int),(i:Int)]:List Int).map V.int)):=by rw[z0b,Int.zero_add,Int.zero_add];rfl
     generalize upd H5 t2 (.tup [V.int (0+(j:Nat)),V.int (0+(i:Nat))])=H6 at*
     refine⟨z0h (by show 2≤_;decide),fun la hla=>?_⟩
     have k3:=z0e hla (.lst [V.ref t,V.ref t2])
     have w3:upd H6 la (.lst [V.ref t,V.ref t2]) la=some (.lst [V.ref t,V.ref t2]):=z0b
     generalize upd H6 la (.lst [V.ref t,V.ref t2])=H7 at*
     have k13:=k1.trans (k2.trans k3)
     have h17:=k13 _ _ h1
     rcases (by lia:d/3%2=0∨d/3%2=1) with ed|ed
     ·have at0:atI [V.ref t,V.ref t2] (d/3%2)=some (V.ref t):=by rw[ed];rfl
      refine⟨_,rfl,_,_,rfl,rfl,cf,_,_,rfl,rfl,cm,la,_,_,_,rfl,rfl,SqL.of w3,at0,l,_,_,rfl,rfl,h17,asl,_,_,rfl,?_⟩
      have:=hP.app k13 h17 ((k2.trans k3) _ _ w1) (by lia) (by lia) (by lia) hl hne
      rw[em1] at this
      exact this
     ·have at0:atI [V.ref t,V.ref t2] (d/3%2)=some (V.ref t2):=by rw[ed];rfl
      refine⟨_,rfl,_,_,rfl,rfl,cf,_,_,rfl,rfl,cm,la,_,_,_,rfl,rfl,SqL.of w3,at0,l,_,_,rfl,rfl,h17,asl,_,_,rfl,?_⟩
      have:=hP.app k13 h17 (k3 _ _ w2) (by lia) (by lia) (by lia) hl hne
      rw[em2] at this
      exact this
    ·exact⟨_,_,rfl,hP.up _⟩
   ·rintro σ H4 ⟨s5,s6,rfl,hP⟩
    rw[ei,←z9f] at hP
    exact⟨_,_,_,rfl,hP⟩
  ·rintro σ H3 ⟨s4,s5,s6,rfl,hP⟩
   rw[q0E] at hP
   exact hN _ _ ⟨_,_,_,rfl,hP⟩
 clear hP1
 rintro σ H3 ⟨s4,s5,s6,rfl,⟨as,qs,el,hqs,hok,hsub⟩,eds,_⟩
 have hp:(qs.map edQ).Perm (qs.map edQ):= .refl _
 obtain⟨ew,w1,q6,w64⟩:=y3l m4 hok hp hsub
 obtain⟨cb,wl6,hue⟩:=web93 m4 hok hp hsub
 have htw:∀q∈qs,two q:=fun q hq=>by obtain⟨i,j,e,_⟩:=hok q hq;exact⟨_,_,e⟩
 have d64:=y6x m4 hok hp hsub
 refine z0x (fun σ H'=>∃(r:Addr) (bs:List Addr),σ=[some (.ref a),some (.ref ld),some (.int (m:Nat)),some (.ref l),s4,s5,s6,some (.ref r),none,none,none,none]∧Same H3 H'∧H' r=some (.lst (bs.map V.ref))∧TsA H' bs (wlP m qs)) (fun N hN=>?_) ?_
 ·refine⟨_,rfl,_,rfl,l,rfl,⟨_,SqL.of el⟩,fun D hD=>?_⟩
  refine z0G qs (by rw[q0a,hqs.1]) (z0r K l (as.map V.ref)) hD (fun q σ=>(σ.set 0 (some (.int (v q 0)))).set 1 (some (.int (v q 1)))) (fun d e σ=>z1f _ _ _ _ _) (fun _=>true) (fun H' q u=>∃p,u=V.ref p∧H' p=some (.tup (([v q 0,v q 1,0]:List Int).map V.int))) ?_ (fun H' g'=>SqL.of (g' _ _ el)) (z0h (by rw[q0a,hqs.1];lia)) ?_ ?_ ?_ ?_
  ·rintro H2 H3 e u k ⟨acc,hd⟩ ⟨p,e1,e2⟩
   exact⟨p,e1,k _ _ (fun z=>by rw[z,hd] at e2;cases e2) e2⟩
  ·intro i x q' hx hq σ H4 g4 S h
   rw[q0h] at hx
   obtain⟨b,hb,rfl⟩:=q0u.mp hx
   have h1:=hqs.2 i b q' hb hq
   obtain⟨i',j',rfl,_⟩:=hok q' (q0A hq)
   exact⟨b,_,rfl,SqT.of (g4 _ _ h1),rfl,_,_,rfl,_,_,rfl,rfl,h⟩
  ·intro d hd Hc gc S h
   exact h _ (Same.refl _)
  ·intro d hd _ Hc gc _ S h
   refine⟨_,rfl,_,rfl,z0h (by show 3≤_;decide),fun t ht=>?_⟩
   exact h _ _ (z0e ht _) ⟨t,rfl,z0b⟩
  ·intro us H4 g4 hD4 he
   rw[z0z] at he
   obtain⟨as1,rfl,ht1⟩:=y4o he
   refine⟨D,as1,qs.map fun q=>[v q 0,v q 1,0],m,rfl,hD4,ht1,by rw[q0a];lia,m4,fun x hx=>?_,fun r bs H5 hr5 g5 er hbs=>?_⟩
   ·obtain⟨y,hy,rfl⟩:=q0f.mp hx
    obtain⟨i,j,rfl,hi,hj,hn⟩:=hok y hy
    exact⟨i,j,0,rfl,hi,hj,hn,by decide⟩
   ·exact hN _ _ ⟨r,bs,rfl,g4.trans g5,er,hbs⟩
 rintro σ H4 ⟨r,bs,rfl,g4,er,hbs⟩
 have hw:∀x∈wlP m qs,x.length=m+1∧∀n∈x,intBits n≤8:=fun x hx=>by
  unfold wlP at hx
  rcases (z7d _ _).mp hx with hx|hx
  ·cases hx
  ·obtain⟨y,hy,rfl⟩:=q0f.mp hx
   obtain⟨z,hz,rfl⟩:=q0f.mp hy
   exact⟨z9i,z7c⟩
 have hbd:∀x∈wlP m qs,Bd m 8 8 x:=fun x hx=>⟨(hw x hx).1,fun j _=>z1a (hw x hx).2 j,z1a (hw x hx).2 m⟩
 have el4:=g4 _ _ el
 have hqs4:=hqs.same g4
 have eds4:=g4 _ _ eds
 clear el hqs eds g4
 refine z0x (fun σ H'=>H4=H'∧∃h:Nat,h≤5∧σ=[some (.ref a),some (.ref ld),some (.int (m:Nat)),some (.ref l),s4,s5,s6,some (.ref r),some (.int (h:Nat)),none,none,none]) (fun N hN=>?_) ?_
 ·refine⟨_,rfl,ld,_,_,_,rfl,rfl,SqL.of eds4,z4H (k:=30) (by decide) (by lia),_,_,rfl,rfl,cm,?_⟩
  refine hN _ _ ⟨rfl,(ds.getD (30:Int).toNat 0%6).toNat,by lia,?_⟩
  rw[Int.toNat_of_nonneg (Int.emod_nonneg _ (by decide))];rfl
 rintro σ H4' ⟨rfl,h,h5,rfl⟩
 refine z0x (fun σ H'=>σ=[some (.ref a),some (.ref ld),some (.int (m:Nat)),some (.ref l),s4,s5,s6,some (.ref r),some (.int (h:Nat)),none,none,none]∧Same H4 H') (fun N hN=>?_) ?_
 ·refine⟨_,rfl,_,rfl,r,bs,wlP m qs,m,8,rfl,er,hbs,by lia,m4,by decide,hw,fun rp H5 hrp g5 erp=>?_⟩
  refine⟨_,rfl,rp,_,(h:Nat),rfl,erp,by unfold y3h;rw[List.length_map,List.length_range];lia,cb,by lia,?_⟩
  refine⟨_,rfl,_,rfl,_,rfl,l,as,qs,m,h,rfl,g5 _ _ el4,hqs4.same g5,q6,hok,m4,h5,fun H6 g6=>⟨rfl,_,rfl,?_⟩⟩
  rw[hue h h5]
  refine z6c (fun z=>?_) (fun _=>hN _ _ ⟨rfl,g5.trans g6⟩)
  simp at z
 rintro σ H5 ⟨rfl,g5⟩
 have el5:=g5 _ _ el4
 have hqs5:=hqs4.same g5
 have er5:=g5 _ _ er
 have hbs5:=hbs.same g5
 clear el4 hqs4 er hbs eds4 g5
 have htl:(tuR qs).length ≤64:=by
  rw[(z3G _).length_eq,z9v]
  exact q1G (by decide) q6
 refine z0x (fun σ H'=>∃(Du:Addr) (fs:List Addr),σ=[some (.ref a),some (.ref ld),some (.int (m:Nat)),some (.ref l),s4,s5,s6,some (.ref r),some (.int (h:Nat)),some (.ref Du),none,none]∧Same H5 H'∧H' Du=some (.lst (fs.map V.ref))∧RwA H' fs (duT m qs)) (fun N hN=>?_) ?_
 ·refine⟨_,rfl,l,as,qs,rfl,el5,hqs5,q6,htw,fun D rs H6 g6 eD hrs=>?_⟩
  refine⟨D,rfl,⟨_,SqL.of eD⟩,fun D2 hD2=>?_⟩
  refine z0G (rs.zip (tuR qs)) (by rw[q0a,q1h,hrs.1,Nat.min_self]) (z0r K D (rs.map V.ref)) hD2 (fun d σ=>σ.set 0 (some (.ref d.1))) (fun d e σ=>q1Z ..) (fun d=>(gR m d.2).isEmpty) (fun _ d u=>u=V.ref d.1) (fun _ _ _ _ _ _ h=>h) (fun H' g'=>SqL.of (g' _ _ eD)) (z0h (by rw[q0a,hrs.1];lia)) ?_ ?_ ?_ ?_
  ·intro i x d hx hd σ H3 g3 S h
   rw[q0h] at hx
   obtain⟨b,hb,rfl⟩:=q0u.mp hx
   have:d.1=b:=by
        rw[q0Z] at hd
        rw[hb] at hd
        exact (Option.some.inj hd.1).symm
   rw[this] at h
   exact h
  ·intro d hd Hc gc S h
   obtain⟨k,hk,ek⟩:=q0B.mp hd
   have hk':=hk
   rw[q1h] at hk'
   have e1:rs[k]? =some d.1:=by rw[←ek];simp[show k<rs.length by lia]
   have e2:(tuR qs)[k]? =some d.2:=by rw[←ek];simp[show k<(tuR qs).length by lia]
   obtain⟨ts,hb1,hb2⟩:=(hrs.2 k _ _ e1 e2).same gc
   obtain⟨z1,z2⟩:=y0E qs d.2 (q0A e2)
   refine⟨_,rfl,_,rfl,m,d.1,ts,d.2,rfl,hb1,hb2,by lia,m4,z2,fun H' g'=>?_⟩
   have:=h H' g'
   refine⟨_,rfl,?_⟩
   rw[←y7K]
   show S (!(!(gR m d.2).isEmpty)) H'
   rw[Bool.not_not]
   exact this
  ·intro d hd _ Hc gc _ S h
   exact⟨_,rfl,h _ _ (Same.refl _) rfl⟩
  ·intro us H7 g7 hD7 he
   have eus:=y2D he
   have esn:((rs.zip (tuR qs)).filter fun d=>(gR m d.2).isEmpty).map Prod.snd=duT m qs:=by
        unfold duT
        have:((rs.zip (tuR qs)).filter ((fun r=>(gR m r).isEmpty)∘Prod.snd)).map Prod.snd=((rs.zip (tuR qs)).map Prod.snd).filter fun r=>(gR m r).isEmpty :=(List.filter_map).symm
        rw[List.map_snd_zip (by rw[hrs.1];exact q0i _)] at this
        exact this
   have hF:RwA H7 (((rs.zip (tuR qs)).filter fun d=>(gR m d.2).isEmpty).map Prod.fst) (duT m qs):=by
        rw[←esn]
        refine⟨by rw[q0a,q0a],fun i b r e1 e2=>?_⟩
        rw[q0h] at e1 e2
        obtain⟨d,hd,rfl⟩:=q0u.mp e1
        rw[hd] at e2
        obtain rfl:=Option.some.inj e2
        obtain⟨k,hk,ek⟩:=q0B.mp (q1u.mp (q0A hd)).1
        rw[q1h] at hk
        have e1:rs[k]? =some d.1:=by rw[←ek];simp[show k<rs.length by lia]
        have e2:(tuR qs)[k]? =some d.2:=by rw[←ek];simp[show k<(tuR qs).length by lia]
        exact (hrs.2 k _ _ e1 e2).same g7
   generalize ((rs.zip (tuR qs)).filter fun d=>(gR m d.2).isEmpty).map Prod.fst=fs at*
   subst eus
   exact hN _ _ ⟨D2,fs,rfl,g6.trans g7,hD7,hF⟩
 rintro σ H6 ⟨Du,fs,rfl,g6,eDu,hfs⟩
 have el6:=g6 _ _ el5
 have hqs6:=hqs5.same g6
 have er6:=g6 _ _ er5
 have hbs6:=hbs5.same g6
 clear el5 hqs5 er5 hbs5 g6
 have hdl:(duT m qs).length =(y5f m qs).length :=(z9j m qs).length_eq
 have hiD:∀{H':Hp}{D:Addr}{rs:List Addr}{R:List (List (List Int))},H' D=some (.lst (rs.map V.ref))→RwA H' rs R→IsD K H' (.ref D) (.l ((R.map fun r=>r.map dtT).map Dt.l)):=fun h1 h2=> .l (SqL.of h1) h2.isDs
 refine z0x (fun σ H'=>σ=[some (.ref a),some (.ref ld),some (.int (m:Nat)),some (.ref l),s4,s5,s6,some (.ref r),some (.int (h:Nat)),some (.ref Du),none,none]∧Same H6 H'∧(sgN m (wlP m qs) (wlP m qs).length).length =(y5f m qs).length) (fun N hN=>?_) ?_
 ·refine⟨_,rfl,_,rfl,l,_,rfl,.inl (SqL.of el6),fun lh hlh=>?_⟩
  have g7:=z0e hlh (.lst (as.map V.ref))
  have elh:upd H6 lh (.lst (as.map V.ref)) lh=some (.lst (as.map V.ref)):=z0b
  generalize upd H6 lh (.lst (as.map V.ref))=H7 at*
  refine⟨lh,as,qs,m,rfl,elh,hqs6.same g7,q6,m4,hok,w64,fun D rs dd H8 hD g8 eD _ _ hG hsg hrs=>?_⟩
  have hper:=y3C m4 hok hp hsub hG hsg
  rw[z6z hper] at hrs
  have hcnt:(sgN m (wlP m qs) (wlP m qs).length).length =(y5f m qs).length :=by
   rw[←hsg,q0a,←hper.length_eq,q0a]
  have g68:=g7.trans g8
  have hfs8:=hfs.same g68
  refine⟨_,rfl,Du,_,(duT m qs).map fun r=>r.map dtT,rfl,g68 _ _ eDu,by rw[q0a,hfs.1];lia,hfs8.isDs,fun a ha b hb=>?_,fun D4 H9 hD4 g9 e9=>?_⟩
  ·obtain⟨e,_,rfl⟩:=q0f.mp ha
   obtain⟨e',_,rfl⟩:=q0f.mp hb
   exact y1E _ _
  ·obtain⟨rs',z1,z2,_⟩:=(hfs8.same g9).sorted
   rw[z1] at e9
   rw[z6z (z9j m qs)] at z2
   refine⟨D,D4,_,_,rfl,rfl,hiD (g9 _ _ eD) (hrs.same g9),hiD e9 z2,y7r _ _,_,rfl,?_⟩
   rw[(Dt.eqb_iff _ _).mpr rfl]
   exact z5i (hN _ _ ⟨rfl,g68.trans g9,hcnt⟩)
 rintro σ H7 ⟨rfl,g7,hcnt⟩
 have er7:=g7 _ _ er6
 have hbs7:=hbs6.same g7
 have eDu7:=g7 _ _ eDu
 clear el6 hqs6 er6 hbs6 eDu g7
 refine z0x (fun σ H'=>∃(rl:Addr) (xs:List V) (dd:List LandD),σ=[some (.ref a),some (.ref ld),some (.int (m:Nat)),some (.ref l),s4,s5,s6,some (.ref r),some (.int (h:Nat)),some (.ref Du),some (.ref rl),none]∧Same H7 H'∧H' rl=some (.lst xs)∧Each (y3f H' m) dd xs∧(∀d∈dd,z3e m 8 8 (wlP m qs) d)∧dd.length=(y5f m qs).length) (fun N hN=>?_) ?_
 ·refine⟨_,rfl,_,rfl,m,r,bs,wlP m qs,8,8,rfl,er7,hbs7,hbd,lim8 m4,m4,by lia,fun rl xs dd H8 hrl g8 erl hE8 hG hsg=>?_⟩
  refine hN _ _ ⟨rl,xs,dd,rfl,g8,erl,hE8,hG,?_⟩
  rw[←hcnt,←hsg,q0a]
 rintro σ H8 ⟨rl,xs,dd,rfl,g8,erl,hE8,hG,hdd⟩
 have er8:=g8 _ _ er7
 have hbs8:=hbs7.same g8
 have eDu8:=g8 _ _ eDu7
 clear er7 hbs7 eDu7 g8
 refine z0x (fun σ H'=>∃(Sh:Addr) (us:List V),σ=[some (.ref a),some (.ref ld),some (.int (m:Nat)),some (.ref l),s4,s5,s6,some (.ref r),some (.int (h:Nat)),some (.ref Du),some (.ref rl),some (.ref Sh)]∧Same H8 H'∧H' Sh=some (.lst us)∧us.length=if m=0 then dd.length else 0) (fun N hN=>?_) ?_
 ·refine⟨_,rfl,rl,rfl,⟨_,SqL.of erl⟩,fun D hD=>?_⟩
  obtain⟨es,he1,he2⟩:=z7b (S:=fun (e:LandD×Addr) x=>∃p,x=V.ref p∧H8 p=some (.tup [.ref e.1.a,.ref e.2])∧H8 e.1.a=some (.tup (e.1.sg.map V.int))) (fun d x ⟨p,pp,bs,e,h1,h2,_⟩=>⟨pp,p,e,h1,h2⟩) hE8
  have hxl:=he2.length
  have hel:es.length=dd.length:=by rw[←he1,q0a]
  refine z0G es he2.length.symm (z0r K rl xs) hD (fun d σ=>(σ.set 0 (some (.ref d.1.a))).set 1 (some (.ref d.2))) (fun d e σ=>z1f _ _ _ _ _) (fun _=>decide (m=0)) (fun _ d u=>u=V.ref d.1.a) (fun _ _ _ _ _ _ h=>h) (fun H' g'=>SqL.of (g' _ _ erl)) (z0h (by lia)) ?_ ?_ ?_ ?_
  ·intro i x e hx hd σ H3 g3 S h
   obtain⟨p,rfl,h1,_⟩:=he2.get hd hx
   exact⟨p,_,rfl,SqT.of (g3 _ _ h1),rfl,_,_,rfl,_,_,rfl,rfl,h⟩
  ·intro e he Hc gc S h
   obtain⟨k,hk,ek⟩:=q0B.mp he
   obtain⟨p,_,_,h2⟩:=he2.get (i:=k) (by rw[q0c hk,ek]) (q0c (by lia))
   have hGe:=hG e.1 (by rw[←he1];exact q0L he)
   refine⟨_,rfl,_,rfl,_,rfl,m,r,e.1.a,bs,wlP m qs,e.1.sg,8,8,rfl,⟨gc _ _ er8,hbs8.same gc,hbd,lim8 m4,m4,by lia⟩,gc _ _ h2,by rw[←hGe.len];lia,⟨hGe.len.symm,hGe.sgn,_,hGe.win⟩,fun r2 d H' g' _ hwy _=>?_,fun H' g' hno=>?_⟩
   ·have hm0:m≠0:=fun z=>by subst z;exact y1Q _ ⟨_,hwy⟩
    have:=h H' g'
    rw[decide_eq_false hm0] at this
    exact⟨_,rfl,this⟩
   ·have hm0:m=0:=Nat.eq_zero_of_not_pos fun z=>hno (y5S z m4 hok ew)
    have:=h H' g'
    rw[decide_eq_true hm0] at this
    exact⟨_,rfl,this⟩
  ·intro d hd _ Hc gc _ S h
   exact⟨_,rfl,h _ _ (Same.refl _) rfl⟩
  ·intro us H9 g9 hD9 he
   refine hN _ _ ⟨D,us,rfl,g9,hD9,?_⟩
   rw[←he.length]
   by_cases c:m=0
   ·rw[if_pos c,List.filter_eq_self.mpr fun _ _=>decide_eq_true c,hel]
   ·rw[if_neg c,List.filter_eq_nil_iff.mpr fun _ _=>by rw[decide_eq_true_eq];exact c];rfl
 rintro σ H9 ⟨Sh,us,rfl,g9,eSh,hus⟩
 refine⟨_,rfl,rl,_,rfl,.inl (SqL.of (g9 _ _ erl)),_,rfl,Du,_,rfl,.inl (SqL.of (g9 _ _ eDu8)),rfl,_,rfl,?_⟩
 have exl:xs.length=(fs.map V.ref).length :=by rw[q0a,hfs.1,hdl,←hdd,hE8.length]
 rw[exl,decide_eq_true rfl]
 refine z5h ?_
 have hus':us.length=if m=0 then 1 else 0:=by
  rw[hus]
  by_cases c:m=0
  ·rw[if_pos c,if_pos c,hdd]
   subst c
   cases qs with
   |nil=>decide
   |cons q0 _=>obtain⟨i,_,_,hi,_⟩:=hok q0 List.mem_cons_self;lia
  ·rw[if_neg c,if_neg c]
 refine⟨_,rfl,Sh,_,rfl,.inl (SqL.of eSh),_,rfl,rfl,.inr ⟨_,rfl,rfl,?_⟩⟩
 have e:decide (V.int (us.length:Nat)=V.int (if decide (V.int (m:Nat)=V.int 0)=true then 1 else 0))=true:=by
  rw[hus',z2m,z2m]
  by_cases c:m=0
  ·subst c;rfl
  ·have:((m:Nat):Int)≠0:=by lia
   rw[if_neg c,if_neg (by simpa using this)];rfl
 rw[e]
 exact q _
end
end L2
namespace L2
open PySem PySem.Spec PyProof.Rows
theorem ln1 {α:Type}{C:List α→Prop} (h:∀x0,C [x0]) (us:List α) (hl:us.length=1):C us:=by
 rcases us with _|⟨x0,_|⟨y,us⟩⟩<;>first|exact h _|simp at hl
theorem ln2 {α:Type}{C:List α→Prop} (h:∀x0 x1,C [x0,x1]) (us:List α) (hl:us.length=2):C us:=by
 rcases us with _|⟨x0,_|⟨x1,_|⟨y,us⟩⟩⟩<;>first|exact h _ _|simp at hl
theorem ln3 {α:Type}{C:List α→Prop} (h:∀x0 x1 x2,C [x0,x1,x2]) (us:List α) (hl:us.length=3):C us:=by
 rcases us with _|⟨x0,_|⟨x1,_|⟨x2,_|⟨y,us⟩⟩⟩⟩<;>first|exact h _ _ _|simp at hl
theorem ln4 {α:Type}{C:List α→Prop} (h:∀x0 x1 x2 x3,C [x0,x1,x2,x3]) (us:List α) (hl:us.length=4):C us:=by
 rcases us with _|⟨x0,_|⟨x1,_|⟨x2,_|⟨x3,_|⟨y,us⟩⟩⟩⟩⟩<;>first|exact h _ _ _ _|simp at hl
def Lk (K:PySem.W.Frag) (x:Str) (st:Stmt):Prop:=∃(f:Addr) (fd:FuncData),Fun K x x st f fd∧PySem.W.keepIn K (.ref f)=true∧PySem.W.nsIn K mainGlobals x=some (some (.ref f))
theorem lk {K:PySem.W.Frag}{x:Str}{st:Stmt}{f:Addr}{oc:Value}{od an:Option Addr}{osl:Array (Option Value)}{kV doc pm cdv ct:Value} (a:PySem.W.nsIn K mainGlobals x=some (some (.ref f))) (l:K.lookup f=some ⟨oc,od,.func (PySem.W.fnOf x x (z2I st) (z2l st) (z0l st) .none kV doc pm an cdv ct),osl⟩) (c:PySem.W.codeIn K cdv x=true) (k:PySem.W.keepIn K (.ref f)=true):Lk K x st:=⟨f,_,y5c l c k,k,a⟩
theorem all_mk {l:PySem.W.OpenLaw}{w:World}{K:PySem.W.Frag}{h:Heap}{mg:Str→Option Value}{fa:Addr} (X:K.In h) (G:h.Ns mainGlobals mg) (hfa:mg "law"=some (.ref fa))
 (h1:Lk K "divisor" z4g)
 (h2:Lk K "divisor_of_all" z1o)
 (h3:Lk K "ratio" z7F)
 (h4:Lk K "wall" y1e)
 (h5:Lk K "first_place" z1S)
 (h6:Lk K "cleared" z4i)
 (h7:Lk K "rest_by" z4d)
 (h8:Lk K "drawn" z7I)
 (h9:Lk K "joined" z5H)
 (h10:Lk K "lowest" z5D)
 (h11:Lk K "turned" z5B)
 (h12:Lk K "height" z5I)
 (h13:Lk K "lead" y1f)
 (h14:Lk K "lifted" z5E)
 (h15:Lk K "stepped" z4c)
 (h16:Lk K "spot_across" z1s)
 (h17:Lk K "spot_within" z1r)
 (h18:Lk K "bounds_at" z2C)
 (h19:Lk K "parted" z5C)
 (h20:Lk K "land_spots" z2h)
 (h21:Lk K "point_of" z3i)
 (h22:Lk K "lands" z7G)
 (h23:Lk K "is_whole" z3l)
 (h24:Lk K "is_land" z4f)
 (h25:Lk K "looked_land" z1R)
 (h26:Lk K "way_along" z1Q)
 (h27:Lk K "way_within" z1C)
 (h28:Lk K "way_out" z4a)
 (h29:Lk K "wall_of" z4b)
 (h30:Lk K "of_pairs" z3j)
 (h31:Lk K "below" z7J)
 (h32:Lk K "led" y5x)
 (h33:Lk K "runnings" z3h)
 (h34:Lk K "worth" z7E)
 (h35:Lk K "counted" z4h)
 (h36:Lk K "parts_of_lots" z1v)
 (h37:Lk K "by_lots" z4j)
 (h38:Lk K "_law_mix" z7H)
 (h39:Lk K "_law_draws" z4e)
 (h40:Lk K "_law_hued" z5G)
 (h41:Lk K "_law_goes_round" z1D)
 (h42:Lk K "_law_turned" z3k)
 {od43 an43:Option Addr}{sl43:Array (Option Value)}{oc43 kV43 dc43 pm43 cd43 ct43:Value}{f43:Addr}
 (a43:PySem.W.nsIn K mainGlobals "law"=some (some (.ref f43))) (l43:K.lookup f43=some ⟨oc43,od43,.func (PySem.W.fnOf "law" "law" (z2I z5F) (z2l z5F) (z0l z5F) .none kV43 dc43 pm43 an43 cd43 ct43),sl43⟩) (c43:PySem.W.codeIn K cd43 "law"=true) (k43:PySem.W.keepIn K (.ref f43)=true)
 (z1:PySem.W.nsIn K mainGlobals "abs"=some none)
 (z2:PySem.W.nsIn K mainGlobals "len"=some none)
 (z3:PySem.W.nsIn K mainGlobals "isinstance"=some none)
 (z4:PySem.W.nsIn K mainGlobals "int"=some none)
 (z5:PySem.W.nsIn K mainGlobals "bool"=some none)
 (z6:PySem.W.nsIn K mainGlobals "tuple"=some none)
 (z7:PySem.W.nsIn K mainGlobals "list"=some none)
 (z8:PySem.W.nsIn K mainGlobals "any"=some none)
 (z9:PySem.W.nsIn K mainGlobals "min"=some none)
 (z10:PySem.W.nsIn K mainGlobals "max"=some none)
 (z11:PySem.W.nsIn K mainGlobals "range"=some none)
 (z12:PySem.W.nsIn K mainGlobals "enumerate"=some none)
 (z13:PySem.W.nsIn K mainGlobals "zip"=some none)
 (z14:PySem.W.nsIn K mainGlobals "sum"=some none)
 (z15:PySem.W.nsIn K mainGlobals "reversed"=some none)
 (z16:PySem.W.nsIn K mainGlobals "sorted"=some none)
 (z17:PySem.W.nsIn K mainGlobals "all"=some none)
 :∃fd:FuncData,(∀(s:Shared) (v:Value),BindsTo s fd ⟨[v],[]⟩ [("_law_script",v)])∧∀base:Heap,K.In base→base.Ns mainGlobals mg→FnOk l.prog w K mg base CX0 23 fa fd ["_law_script"] (y3u K):=by
 have e:=hfa.symm.trans (q0x X G a43)
 cases e
 have T:Txt mg:=⟨q0U X G z1,q0U X G z2,q0U X G z3,q0U X G z4,q0U X G z5,q0U X G z6,q0U X G z7,q0U X G z8,q0U X G z9,q0U X G z10,q0U X G z11,q0U X G z12,q0U X G z13,q0U X G z14,q0U X G z15,q0U X G z16,q0U X G z17⟩
 obtain⟨_,_,F1,k1,a1⟩:=h1
 have b1:=F1.binds (ps:=["one","other"]) fun _ _ _ _ _ _=>ln2 fun _ _=>rfl
 obtain⟨_,_,F2,k2,a2⟩:=h2
 have b2:=F2.binds (ps:=["numbers"]) fun _ _ _ _ _ _=>ln1 fun _=>rfl
 obtain⟨_,_,F3,k3,a3⟩:=h3
 have b3:=F3.binds (ps:=["top","bottom"]) fun _ _ _ _ _ _=>ln2 fun _ _=>rfl
 obtain⟨_,_,F4,k4,a4⟩:=h4
 have b4:=F4.binds (ps:=["numbers"]) fun _ _ _ _ _ _=>ln1 fun _=>rfl
 obtain⟨_,_,F5,k5,a5⟩:=h5
 have b5:=F5.binds (ps:=["row"]) fun _ _ _ _ _ _=>ln1 fun _=>rfl
 obtain⟨_,_,F6,k6,a6⟩:=h6
 have b6:=F6.binds (ps:=["numbers","row"]) fun _ _ _ _ _ _=>ln2 fun _ _=>rfl
 obtain⟨_,_,F7,k7,a7⟩:=h7
 have b7:=F7.binds (ps:=["rows","numbers"]) fun _ _ _ _ _ _=>ln2 fun _ _=>rfl
 obtain⟨_,_,F8,k8,a8⟩:=h8
 have b8:=F8.binds (ps:=["rows","numbers"]) fun _ _ _ _ _ _=>ln2 fun _ _=>rfl
 obtain⟨_,_,F9,k9,a9⟩:=h9
 have b9:=F9.binds (ps:=["rows","numbers"]) fun _ _ _ _ _ _=>ln2 fun _ _=>rfl
 obtain⟨_,_,F10,k10,a10⟩:=h10
 have b10:=F10.binds (ps:=["numbers"]) fun _ _ _ _ _ _=>ln1 fun _=>rfl
 obtain⟨_,_,F11,k11,a11⟩:=h11
 have b11:=F11.binds (ps:=["numbers","sign"]) fun _ _ _ _ _ _=>ln2 fun _ _=>rfl
 obtain⟨_,_,F12,k12,a12⟩:=h12
 have b12:=F12.binds (ps:=["bound","spot"]) fun _ _ _ _ _ _=>ln2 fun _ _=>rfl
 obtain⟨_,_,F13,k13,a13⟩:=h13
 have b13:=F13.binds (ps:=["bound"]) fun _ _ _ _ _ _=>ln1 fun _=>rfl
 obtain⟨_,_,F14,k14,a14⟩:=h14
 have b14:=F14.binds (ps:=["rows","spot"]) fun _ _ _ _ _ _=>ln2 fun _ _=>rfl
 obtain⟨_,_,F15,k15,a15⟩:=h15
 have b15:=F15.binds (ps:=["bounds","spot","place","sign"]) fun _ _ _ _ _ _=>ln4 fun _ _ _ _=>rfl
 obtain⟨_,_,F16,k16,a16⟩:=h16
 have b16:=F16.binds (ps:=["ways","bounds","bound"]) fun _ _ _ _ _ _=>ln3 fun _ _ _=>rfl
 obtain⟨_,_,F17,k17,a17⟩:=h17
 have b17:=F17.binds (ps:=["ways","bounds"]) fun _ _ _ _ _ _=>ln2 fun _ _=>rfl
 obtain⟨_,_,F18,k18,a18⟩:=h18
 have b18:=F18.binds (ps:=["walls","signs"]) fun _ _ _ _ _ _=>ln2 fun _ _=>rfl
 obtain⟨_,_,F19,k19,a19⟩:=h19
 have b19:=F19.binds (ps:=["ways","walls","found","numbers"]) fun _ _ _ _ _ _=>ln4 fun _ _ _ _=>rfl
 obtain⟨_,_,F20,k20,a20⟩:=h20
 have b20:=F20.binds (ps:=["ways","walls"]) fun _ _ _ _ _ _=>ln2 fun _ _=>rfl
 obtain⟨_,_,F21,k21,a21⟩:=h21
 have b21:=F21.binds (ps:=["spot"]) fun _ _ _ _ _ _=>ln1 fun _=>rfl
 obtain⟨_,_,F22,k22,a22⟩:=h22
 have b22:=F22.binds (ps:=["ways","walls"]) fun _ _ _ _ _ _=>ln2 fun _ _=>rfl
 obtain⟨_,_,F23,k23,a23⟩:=h23
 have b23:=F23.binds (ps:=["number"]) fun _ _ _ _ _ _=>ln1 fun _=>rfl
 obtain⟨_,_,F24,k24,a24⟩:=h24
 have b24:=F24.binds (ps:=["ways","walls","signs"]) fun _ _ _ _ _ _=>ln3 fun _ _ _=>rfl
 obtain⟨_,_,F25,k25,a25⟩:=h25
 have b25:=F25.binds (ps:=["ways","walls","signs"]) fun _ _ _ _ _ _=>ln3 fun _ _ _=>rfl
 obtain⟨_,_,F26,k26,a26⟩:=h26
 have b26:=F26.binds (ps:=["ways","bounds","bound","way"]) fun _ _ _ _ _ _=>ln4 fun _ _ _ _=>rfl
 obtain⟨_,_,F27,k27,a27⟩:=h27
 have b27:=F27.binds (ps:=["ways","bounds"]) fun _ _ _ _ _ _=>ln2 fun _ _=>rfl
 obtain⟨_,_,F28,k28,a28⟩:=h28
 have b28:=F28.binds (ps:=["ways","walls","signs"]) fun _ _ _ _ _ _=>ln3 fun _ _ _=>rfl
 obtain⟨_,_,F29,k29,a29⟩:=h29
 have b29:=F29.binds (ps:=["ways","pair"]) fun _ _ _ _ _ _=>ln2 fun _ _=>rfl
 obtain⟨_,_,F30,k30,a30⟩:=h30
 have b30:=F30.binds (ps:=["ways","pairs"]) fun _ _ _ _ _ _=>ln2 fun _ _=>rfl
 obtain⟨_,_,F31,k31,a31⟩:=h31
 have b31:=F31.binds (ps:=["one","other"]) fun _ _ _ _ _ _=>ln2 fun _ _=>rfl
 obtain⟨_,_,F32,k32,a32⟩:=h32
 have b32:=F32.binds (ps:=["pair","point"]) fun _ _ _ _ _ _=>ln2 fun _ _=>rfl
 obtain⟨_,_,F33,k33,a33⟩:=h33
 have b33:=F33.binds (ps:=["ways","pairs"]) fun _ _ _ _ _ _=>ln2 fun _ _=>rfl
 obtain⟨_,_,F34,k34,a34⟩:=h34
 have b34:=F34.binds (ps:=["polynomial","number"]) fun _ _ _ _ _ _=>ln2 fun _ _=>rfl
 obtain⟨_,_,F35,k35,a35⟩:=h35
 have b35:=F35.binds (ps:=["ways","parts"]) fun _ _ _ _ _ _=>ln2 fun _ _=>rfl
 obtain⟨_,_,F36,k36,a36⟩:=h36
 have b36:=F36.binds (ps:=["walls"]) fun _ _ _ _ _ _=>ln1 fun _=>rfl
 obtain⟨_,_,F37,k37,a37⟩:=h37
 have b37:=F37.binds (ps:=["ways","walls"]) fun _ _ _ _ _ _=>ln2 fun _ _=>rfl
 obtain⟨_,_,F38,k38,a38⟩:=h38
 have b38:=F38.binds (ps:=["_law_script","_law_k"]) fun _ _ _ _ _ _=>ln2 fun _ _=>rfl
 obtain⟨_,_,F39,k39,a39⟩:=h39
 have b39:=F39.binds (ps:=["_law_script"]) fun _ _ _ _ _ _=>ln1 fun _=>rfl
 obtain⟨_,_,F40,k40,a40⟩:=h40
 have b40:=F40.binds (ps:=["_law_places","_law_pairs","_law_many"]) fun _ _ _ _ _ _=>ln3 fun _ _ _=>rfl
 obtain⟨_,_,F41,k41,a41⟩:=h41
 have b41:=F41.binds (ps:=["_law_places","_law_some"]) fun _ _ _ _ _ _=>ln2 fun _ _=>rfl
 obtain⟨_,_,F42,k42,a42⟩:=h42
 have b42:=F42.binds (ps:=["_law_pairs"]) fun _ _ _ _ _ _=>ln1 fun _=>rfl
 have F43:=y5c (st:=z5F) l43 c43 k43
 refine⟨PySem.W.fnOf "law" "law" (z2I z5F) (z2l z5F) (z0l z5F) .none kV43 dc43 pm43 an43 cd43 ct43,fun s v=> .of_eq rfl,fun base _ _=>?_⟩
 have C1:Cal l.prog w K mg base 1 "divisor" _ _:=⟨_,_,z9U T F1,b1,k1,q0x X G a1⟩
 have C2:Cal l.prog w K mg base 2 "divisor_of_all" _ _:=⟨_,_,z3p T F2 (C1.mono (by decide)),b2,k2,q0x X G a2⟩
 have C3:Cal l.prog w K mg base 2 "ratio" _ _:=⟨_,_,y3T T F3 (C1.mono (by decide)),b3,k3,q0x X G a3⟩
 have C4:Cal l.prog w K mg base 3 "wall" _ _:=⟨_,_,y5U T F4 (C2.mono (by decide)),b4,k4,q0x X G a4⟩
 have C5:Cal l.prog w K mg base 1 "first_place" _ _:=⟨_,_,z4O T F5,b5,k5,q0x X G a5⟩
 have C6:Cal l.prog w K mg base 2 "cleared" _ _:=⟨_,_,z9W T F6 (C5.mono (by decide)) (C1.mono (by decide)),b6,k6,q0x X G a6⟩
 have C7:Cal l.prog w K mg base 3 "rest_by" _ _:=⟨_,_,z9Q T F7 (C6.mono (by decide)),b7,k7,q0x X G a7⟩
 have C8:Cal l.prog w K mg base 4 "drawn" _ _:=⟨_,_,y3W T F8 (C5.mono (by decide)) (C7.mono (by decide)),b8,k8,q0x X G a8⟩
 have C9:Cal l.prog w K mg base 5 "joined" _ _:=⟨_,_,y1M T F9 ((C7.imp fun _ _ _ _ h=>y6Z h).mono (by decide)) (C4.mono (by decide)) (C6.mono (by decide)) (C5.mono (by decide)),b9,k9,q0x X G a9⟩
 have C10:Cal l.prog w K mg base 3 "lowest" _ _:=⟨_,_,y1J T F10 (C2.mono (by decide)),b10,k10,q0x X G a10⟩
 have C11:Cal l.prog w K mg base 1 "turned" _ _:=⟨_,_,y1H T F11,b11,k11,q0x X G a11⟩
 have C12:Cal l.prog w K mg base 1 "height" _ _:=⟨_,_,y1N T F12,b12,k12,q0x X G a12⟩
 have C13:Cal l.prog w K mg base 2 "lead" _ _:=⟨_,_,y5V T F13 (C5.mono (by decide)),b13,k13,q0x X G a13⟩
 have C14:Cal l.prog w K mg base 4 "lifted" _ _:=⟨_,_,y1K T F14 (C5.mono (by decide)) (C12.mono (by decide)) (C10.mono (by decide)),b14,k14,q0x X G a14⟩
 have C15:Cal l.prog w K mg base 4 "stepped" _ _:=⟨_,_,z9P T F15 (C12.mono (by decide)) (C10.mono (by decide)),b15,k15,q0x X G a15⟩
 have C16:∀m,m≤4→Cal l.prog w K mg base 15 "spot_across" _ (z7z K (m+1)):=fun m hm=>(show Cal l.prog w K mg base (6+2*m+1) "spot_across" _ (z7z K (m+1)) from⟨_,_,(z5T T F16 b16 k16 (q0x X G a16) F17 b17 k17 (q0x X G a17) (C11.mono (by decide)) (C13.mono (by decide)) ((C8.imp fun _ _ _ _ h=>z8g h).mono (by decide)) (C15.mono (by decide)) (C14.mono (by decide)) (C5.mono (by decide)) (C12.mono (by decide)) m).2,b16,k16,q0x X G a16⟩).mono (by lia)
 have C17:∀m,m≤4→Cal l.prog w K mg base 16 "spot_within" _ (z7x K (m+1)):=fun m hm=>(show Cal l.prog w K mg base (6+2*(m+1)) "spot_within" _ (z7x K (m+1)) from⟨_,_,(z5T T F16 b16 k16 (q0x X G a16) F17 b17 k17 (q0x X G a17) (C11.mono (by decide)) (C13.mono (by decide)) ((C8.imp fun _ _ _ _ h=>z8g h).mono (by decide)) (C15.mono (by decide)) (C14.mono (by decide)) (C5.mono (by decide)) (C12.mono (by decide)) (m+1)).1,b17,k17,q0x X G a17⟩).mono (by lia)
 have C18:Cal l.prog w K mg base 2 "bounds_at" _ _:=⟨_,_,z6M T F18 (C11.mono (by decide)),b18,k18,q0x X G a18⟩
 have C19:Cal l.prog w K mg base 16 "parted" _ _:=⟨_,_,y1I T F19 (C18.mono (by decide)) (C11.mono (by decide)) (C12.mono (by decide)) C16,b19,k19,q0x X G a19⟩
 have C20:Cal l.prog w K mg base 17 "land_spots" _ _:=⟨_,_,z5U T F20 (C19.mono (by decide)),b20,k20,q0x X G a20⟩
 have C21:Cal l.prog w K mg base 3 "point_of" _ _:=⟨_,_,z7U T F21 (C3.mono (by decide)),b21,k21,q0x X G a21⟩
 have C22:Cal l.prog w K mg base 18 "lands" _ _:=⟨_,_,y3U T F22 (C20.mono (by decide)) (C21.mono (by decide)),b22,k22,q0x X G a22⟩
 have C23:Cal l.prog w K mg base 1 "is_whole" _ _:=⟨_,_,z7X T F23,b23,k23,q0x X G a23⟩
 have C24:Cal l.prog w K mg base 17 "is_land" _ _:=⟨_,_,z9T T F24 (C23.mono (by decide)) (C18.mono (by decide)) C17,b24,k24,q0x X G a24⟩
 have C25:Cal l.prog w K mg base 18 "looked_land" _ _:=⟨_,_,z4N T F25 (C24.mono (by decide)),b25,k25,q0x X G a25⟩
 have C26:True:=trivial
 have C27:∀m,m≤4→Cal l.prog w K mg base 18 "way_within" _ (z3U K (m+1)):=fun m hm=>(show Cal l.prog w K mg base (6+2*(m+1)) "way_within" _ (z3U K (m+1)) from⟨_,_,(y1F T F26 b26 k26 (q0x X G a26) F27 b27 k27 (q0x X G a27) (C11.mono (by decide)) (C13.mono (by decide)) ((C8.imp fun _ _ _ _ h=>z8g h).mono (by decide)) (C14.mono (by decide)) (C12.mono (by decide)) (m+1)).1,b27,k27,q0x X G a27⟩).mono (by lia)
 have C28:Cal l.prog w K mg base 19 "way_out" _ _:=⟨_,_,z9N T F28 (C25.mono (by decide)) (C18.mono (by decide)) C27,b28,k28,q0x X G a28⟩
 have C29:Cal l.prog w K mg base 4 "wall_of" _ _:=⟨_,_,z9O T F29 (C4.mono (by decide)),b29,k29,q0x X G a29⟩
 have C30:Cal l.prog w K mg base 5 "of_pairs" _ _:=⟨_,_,z7V T F30 (C29.mono (by decide)),b30,k30,q0x X G a30⟩
 have C31:Cal l.prog w K mg base 1 "below" _ _:=⟨_,_,y3X T F31,b31,k31,q0x X G a31⟩
 have C32:Cal l.prog w K mg base 2 "led" _ _:=⟨_,_,y7t T F32 (C31.mono (by decide)),b32,k32,q0x X G a32⟩
 have C33:Cal l.prog w K mg base 19 "runnings" _ _:=⟨_,_,z7T T F33 (C30.mono (by decide)) (C22.mono (by decide)) (C32.mono (by decide)),b33,k33,q0x X G a33⟩
 have C34:Cal l.prog w K mg base 1 "worth" _ _:=⟨_,_,y3S T F34,b34,k34,q0x X G a34⟩
 have C35:Cal l.prog w K mg base 1 "counted" _ _:=⟨_,_,z9V T F35,b35,k35,q0x X G a35⟩
 have C36:Cal l.prog w K mg base 6 "parts_of_lots" _ _:=⟨_,_,z3F T F36 (C9.mono (by decide)),b36,k36,q0x X G a36⟩
 have C37:Cal l.prog w K mg base 7 "by_lots" _ _:=⟨_,_,z9X T F37 (C35.mono (by decide)) (C36.mono (by decide)),b37,k37,q0x X G a37⟩
 have C38:Cal l.prog w K mg base 1 "_law_mix" _ _:=⟨_,_,y3V T F38,b38,k38,q0x X G a38⟩
 have C39:Cal l.prog w K mg base 2 "_law_draws" _ _:=⟨_,_,z9S T F39 (C38.mono (by decide)),b39,k39,q0x X G a39⟩
 have C40:Cal l.prog w K mg base 1 "_law_hued" _ _:=⟨_,_,y1L T F40,b40,k40,q0x X G a40⟩
 have C41:Cal l.prog w K mg base 1 "_law_goes_round" _ _:=⟨_,_,z9R T F41,b41,k41,q0x X G a41⟩
 have C42:Cal l.prog w K mg base 1 "_law_turned" _ _:=⟨_,_,z7W T F42,b42,k42,q0x X G a42⟩
 exact y7u T F43 (C39.mono (by decide)) (C30.mono (by decide)) (C34.mono (by decide)) (C37.mono (by decide)) (C40.mono (by decide)) (C42.mono (by decide)) (C41.mono (by decide)) (C33.mono (by decide)) (C22.mono (by decide)) (C28.mono (by decide))
theorem walk {l:PySem.W.OpenLaw}{q:Program}{loose:List Str}{XP:(Str→Option Value)→Heap→Prop}{YP:World→Heap→Prop}{d:DefRec}{K:Params→PySem.W.Frag} (hn:l.most=some 63) (hdf:d.params.defaults=[])
 (hY:∀(w:World) (h:Heap),YP w h→(K w.params).In h)
 (F:∀(w:World) (mg:Str→Option Value) (fa:Addr) (h:Heap),(K w.params).In h→h.Ns mainGlobals mg→mg d.name=some (.ref fa)→
  ∃fd:FuncData,(∀(s:Shared) (u:Value),BindsTo s fd ⟨[u],[]⟩ [("_law_script",u)])∧∀base:Heap,(K w.params).In base→base.Ns mainGlobals mg→FnOk l.prog w (K w.params) mg base CX0 23 fa fd ["_law_script"] (y3u (K w.params))):
 PySem.W.WalkO q loose XP YP l.row.toRowW d [] (fun f vs=>PySem.call f vs):=
 L2.walk_of (n:=63) (k:=23) (x:="_law_script") (CX:=fun _=>CX0) (sp:=fun w=>y3u (K w.params)) hn (by decide) hdf ⟨rfl,by decide,by decide⟩ hY F (fun _ _ a ns hl _ hS=>⟨a,ns,rfl,hS,hl,fun _=>rfl⟩) fun _ _ _ _ _ z=>z
end L2
open PySem PySem.W PyProof.Rows
theorem PySem.W.Fast.tw4299393738284742656 : True := trivial
theorem PySem.W.Fast.tw10885229092839389093 : True := trivial
theorem PySem.W.Fast.tw10995933095018864840 : True := trivial
theorem PySem.W.Fast.tw1535125785400021608 : True := trivial
theorem PySem.W.Fast.tw6298864478386796970 : True := trivial
theorem PySem.W.Fast.tw3437610670618533322 : True := trivial
theorem PySem.W.Fast.tw7084954611705595051 : True := trivial
theorem PySem.W.Fast.tw1045922074227070764 : True := trivial
theorem PySem.W.Fast.tw11953819200496945934 : True := trivial
theorem PySem.W.Fast.tw4355616008904663471 : True := trivial
theorem PySem.W.Fast.tw1007258203183518896 : True := trivial
theorem PySem.W.Fast.tw7684361130517915953 : True := trivial
theorem PySem.W.Fast.tw11342233362844292466 : True := trivial
theorem PySem.W.Fast.tw6411785459989419347 : True := trivial
theorem PySem.W.Fast.tw3444999517588771669 : True := trivial
theorem PySem.W.Fast.tw9246021454429236569 : True := trivial
theorem PySem.W.Fast.tw16783649941190343097 : True := trivial
theorem PySem.W.Fast.tw14982838190871749529 : True := trivial
theorem PySem.W.Fast.tw16107748495170470266 : True := trivial
theorem PySem.W.Fast.tw6735235386448043664 : True := trivial
set_option maxRecDepth 100000 in
set_option maxHeartbeats 0 in
theorem PySem.Challenge.cw_wallspace_k93_whole_webs_of_pairs_holds : PySem.Challenge.rw_wallspace_k93_whole_webs_of_pairs.Holds := by
  w_on; o_law; k_head; (case hw => w_witness2)
  k_fill
  refine L2.walk (l := PySem.Challenge.rw_wallspace_k93_whole_webs_of_pairs) rfl rfl (fun w h Y => PySem.W.kIn_of Y) ?F
  case F =>
    intro w mg fa h KX G hmg
    refine' L2.all_mk KX G hmg ?h1 ?h2 ?h3 ?h4 ?h5 ?h6 ?h7 ?h8 ?h9 ?h10 ?h11 ?h12 ?h13 ?h14 ?h15 ?h16 ?h17 ?h18 ?h19 ?h20 ?h21 ?h22 ?h23 ?h24 ?h25 ?h26 ?h27 ?h28 ?h29 ?h30 ?h31 ?h32 ?h33 ?h34 ?h35 ?h36 ?h37 ?h38 ?h39 ?h40 ?h41 ?h42 ?a43 ?l43 ?c43 ?k43 ?z1 ?z2 ?z3 ?z4 ?z5 ?z6 ?z7 ?z8 ?z9 ?z10 ?z11 ?z12 ?z13 ?z14 ?z15 ?z16 ?z17
    (case h1 => exact L2.lk (by k_is) (by k_is) (by k_is) (by k_is))
    (case h2 => exact L2.lk (by k_is) (by k_is) (by k_is) (by k_is))
    (case h3 => exact L2.lk (by k_is) (by k_is) (by k_is) (by k_is))
    (case h4 => exact L2.lk (by k_is) (by k_is) (by k_is) (by k_is))
    (case h5 => exact L2.lk (by k_is) (by k_is) (by k_is) (by k_is))
    (case h6 => exact L2.lk (by k_is) (by k_is) (by k_is) (by k_is))
    (case h7 => exact L2.lk (by k_is) (by k_is) (by k_is) (by k_is))
    (case h8 => exact L2.lk (by k_is) (by k_is) (by k_is) (by k_is))
    (case h9 => exact L2.lk (by k_is) (by k_is) (by k_is) (by k_is))
    (case h10 => exact L2.lk (by k_is) (by k_is) (by k_is) (by k_is))
    (case h11 => exact L2.lk (by k_is) (by k_is) (by k_is) (by k_is))
    (case h12 => exact L2.lk (by k_is) (by k_is) (by k_is) (by k_is))
    (case h13 => exact L2.lk (by k_is) (by k_is) (by k_is) (by k_is))
    (case h14 => exact L2.lk (by k_is) (by k_is) (by k_is) (by k_is))
    (case h15 => exact L2.lk (by k_is) (by k_is) (by k_is) (by k_is))
    (case h16 => exact L2.lk (by k_is) (by k_is) (by k_is) (by k_is))
    (case h17 => exact L2.lk (by k_is) (by k_is) (by k_is) (by k_is))
    (case h18 => exact L2.lk (by k_is) (by k_is) (by k_is) (by k_is))
    (case h19 => exact L2.lk (by k_is) (by k_is) (by k_is) (by k_is))
    (case h20 => exact L2.lk (by k_is) (by k_is) (by k_is) (by k_is))
    (case h21 => exact L2.lk (by k_is) (by k_is) (by k_is) (by k_is))
    (case h22 => exact L2.lk (by k_is) (by k_is) (by k_is) (by k_is))
    (case h23 => exact L2.lk (by k_is) (by k_is) (by k_is) (by k_is))
    (case h24 => exact L2.lk (by k_is) (by k_is) (by k_is) (by k_is))
    (case h25 => exact L2.lk (by k_is) (by k_is) (by k_is) (by k_is))
    (case h26 => exact L2.lk (by k_is) (by k_is) (by k_is) (by k_is))
    (case h27 => exact L2.lk (by k_is) (by k_is) (by k_is) (by k_is))
    (case h28 => exact L2.lk (by k_is) (by k_is) (by k_is) (by k_is))
    (case h29 => exact L2.lk (by k_is) (by k_is) (by k_is) (by k_is))
    (case h30 => exact L2.lk (by k_is) (by k_is) (by k_is) (by k_is))
    (case h31 => exact L2.lk (by k_is) (by k_is) (by k_is) (by k_is))
    (case h32 => exact L2.lk (by k_is) (by k_is) (by k_is) (by k_is))
    (case h33 => exact L2.lk (by k_is) (by k_is) (by k_is) (by k_is))
    (case h34 => exact L2.lk (by k_is) (by k_is) (by k_is) (by k_is))
    (case h35 => exact L2.lk (by k_is) (by k_is) (by k_is) (by k_is))
    (case h36 => exact L2.lk (by k_is) (by k_is) (by k_is) (by k_is))
    (case h37 => exact L2.lk (by k_is) (by k_is) (by k_is) (by k_is))
    (case h38 => exact L2.lk (by k_is) (by k_is) (by k_is) (by k_is))
    (case h39 => exact L2.lk (by k_is) (by k_is) (by k_is) (by k_is))
    (case h40 => exact L2.lk (by k_is) (by k_is) (by k_is) (by k_is))
    (case h41 => exact L2.lk (by k_is) (by k_is) (by k_is) (by k_is))
    (case h42 => exact L2.lk (by k_is) (by k_is) (by k_is) (by k_is))
    (case a43 => k_is)
    (case l43 => k_is)
    (case c43 => k_is)
    (case k43 => k_is)
    (case z1 => k_is)
    (case z2 => k_is)
    (case z3 => k_is)
    (case z4 => k_is)
    (case z5 => k_is)
    (case z6 => k_is)
    (case z7 => k_is)
    (case z8 => k_is)
    (case z9 => k_is)
    (case z10 => k_is)
    (case z11 => k_is)
    (case z12 => k_is)
    (case z13 => k_is)
    (case z14 => k_is)
    (case z15 => k_is)
    (case z16 => k_is)
    (case z17 => k_is)
