import PyProof.Rows.All
import Wide.All
import OpenK.KLine
import KE.KSortTup
import Wide.FinOn
import KE.KRevIter
import KE.RegKTryMore
import KE.RegKIsAll
import PySem.Challenge.RW_hoopcord_k62_whole_cords_made
set_option Elab.async false
set_option linter.all false
set_option maxRecDepth 100000
set_option maxHeartbeats 8000000
set_option compiler.extract_closed false
theorem PySem.W.Fast.te14439933888598566501:True:=trivial
set_option maxHeartbeats 0 in
open_top tp for PySem.Challenge.rw_hoopcord_k62_whole_cords_made
noncomputable section
theorem Y0:type_of% @if_neg:=@if_neg
theorem Y1:type_of% @if_pos:=@if_pos
theorem Y2:type_of% @decide_eq_false:=@decide_eq_false
theorem Y3:type_of% @Option.map_eq_some_iff:=@Option.map_eq_some_iff
theorem Y4:type_of% @PySem.W.mg_none_of:=@PySem.W.mg_none_of
theorem Y5:type_of% @List.mem_of_getElem?:=@List.mem_of_getElem?
theorem Y6:type_of% @PySem.wpAny_newObj_type:=@PySem.wpAny_newObj_type
theorem Y7:type_of% @PySem.wpAny_call_entry:=@PySem.wpAny_call_entry
theorem Y8:type_of% @PySem.wpAny_loadPart':=@PySem.wpAny_loadPart'
theorem Y9:type_of% @congrArg:=@congrArg
theorem Ya:type_of% @PySem.wpAny_truthy_bool:=@PySem.wpAny_truthy_bool
theorem Yb:type_of% @List.not_mem_nil:=@List.not_mem_nil
theorem Yc:type_of% @PySem.wpAny_callSpecial?_slot:=@PySem.wpAny_callSpecial?_slot
theorem Yd:type_of% @PyProof.Rows.callWith_type1:=@PyProof.Rows.callWith_type1
theorem Ye:type_of% @List.filter_append:=@List.filter_append
theorem Yf:type_of% @PySem.W.kia_one:=@PySem.W.kia_one
theorem Yg:type_of% @List.sum_cons:=@List.sum_cons
theorem Yh:type_of% @PySem.wpAny_holding:=@PySem.wpAny_holding
theorem Yi:type_of% @Array.getD_eq_getD_getElem?:=@Array.getD_eq_getD_getElem?
theorem Yj:type_of% @List.getElem?_append_right:=@List.getElem?_append_right
theorem Yk:type_of% @PySem.wpAny_dictEpoch:=@PySem.wpAny_dictEpoch
theorem Yl:type_of% @List.map_nil:=@List.map_nil
theorem Ym:type_of% @PySem.Heap.SameBut.update:=@PySem.Heap.SameBut.update
theorem Yn:type_of% @List.map_congr_left:=@List.map_congr_left
theorem Yo:type_of% @List.getElem?_append_left:=@List.getElem?_append_left
theorem Yp:type_of% @List.getElem?_set_ne:=@List.getElem?_set_ne
theorem Yq:type_of% @List.length_range:=@List.length_range
theorem Yr:type_of% @Int.toNat_natCast:=@Int.toNat_natCast
theorem Ys:type_of% @List.lookup_cons:=@List.lookup_cons
theorem Yt:type_of% @PySem.sizeLine_eq:=@PySem.sizeLine_eq
theorem Yu:type_of% @List.getElem?_set_self:=@List.getElem?_set_self
theorem Yv:type_of% @PySem.wpAny_dictEntries:=@PySem.wpAny_dictEntries
theorem Yw:type_of% @PyProof.Rows.KeyOrd.kle_refl:=@PyProof.Rows.KeyOrd.kle_refl
theorem Yx:type_of% @PySem.wpAny_of_eq:=@PySem.wpAny_of_eq
theorem Yy:type_of% @PySem.wpAny_rule:=@PySem.wpAny_rule
theorem Yz:type_of% @PySem.mem_of_lookup:=@PySem.mem_of_lookup
theorem YA:type_of% @Nat.le_of_eq:=@Nat.le_of_eq
theorem YB:type_of% @PySem.wpAny_field:=@PySem.wpAny_field
theorem YC:type_of% @PyProof.Rows.slot_tuple_getitem:=@PyProof.Rows.slot_tuple_getitem
theorem YD:type_of% @List.Pairwise.map:=@List.Pairwise.map
theorem YE:type_of% @Int.lt_trichotomy:=@Int.lt_trichotomy
theorem YF:type_of% @List.eq_nil_or_concat:=@List.eq_nil_or_concat
theorem YG:type_of% @List.concat_eq_append:=@List.concat_eq_append
theorem YH:type_of% @Array.getElem?_toList:=@Array.getElem?_toList
theorem YI:type_of% @Ne.symm:=@Ne.symm
theorem YJ:type_of% @List.getElem_mem:=@List.getElem_mem
theorem YK:type_of% @List.getElem?_mapIdx:=@List.getElem?_mapIdx
theorem YL:type_of% @PySem.wpAny_passesOwn:=@PySem.wpAny_passesOwn
theorem YM:type_of% @PySem.Paired.length:=@PySem.Paired.length
theorem YN:type_of% @Option.map_some:=@Option.map_some
theorem YO:type_of% @PySem.Obj.data_mapFields:=@PySem.Obj.data_mapFields
open PySem
set_option genSizeOf false
set_option genInjectivity false
theorem Z0:type_of% @Option.bind_eq_some_iff:=@Option.bind_eq_some_iff
theorem Z1:type_of% @Option.bind_some:=@Option.bind_some
theorem Z2:type_of% @List.length_map:=@List.length_map
theorem Z3:type_of% @List.getElem?_eq_getElem:=@List.getElem?_eq_getElem
theorem Z4:type_of% @List.size_toArray:=@List.size_toArray
theorem Z5:type_of% @List.getD_eq_getElem?_getD:=@List.getD_eq_getElem?_getD
theorem Z6:type_of% @List.map_cons:=@List.map_cons
theorem Z7:type_of% @PySem.Heap.get?_push_of_some:=@PySem.Heap.get?_push_of_some
theorem Z8:type_of% @List.mem_cons_of_mem:=@List.mem_cons_of_mem
theorem Z9:type_of% @List.getElem?_eq_some_iff:=@List.getElem?_eq_some_iff
theorem JI:type_of% @Nat.le_refl:=@Nat.le_refl
theorem Kk:type_of% @List.mem_append:=@List.mem_append
theorem Lg:type_of% @List.mem_singleton:=@List.mem_singleton
theorem JO:type_of% @PySem.Heap.lt_size:=@PySem.Heap.lt_size
theorem NT:type_of% @Nat.le_of_ble_eq_true:=@Nat.le_of_ble_eq_true
theorem KL:type_of% @Nat.lt_of_lt_of_le:=@Nat.lt_of_lt_of_le
theorem Li:type_of% @List.mem_cons_self:=@List.mem_cons_self
theorem LD:type_of% @List.length_append:=@List.length_append
theorem Ke:type_of% @List.mem_map:=@List.mem_map
theorem JS:type_of% @List.mem_cons:=@List.mem_cons
theorem Kv:type_of% @PySem.Heap.get?_push_size:=@PySem.Heap.get?_push_size
theorem Kb:type_of% @List.getElem?_map:=@List.getElem?_map
theorem LR:type_of% @List.replicate_succ:=@List.replicate_succ
theorem LW:type_of% @List.map_append:=@List.map_append
theorem La:type_of% @Nat.le_trans:=@Nat.le_trans
theorem Lv:type_of% @Bool.and_eq_true:=@Bool.and_eq_true
theorem Kn:type_of% @Nat.ne_of_lt:=@Nat.ne_of_lt
theorem KZ:type_of% @Option.some.inj:=@Option.some.inj
theorem MR:type_of% @Bool.false_ne_true:=@Bool.false_ne_true
theorem K0:type_of% @Nat.zero_le:=@Nat.zero_le
theorem KP:type_of% @List.map_map:=@List.map_map
theorem K9:type_of% @List.length_set:=@List.length_set
theorem LL:type_of% @Nat.lt_irrefl:=@Nat.lt_irrefl
theorem NS:type_of% @List.length_filter_le:=@List.length_filter_le
theorem Ma:type_of% @List.append_nil:=@List.append_nil
theorem MX:type_of% @List.mem_append_right:=@List.mem_append_right
theorem M9:type_of% @List.mem_append_left:=@List.mem_append_left
theorem L8:type_of% @Nat.le_of_lt:=@Nat.le_of_lt
theorem MQ:type_of% @List.flatten_cons:=@List.flatten_cons
theorem Oo:type_of% @List.foldl_cons:=@List.foldl_cons
theorem L7:type_of% @Int.le_refl:=@Int.le_refl
theorem Mt:type_of% @List.find?_cons:=@List.find?_cons
theorem MV:type_of% @Nat.le_add_right:=@Nat.le_add_right
theorem Lk:type_of% @Bool.false_eq_true:=@Bool.false_eq_true
theorem LC:type_of% @List.pairwise_append:=@List.pairwise_append
theorem L0:type_of% @List.all_eq_true:=@List.all_eq_true
theorem OC:type_of% @List.cons_append:=@List.cons_append
theorem Jk:type_of% @PySem.wpAny_bind:=@PySem.wpAny_bind
theorem Jq:type_of% @PySem.wpAny_pure:=@PySem.wpAny_pure
theorem M8:type_of% @List.length_cons:=@List.length_cons
namespace L2
open PySem.Spec PyProof.Rows
abbrev Key:=Sum Int Str
def kE:Key->Value->Bool
 | .inl k,v=>Value.isInt k v
 | .inr x,v=>Value.isStrOf x v
def Iw (w:World):Key->Int
 | .inl k=>hashInt k
 | .inr x=>hashStr w x
theorem aM:∀ {k:Key} {v:Value},kE k v=true->(∃ i t,k=Sum.inl i/\v=Value.int i t)∨(∃ x t,k=Sum.inr x/\v=Value.str x t)
 | .inl i,v,h=>by
  obtain ⟨t,e⟩:=Value.isInt_shape (k:=i) (v:=v) h;exact .inl ⟨i,t,rfl,e⟩
 | .inr x,v,h=>by
  obtain ⟨t,e⟩:=Value.isStrOf_shape (x:=x) (v:=v) h;exact .inr ⟨x,t,rfl,e⟩
theorem sN (i:Int) (t:Tok):kE (.inl i) (.int i t)=true:=by simp [kE,Value.isInt]
theorem sO (x:Str) (t:Tok):kE (.inr x) (.str x t)=true:=by simp [kE,Value.isStrOf]
theorem CF (a b:Int):decide ((Sum.inl a:Key)=Sum.inl b)=(a == b):=by
 by_cases e:a=b
 ·subst e; simp
 ·have h:¬ (Sum.inl a:Key)=Sum.inl b:=fun q=>e (Sum.inl.inj q);rw [Y2 h];exact (beq_eq_false_iff_ne.mpr e).symm
theorem CG (a b:Str):decide ((Sum.inr a:Key)=Sum.inr b)=decide (a=b):=by
 by_cases e:a=b
 ·subst e; simp
 ·have h:¬ (Sum.inr a:Key)=Sum.inr b:=fun q=>e (Sum.inr.inj q);rw [Y2 h,Y2 e]
theorem CH (a:Int) (b:Str):decide ((Sum.inl a:Key)=Sum.inr b)=false:=Y2 (fun q=>nomatch q)
theorem CJ (a:Str) (b:Int):decide ((Sum.inr a:Key)=Sum.inl b)=false:=Y2 (fun q=>nomatch q)
def aJ (prog:Program) (w:World):PySem.KeyKind prog w Key where
 is:=kE
 hash:=Iw w
 inj:=fun v a b ha hb=>by
  rcases aM ha with ⟨i,t,rfl,rfl⟩ | ⟨x,t,rfl,rfl⟩
  ·rcases aM hb with ⟨j,u,rfl,e⟩ | ⟨y,u,rfl,e⟩
   ·injection e with e1 _; rw [e1]
   ·exact nomatch e
  ·rcases aM hb with ⟨j,u,rfl,e⟩ | ⟨y,u,rfl,e⟩
   ·exact nomatch e
   ·injection e with e1 _; rw [e1]
 byValue:=fun k v h=>by
  rcases aM h with ⟨i,t,rfl,rfl⟩ | ⟨x,t,rfl,rfl⟩ <;> rfl
 pyHash:=fun hv h=>by
  rcases aM hv with ⟨i,t,rfl,rfl⟩ | ⟨x,t,rfl,rfl⟩
  ·exact wpAny_pyHash_int h
  ·exact wpAny_pyHash_str h
 eqBool:=fun hu hv h=>by
  rcases aM hu with ⟨i,t,rfl,rfl⟩ | ⟨x,t,rfl,rfl⟩
  ·rcases aM hv with ⟨j,u,rfl,rfl⟩ | ⟨y,u,rfl,rfl⟩
   ·rw [CF] at h; exact wpAny_eqBool_int h
   ·rw [CH] at h; exact SeqAt.EqAt.int_str i t y u _ _ _ _ h
  ·rcases aM hv with ⟨j,u,rfl,rfl⟩ | ⟨y,u,rfl,rfl⟩
   ·rw [CJ] at h; exact SeqAt.EqAt.str_int x t j u _ _ _ _ h
   ·rw [CG] at h; exact wpAny_eqBool_str h
 «strs»:=fun k x t v h=>by
  rcases aM h with ⟨i,u,rfl,e⟩ | ⟨y,u,rfl,e⟩
  ·exact nomatch e
  ·injection e with e1 _;subst e1;cases v <;> rfl
theorem nF (prog:Program) (w:World) (i:Int) (t:Tok):(aJ prog w).is (.inl i) (.int i t)=true:=sN i t
theorem nG (prog:Program) (w:World) (x:Str) (t:Tok):(aJ prog w).is (.inr x) (.str x t)=true:=sO x t
set_option genInjectivity true in
inductive V where
 | non | bl (b:Bool) | int (i:Int) | str (x:Str) | byt (b:Array UInt8) | flt (b:UInt64) | ref (a:Addr) | ty (n:String)
 deriving DecidableEq
def RelV:V->Value->Prop
 | .non,u=>u=Value.none
 | .bl b,u=>u=Value.bool b
 | .int i,u=>∃ t,u=Value.int i t
 | .str x,u=>∃ t,u=Value.str x t
 | .byt b,u=>∃ t,u=Value.bytes b t
 | .flt b,u=>∃ t,u=Value.float b t
 | .ref a,u=>u=Value.ref a
 | .ty n,u=>u=Value.type n
abbrev Vals:List V->List Value->Prop:=Paired RelV
theorem Vals.length {xs:List V} {us:List Value} (r:Vals xs us):xs.length=us.length:=YM r
theorem Vals.get:∀ {xs:List V} {us:List Value} {i:Nat} {x:V},Vals xs us->xs[i]?=some x->∃ u,us[i]?=some u/\RelV x u
 | _,_,_,_,.nil,e=>by simp at e
 | _,_,0,_,.cons r _,e=>by simp at e; subst e; exact ⟨_,rfl,r⟩
 | _,_,i+1,x,.cons _ t,e=>by
  obtain ⟨u,h1,h2⟩:=Vals.get (i:=i) (x:=x) t (by simpa using e);exact ⟨u,by simpa using h1,h2⟩
theorem Vals.set {x:V} {u:Value} (r:RelV x u):∀ {xs:List V} {us:List Value} (i:Nat),Vals xs us->Vals (xs.set i x) (us.set i u)
 | _,_,_,.nil=>.nil
 | _,_,0,.cons _ t=>.cons r t
 | _,_,i+1,.cons q t=>.cons q (Vals.set r i t)
theorem Vals.append:∀ {xs ys:List V} {us ws:List Value},Vals xs us->Vals ys ws->Vals (xs++ys) (us++ws)
 | _,_,_,_,.nil,s=>s
 | _,_,_,_,.cons r t,s=>.cons r (Vals.append t s)
theorem Vals.take:∀ {xs:List V} {us:List Value} (n:Nat),Vals xs us->Vals (xs.take n) (us.take n)
 | _,_,0,_=>.nil
 | _,_,_+1,.nil=>.nil
 | _,_,n+1,.cons r t=>.cons r (Vals.take n t)
theorem Vals.drop:∀ {xs:List V} {us:List Value} (n:Nat),Vals xs us->Vals (xs.drop n) (us.drop n)
 | _,_,0,r=>r
 | _,_,_+1,.nil=>.nil
 | _,_,n+1,.cons _ t=>Vals.drop n t
def J8:Option V->Option Value->Prop
 | some v,some u=>RelV v u
 | none,none=>True
 | _,_=>False
def KV {κ:Type}:List (κ × V)->List (κ × Value)->Prop:=Paired fun (p:κ × V) (q:κ × Value)=>p.1=q.1/\RelV p.2 q.2
def kV:Key->V
 | .inl i=>.int i
 | .inr x=>.str x
set_option genInjectivity true in
inductive HO where
 | lst (xs:List V)
 | tup (xs:List V)
 | dK (kvs:List (Key × V)) | dT (kvs:List (List Key × V))
 | set (S:Int->Bool) (n:Nat)
 | ins (C dx:Addr) (fs:List (Str × V))
 | own (x:Addr)
 | xd (fs:List (Str × V))
 | met (f x:Addr)
 | Mf (lo hi:Int)
 | frz (o:Obj) (u:HO)
 | tbl (ps:Array Value)
 | ext (φ:Heap->Prop)
abbrev Hp:=Addr->Option HO
def upd (H:Hp) (a:Addr) (o:HO):Hp:=fun b=>if b=a then some o else H b
theorem aj:upd H a o a=some o:=by unfold upd; rw [Y1 rfl]
theorem ar (h:b ≠ a):upd H a o b=H b:=by unfold upd; rw [Y0 h]
theorem BS {H:Hp} {a b:Addr} {o u:HO} (h:H a=some o) (h':H b=some u) (d:o ≠ u):a ≠ b:=by intro e; subst e; rw [h] at h'; exact d (KZ h')
theorem av {H:Hp} {a b:Addr} {o:HO} (h:H a=some o) (h':H b=none):a ≠ b:=by intro e; subst e; rw [h] at h'; cases h'
section
variable (P:Program) (w:World)
def Jr (H:Hp) (h:Heap) (a:Addr):HO->Prop
 | .lst xs=>xs.length<=sizeLine/\∃ (its:List Value) (n:Nat),Vals xs its/\h.get? a=some { cls:=.type "list",data:=.seq its.toArray n }
 | .tup xs=>xs.length<=sizeLine/\∃ its:List Value,Vals xs its/\IsTup h a its.toArray
 | .dK kvs=>kvs.length<=sizeLine/\(a == sysModules)=false/\∃ vs,KV kvs vs/\h.DictOf (aJ P w) a vs
 | .dT kvs=>kvs.length<=sizeLine/\(a == sysModules)=false/\∃ xs:List (List Key × Addr × Value),
  Paired (fun (p:List Key × V) (q:List Key × Addr × Value)=>p.1=q.1/\H q.2.1=some (.tup (p.1.map kV))/\RelV p.2 q.2.2) kvs xs /\
  ∃ o es ep,h.get? a=some o/\o.ExactDict/\o.data=.dict es ep/\es.toList=xs.map (entryOfKey (tupleKind (aJ P w)))/\(xs.map (·.1)).Nodup
 | .set S n=>h.SetOf (intKind P w) a S n
 | .ins C dx fs=>H dx=some (.own a)/\fs.length<=1000/\dx ≠ a/\h.get? a=some (PySem.W.instObj C dx) /\
  ∃ mA,h.Ns1 dx mA/\(∀ f,J8 (fs.lookup f) (mA f))/\PySem.Within mA (fs.map (·.1))
 | .own _=>∃ o,h.get? a=some o
 | .xd fs=>∃ mA,h.Ns1 a mA/\∀ f,J8 (fs.lookup f) (mA f)
 | .Mf lo hi=>∃ t u v,h.get? a=some { cls:=.type "range",data:=.fields #[.int lo t,.int hi u,.int 1 v] }
 | .frz o u=>h.get? a=some o/\Jr H h a u
 | .tbl ps=>h.get? a=some { cls:=.none,data:=.fields ps }
 | .met f x=>h.get? a=some (PySem.W.methodObj (.ref f) (.ref x))
 | .ext φ=>φ h/\(∃ o,h.get? a=some o)/\∀ h1 h2:Heap,φ h1->(∀ o,h1.get? a=some o->h2.get? a=some o)->φ h2
def Ky (H:Hp) (h:Heap):Prop:=∀ a o,H a=some o->Jr P w H h a o
end
section
variable {P:Program} {w:World} {H H':Hp} {h h':Heap} {a:Addr} {o:HO}
theorem Jr.lt (x:Jr P w H h a o):a < h.objs.size:=by
 cases o with
 | lst xs=>obtain ⟨_,_,_,_,e⟩:=x; exact JO e
 | tup xs=>obtain ⟨_,_,_,p⟩:=x; exact p.lt
 | set S n=>obtain ⟨o,_,_,_,e,_⟩:=x; exact JO e
 | ins C dx fs=>obtain ⟨_,_,_,e,_⟩:=x; exact JO e
 | own y=>obtain ⟨_,e⟩:=x; exact JO e
 | xd fs=>obtain ⟨_,⟨_,_,_,e,_⟩,_⟩:=x; exact JO e
 | Mf lo hi=>obtain ⟨_,_,_,e⟩:=x; exact JO e
 | frz ob u=>obtain ⟨e,_⟩:=x; exact JO e
 | tbl ps=>exact JO (show h.get? a=some _ from x)
 | met f y=>exact JO (show h.get? a=some _ from x)
 | ext φ=>obtain ⟨_,⟨_,e⟩,_⟩:=x; exact JO e
 | _=>obtain ⟨_,_,_,_,o,_,_,e,_⟩:=x; exact JO e
theorem Paired.Of {α β:Type} {F G:α->β->Prop}:∀ {l₁:List α} {l₂:List β},Paired F l₁ l₂->(∀ a b,F a b->G a b)->Paired G l₁ l₂
 | _,_,.nil,_=>.nil
 | _,_,.cons r t,f=>.cons (f _ _ r) (Paired.Of t f)
theorem Jr.Jp (x:Jr P w H h a o) (k:∀ b u,(b=a∨H b=some (.own a))->h.get? b=some u->h'.get? b=some u)
 (ho:∀ b,H b=some (.own a)->H' b=some (.own a)) (ht:∀ b xs,H b=some (.tup xs)->H' b=some (.tup xs)):Jr P w H' h' a o:=by
 induction o with
 | lst xs=>obtain ⟨z,its,n,r,e⟩:=x; exact ⟨z,its,n,r,k _ _ (.inl rfl) e⟩
 | tup xs=>obtain ⟨z,its,r,ob,e,c⟩:=x; exact ⟨z,its,r,ob,k _ _ (.inl rfl) e,c⟩
 | dK kvs=>obtain ⟨z,y,vs,r,ob,es,ep,e,c⟩:=x; exact ⟨z,y,vs,r,ob,es,ep,k _ _ (.inl rfl) e,c⟩
 | dT kvs=>obtain ⟨z,y,xs,r,ob,es,ep,e,c⟩:=x;exact ⟨z,y,xs,Paired.Of r fun p q z=>⟨z.1,ht _ _ z.2.1,z.2.2⟩,ob,es,ep,k _ _ (.inl rfl) e,c⟩
 | set S n=>obtain ⟨ob,es,ep,t,e,c⟩:=x; exact ⟨ob,es,ep,t,k _ _ (.inl rfl) e,c⟩
 | ins C dx fs=>obtain ⟨d,z,ne,e,mA,⟨od,es,ep,e2,c⟩,r⟩:=x;exact ⟨ho _ d,z,ne,k _ _ (.inl rfl) e,mA,⟨od,es,ep,k _ _ (.inr d) e2,c⟩,r⟩
 | own y=>obtain ⟨ob,e⟩:=x; exact ⟨ob,k _ _ (.inl rfl) e⟩
 | xd fs=>obtain ⟨mA,⟨od,es,ep,e,c⟩,r⟩:=x; exact ⟨mA,⟨od,es,ep,k _ _ (.inl rfl) e,c⟩,r⟩
 | Mf lo hi=>obtain ⟨t,u,v,e⟩:=x; exact ⟨t,u,v,k _ _ (.inl rfl) e⟩
 | frz ob u ih=>obtain ⟨e,q⟩:=x; exact ⟨k _ _ (.inl rfl) e,ih q⟩
 | tbl ps=>have e:h.get? a=some { cls:=.none,data:=.fields ps }:=x;show h'.get? a=some { cls:=.none,data:=.fields ps };exact k a _ (.inl rfl) e
 | met f y=>have e:h.get? a=some (PySem.W.methodObj (.ref f) (.ref y)):=x;show h'.get? a=some (PySem.W.methodObj (.ref f) (.ref y));exact k a _ (.inl rfl) e
 | ext φ=>obtain ⟨p,⟨o,e⟩,st⟩:=x; exact ⟨st _ _ p fun o q=>k _ _ (.inl rfl) q,⟨o,k _ _ (.inl rfl) e⟩,st⟩
theorem Ky.lt (x:Ky P w H h) (e:H a=some o):a < h.objs.size:=(x a o e).lt
theorem Ky.fresh (x:Ky P w H h) (e:h.objs.size<=a):H a=none:=by
 cases q:H a with
 | none=>rfl
 | some u=>exact absurd (KL (x.lt q) e) (LL _)
theorem Ky.kept (x:Ky P w H h) (k:∀ b u,h.get? b=some u->h'.get? b=some u):Ky P w H h':=fun a o e=>(x a o e).Jp (fun b u _ q=>k b u q) (fun _ q=>q) fun _ _ q=>q
theorem Ky.laid (x:Ky P w H h) (k:∀ b u,h.get? b=some u->h'.get? b=some u) (hp:h.objs.size<=a) (new:Jr P w (upd H a o) h' a o):Ky P w (upd H a o) h':=fun b u e=>by
 have hn:=x.fresh hp;by_cases hb:b=a
 ·subst hb; rw [aj] at e; cases e; exact new
 ·rw [ar hb] at e;exact (x b u e).Jp (fun c v _ q=>k c v q) (fun c q=>by rw [ar (av q hn)]; exact q) fun c xs q=>by rw [ar (av q hn)]; exact q
end
def Rd (H:Hp) (a:Addr) (u:HO):Prop:=H a=some u∨∃ o,H a=some (.frz o u)
theorem Rd.ok {P:Program} {w:World} {H:Hp} {h:Heap} {a:Addr} {u:HO} (r:Rd H a u) (x:Ky P w H h):Jr P w H h a u:=by
 rcases r with r | ⟨o,r⟩
 ·exact x a u r
 ·obtain ⟨_,q⟩:=x a _ r;exact q
def OY:Option HO->Prop
 | some (.lst _)=>True
 | some (.dK _)=>True
 | some (.dT _)=>True
 | some (.set _ _)=>True
 | some (.ins _ _ _)=>True
 | some (.ext _)=>True
 | _=>False
section
variable {P:Program} {w:World} {H:Hp} {h h':Heap} {x e:Addr} {o':HO}
theorem Ky.write (ok:Ky P w H h) (mu:OY (H x)) (he:e=x∨H e=some (.own x)) (k:∀ b u,b ≠ e->h.get? b=some u->h'.get? b=some u) (heo:∃ u,h'.get? e=some u)
 (new:Jr P w (upd H x o') h' x o'):Ky P w (upd H x o') h':=fun b u q=>by
 have nown:∀ c y,H c=some (.own y)->c ≠ x:=fun c y r z=>by subst z; rw [r] at mu; exact mu
 have ntup:∀ c xs,H c=some (.tup xs)->c ≠ x:=fun c xs r z=>by subst z; rw [r] at mu; exact mu
 by_cases hb:b=x
 ·subst hb; rw [aj] at q; cases q; exact new
 ·rw [ar hb] at q;by_cases hbe:b=e
  ·have q':H b=some (.own x):=by
    rcases he with z | z
    ·exact absurd (hbe.trans z) hb
    ·rw [hbe]; exact z
   rw [q] at q'; cases q';obtain ⟨v,hv⟩:=heo;exact ⟨v,by rw [hbe]; exact hv⟩
  ·refine (ok b u q).Jp (fun c v hc r=>k c v ?_ r) (fun c r=>by rw [ar (nown c b r)]; exact r) fun c xs r=>by rw [ar (ntup c xs r)]; exact r
   rcases hc with rfl | hc
   ·exact hbe
   ·rintro rfl;rcases he with z | z
    ·exact nown c b hc z
    ·rw [hc] at z; cases z; exact hb rfl
end
structure Un (fs ex:List Addr) (H H':Hp) (h h':Heap):Prop where
 keep:∀ b o,h.get? b=some o->H b=none->b ∉ fs->b ∉ ex->h'.get? b=some o
 slot:∀ b o,h.get? b=some o->H b=none->b ∈ fs->b ∉ ex->∃ sl,h'.get? b=some { o with slots:=sl }
 free:∀ b o,h.get? b=some o->H b=none->b ∉ ex->H' b=none
 there:∀ b o,h.get? b=some o->b ∉ ex->∃ o',h'.get? b=some o'
 tups:∀ b xs,H b=some (.tup xs)->H' b=some (.tup xs)
 frzs:∀ b o u,H b=some (.frz o u)->H' b=some (.frz o u)
 tbls:∀ b ps,H b=some (.tbl ps)->∃ more,H' b=some (.tbl (ps++more))
section
variable {fs fs' ex ex':List Addr} {H H1 H2:Hp} {h h1 h2 h':Heap} {a x e:Addr} {o:HO}
theorem Un.any (u:Un fs ex H H1 h h1) {b:Addr} {ob:Obj} (q:h.get? b=some ob) (n:H b=none) (hx:b ∉ ex):∃ sl,h1.get? b=some { ob with slots:=sl }:=by
 by_cases hb:b ∈ fs
 ·exact u.slot b ob q n hb hx
 ·exact ⟨ob.slots,u.keep b ob q n hb hx⟩
theorem Un.kept (k:∀ b u,h.get? b=some u->h'.get? b=some u):Un fs ex H H h h':=
 ⟨fun b ob q _ _ _=>k b ob q,fun b ob q _ _ _=>⟨ob.slots,k b ob q⟩,fun _ _ _ n _=>n,fun b ob q _=>⟨ob,k b ob q⟩,fun _ _ q=>q,fun _ _ _ q=>q,fun _ ps q=>⟨#[],by rw [q]; simp⟩⟩
theorem Un.refl:Un fs ex H H h h:=Un.kept fun _ _ q=>q
theorem Un.laid (k:∀ b u,h.get? b=some u->h'.get? b=some u) (hp:h.objs.size<=a) (hn:H a=none):Un fs ex H (upd H a o) h h' where
 keep:=fun b u q _ _ _=>k b u q
 slot:=fun b u q _ _ _=>⟨u.slots,k b u q⟩
 free:=fun b u q n _=>by rw [ar (Kn (KL (JO q) hp))]; exact n
 there:=fun b u q _=>⟨u,k b u q⟩
 tups:=fun b xs q=>by rw [ar (av q hn)]; exact q
 frzs:=fun b u xs q=>by rw [ar (av q hn)]; exact q
 tbls:=fun b ps q=>⟨#[],by rw [ar (av q hn),q]; simp⟩
theorem Un.write (mu:OY (H x)) (he:e=x∨H e=some (.own x)) (k:∀ b u,b ≠ e->h.get? b=some u->h'.get? b=some u) (heo:∃ u,h'.get? e=some u):Un fs ex H (upd H x o) h h':=by
 have hx:∀ b,H b=none->b ≠ x:=fun b n z=>by subst z; rw [n] at mu; exact mu
 have hb:∀ b,H b=none->b ≠ e:=fun b n z=>by
  subst z;rcases he with r | r
  ·exact hx b n r
  ·rw [n] at r; cases r
 have hm:∀ b u,H b=some u->¬ OY (some u)->b ≠ x:=fun b u q nm z=>by subst z; rw [q] at mu; exact nm mu
 refine ⟨fun b u q n _ _=>k b u (hb b n) q,fun b u q n _ _=>⟨u.slots,k b u (hb b n) q⟩,fun b u q n _=>by rw [ar (hx b n)]; exact n,fun b u q _=>?_,
  fun b xs q=>by rw [ar (hm b _ q fun z=>z)]; exact q,fun b u xs q=>by rw [ar (hm b _ q fun z=>z)]; exact q,fun b ps q=>⟨#[],by rw [ar (hm b _ q fun z=>z),q]; simp⟩⟩
 by_cases hbe:b=e
 ·subst hbe; exact heo
 ·exact ⟨u,k b u hbe q⟩
end
def O3 (h:Heap) (H:Hp):List Addr:=(List.range h.objs.size).filter fun a=>(H a).isSome
def lV (h:Heap) (H:Hp):Heap:=PySem.W.hideAll h (O3 h H)
theorem sP (h:Heap) (H:Hp):(lV h H).objs.size=h.objs.size:=PySem.W.hideAll_size _ _
theorem uU (e:h.get? b=some o) (n:H b=none):(lV h H).get? b=some o:=
 PySem.W.hideAll_get _ e fun hm=>by
  have q:(H b).isSome=true:=(List.mem_filter.mp hm).2;rw [n] at q; simp at q
theorem yH (e:(lV h H).get? b=some o):h.get? b=some o/\H b=none:=by
 have e':h.get? b=some o:=PySem.W.of_hideAll (O3 h H) e;refine ⟨e',?_⟩;cases q:H b with
 | none=>rfl
 | some x=>have hm:b ∈ O3 h H:=List.mem_filter.mpr ⟨List.mem_range.mpr (JO e'),by simp [q]⟩;have z:(lV h H).get? b=none:=PySem.W.hideAll_none (O3 h H) hm;rw [z] at e; cases e
def yI (g h:Heap) (L:Addr):List (Addr × Obj):=(List.range h.objs.size).filterMap fun a=>if a=L∨(g.get? a).isSome=true then none else (h.get? a).map fun o=>(a,o)
def aX (g h:Heap) (L d:Addr):List (Addr × Obj):=(yI g h L).filter fun p=>decide (p.1 ≠ d)
structure Mod (K:PySem.W.Frag) (mg:Str->Option Value) (base:Heap):Prop where
 kin:K.In base
 glob:base.Ns mainGlobals mg
 blt:∃ mb,base.Ns builtinsNs mb/\∀ x:Str,x ≠ "__name__"->mb x=bootBuiltins x
 nolimit:base.NoLimit
structure Cx where
 prog:Program
 w:World
 K:PySem.W.Frag
 mg:Str->Option Value
 base:Heap
 A:Around
 N:List Str
 s₀:Shared
 H₀:Hp
 env:Env
 outer:List Env
 stack:List Env
 ex:List Addr
 fn:Str->Bool
 calm:Bool
 pn:List (Addr × Obj)
 xe:Value->Shared->Prop
def Mj (l:List Env):List Addr:=l.filterMap (·.frame)
abbrev Cx.fs (X:Cx):List Addr:=Mj X.outer
def O6 (sc:Scope) (x:Str):Prop:=sc.names.lookup x=some .local∨sc.names.lookup x=some .cell∨sc.names.lookup x=some .free
def Loc (sc:Scope) (x:Str):Prop:=sc.names.lookup x=some .local∨sc.names.lookup x=some .cell
def Ix (env:Env) (h:Heap) (m:Str->Option Value) (x:Str) (u:Value):Prop:=
 (env.kindOf x=some .local/\m x=some u)∨((env.kindOf x=some .cell∨env.kindOf x=some .free)/\∃ c,env.cells.lookup x=some c/\h.IsCell c (some u))
structure Cx.Ok (X:Cx):Prop where
 mod:Mod X.K X.mg X.base
 kind:X.env.scope.kind=.function
 glob:X.env.globals=mainGlobals
 blt:X.env.builtins=builtinsNs
 above:X.s₀.heap.objs.size<=X.env.locals
 inj:∀ x y c,X.env.cells.lookup x=some c->X.env.cells.lookup y=some c->x=y
 has:∀ x,(X.env.kindOf x=some .cell∨X.env.kindOf x=some .free)->∃ c,X.env.cells.lookup x=some c
 cab:∀ x c,X.fn x=true->X.env.cells.lookup x=some c->X.s₀.heap.objs.size<=c
 hd:X.calm=true->X.A.handled=none
 frames:X.A.frames=some X.stack
 stk:X.stack=X.outer∨(X.stack=X.env::X.outer/\X.env.frame=some X.env.locals)
 exf:∀ b ∈ X.ex,b ≠ X.env.locals/\∀ x c,X.env.cells.lookup x=some c->c ≠ b
 bs:∀ b o,X.base.get? b=some o->X.s₀.heap.get? b=some o/\X.H₀ b=none
 bsz:X.base.objs.size<=X.s₀.heap.objs.size
 noex:∀ b o,X.base.get? b=some o->b ∉ X.ex
 exfs:∀ b ∈ X.ex,b ∉ X.fs
 K3:X.s₀.heap.FunFrames X.base X.outer
 frf:∀ b ∈ X.fs,X.H₀ b=none
structure Inv (X:Cx) (pins:List (Addr × Obj)) (σ:List (Option V)) (H:Hp) (s:Shared):Prop where
 ok:X.Ok
 os:s.os=X.s₀.os
 bare:AllBare s.gens
 base:Un X.fs X.ex X.H₀ H X.s₀.heap s.heap
 loc:∃ m,s.heap.Ns X.env.locals m/\∀ (i:Nat) (x:Str) (v:V),X.N[i]?=some x->σ[i]?=some (some v)->O6 X.env.scope x->∃ u,RelV v u/\Ix X.env s.heap m x u
 cell:∀ x c,X.env.cells.lookup x=some c->∃ v,s.heap.IsCell c v
 free:H X.env.locals=none
 freeC:∀ x c,X.env.cells.lookup x=some c->H c=none
 pin:∀ p ∈ X.pn++pins,s.heap.get? p.1=some p.2/\H p.1=none/\p.1 ≠ X.env.locals/\p.1 ∉ X.fs/\∀ v,p.2.data ≠ .cell v
 hok:Ky X.prog X.w H s.heap
 len:σ.length=X.N.length
section
variable {X:Cx} {pins:List (Addr × Obj)} {σ:List (Option V)} {H H':Hp} {s:Shared} {h':Heap}
theorem Cx.Ok.O9 (ok:X.Ok) {b:Addr} {o:Obj} (e:X.base.get? b=some o):b ∉ X.fs:=fun hb=>by
 have:=(ok.K3.mem hb).1;rw [e] at this; cases this
theorem Inv.bs (I:Inv X pins σ H s):∀ b o,X.base.get? b=some o->s.heap.get? b=some o/\H b=none:=fun b o e=>⟨I.base.keep b o (I.ok.bs b o e).1 (I.ok.bs b o e).2 (I.ok.O9 e) (I.ok.noex b o e),I.base.free b o (I.ok.bs b o e).1 (I.ok.bs b o e).2 (I.ok.noex b o e)⟩
theorem Inv.bk (I:Inv X pins σ H s):∀ b o,X.base.get? b=some o->s.heap.get? b=some o:=fun b o e=>(I.bs b o e).1
theorem Inv.mod (I:Inv X pins σ H s):Mod X.K X.mg X.base:=I.ok.mod
theorem Inv.Lr (I:Inv X pins σ H s):X.K.In s.heap:=I.ok.mod.kin.keeps I.bk
theorem Inv.lt (I:Inv X pins σ H s):X.env.locals < s.heap.objs.size:=let ⟨_,hn,_⟩:=I.loc; hn.lt
theorem Inv.sz (I:Inv X pins σ H s):X.s₀.heap.objs.size<=s.heap.objs.size:=La I.ok.above (L8 I.lt)
theorem Inv.Nm (I:Inv X pins σ H s) {a:Addr} (h:s.heap.objs.size<=a):a ∉ X.fs:=fun hb=>by
 obtain ⟨_,o,ho,_⟩:=I.ok.K3.mem hb;exact absurd (KL (JO ho) (La I.sz h)) (LL _)
theorem Inv.Od (I:Inv X pins σ H s):∀ x c,X.env.cells.lookup x=some c->c ≠ X.env.locals:=fun x c e z=>by
 obtain ⟨v,o,ho,hd⟩:=I.cell x c e;obtain ⟨m,⟨o',es,ep,ho',hd',_⟩,_⟩:=I.loc;rw [z,ho'] at ho; cases ho; rw [hd'] at hd; cases hd
theorem Inv.K3 (I:Inv X pins σ H s):s.heap.FunFrames X.base X.outer:=by
 have all:∀ (l:List Env),(∀ b ∈ Mj l,b ∈ X.fs)->X.s₀.heap.FunFrames X.base l->s.heap.FunFrames X.base l:=by
  intro l
  induction l with
  | nil=>intro _ _; trivial
  | cons env r ih=>intro hs hl;obtain ⟨hk,⟨L,o,hf,hn,ho,hd⟩,hr⟩:=hl;have hL:L ∈ X.fs:=hs L (by unfold Mj; rw [List.filterMap_cons,hf]; exact Li);obtain ⟨sl,e⟩:=I.base.slot L o ho (I.ok.frf L hL) hL fun z=>I.ok.exfs L z hL;exact ⟨hk,⟨L,_,hf,hn,e,hd⟩,ih (fun b hb=>hs b (by unfold Mj; rw [List.filterMap_cons,hf]; exact Z8 _ hb)) hr⟩
 exact all X.outer (fun _ hb=>hb) I.ok.K3
theorem Inv.stack (I:Inv X pins σ H s):s.heap.FunFrames X.base X.stack:=by
 rcases I.ok.stk with e | ⟨e,hf⟩
 ·rw [e]; exact I.K3
 ·rw [e];obtain ⟨m,hn,_⟩:=I.loc;refine .cons (by rw [I.ok.kind]; decide) hf hn ?_ I.K3;exact Heap.get?_none_of_le (La I.ok.bsz I.ok.above)
theorem Inv.KQ (I:Inv X pins σ H s):∀ b ∈ Mj X.stack,b ∈ X.env.locals::X.fs:=fun b hb=>by
 rcases I.ok.stk with e | ⟨e,hf⟩
 ·rw [e] at hb; exact Z8 _ hb
 ·rw [e] at hb;unfold Mj at hb;rw [List.filterMap_cons,hf] at hb;exact hb
theorem Inv.LU (I:Inv X pins σ H s):∀ b ∈ Mj X.stack,H b=none:=fun b hb=>by
 rcases JS.mp (I.KQ b hb) with e | hb
 ·rw [e]; exact I.free
 ·obtain ⟨_,o,ho,_⟩:=I.ok.K3.mem hb;exact I.base.free b o ho (I.ok.frf b hb) fun z=>I.ok.exfs b z hb
theorem Inv.step {g':Array GenState} {t':Nat} {d':Drawn} {ch:List Addr} (I:Inv X pins σ H s)
 (hch:∀ b ∈ ch,(b ∈ X.ex∨X.s₀.heap.objs.size<=b)/\b ≠ X.env.locals/\(∀ x c,X.env.cells.lookup x=some c->c ≠ b)/\∀ p ∈ X.pn++pins,p.1 ≠ b)
 (keep:∀ b o,b ≠ X.env.locals->b ∉ X.fs->b ∉ ch->s.heap.get? b=some o->H b=none->h'.get? b=some o)
 (slot:∀ b o,b ≠ X.env.locals->b ∈ X.fs->b ∉ ch->s.heap.get? b=some o->H b=none->∃ sl,h'.get? b=some { o with slots:=sl }) (free:∀ b o,b ∉ ch->s.heap.get? b=some o->H b=none->H' b=none)
 (there:∀ b o,b ∉ ch->s.heap.get? b=some o->∃ o',h'.get? b=some o')
 (tups:∀ b xs,H b=some (.tup xs)->H' b=some (.tup xs)) (frzs:∀ b o u,H b=some (.frz o u)->H' b=some (.frz o u)) (tbls:∀ b ps,H b=some (.tbl ps)->∃ more,H' b=some (.tbl (ps++more)))
 (ns:∀ m,s.heap.Ns X.env.locals m->h'.Ns X.env.locals m) (hok:Ky X.prog X.w H' h') (hg:AllBare g') :
 Inv X pins σ H' { s with heap:=h',gens:=g',drawn:=d',toks:=t' }:=by
 have neL:∀ b o,X.s₀.heap.get? b=some o->b ≠ X.env.locals:=fun b o e=>Kn (KL (JO e) I.ok.above);have neC:∀ b o,X.s₀.heap.get? b=some o->b ∉ X.ex->b ∉ ch:=fun b o e hx hb=>by
  rcases (hch b hb).1 with z | z
  ·exact hx z
  ·exact absurd (KL (JO e) z) (LL _)
 have cellK:∀ x c,X.env.cells.lookup x=some c->∀ v,s.heap.IsCell c v->h'.IsCell c v:=fun x c e v ⟨o,ho,hd⟩=>by
  have nch:c ∉ ch:=fun z=>(hch c z).2.2.1 x c e rfl;by_cases hc:c ∈ X.fs
  ·obtain ⟨sl,q⟩:=slot c o (I.Od x c e) hc nch ho (I.freeC x c e);exact ⟨_,q,hd⟩
  ·exact ⟨o,keep c o (I.Od x c e) hc nch ho (I.freeC x c e),hd⟩
 refine ⟨I.ok,I.os,hg,⟨fun b o e n hb hx=>?_,fun b o e n hb hx=>?_,fun b o e n hx=>?_,fun b o e hx=>?_,fun b xs e=>tups b xs (I.base.tups b xs e),fun b o xs e=>frzs b o xs (I.base.frzs b o xs e),fun b ps e=>?_⟩,?_,fun x c e=>?_,?_,fun x c e=>?_,fun p hp=>?_,hok,I.len⟩
 ·exact keep b o (neL b o e) hb (neC b o e hx) (I.base.keep b o e n hb hx) (I.base.free b o e n hx)
 ·obtain ⟨sl,e1⟩:=I.base.slot b o e n hb hx;obtain ⟨sl',e2⟩:=slot b _ (neL b o e) hb (neC b o e hx) e1 (I.base.free b o e n hx);exact ⟨sl',e2⟩
 ·obtain ⟨o',e1⟩:=I.base.there b o e hx;exact free b o' (neC b o e hx) e1 (I.base.free b o e n hx)
 ·obtain ⟨o',e1⟩:=I.base.there b o e hx;exact there b o' (neC b o e hx) e1
 ·obtain ⟨m1,e1⟩:=I.base.tbls b ps e;obtain ⟨m2,e2⟩:=tbls b _ e1;exact ⟨m1++m2,by rw [e2,Array.append_assoc]⟩
 ·obtain ⟨m,hn,hl⟩:=I.loc;refine ⟨m,ns m hn,fun i x v e1 e2 e3=>?_⟩;obtain ⟨u,r,l⟩:=hl i x v e1 e2 e3;refine ⟨u,r,?_⟩;rcases l with l | ⟨k,c,e,z⟩
  ·exact .inl l
  ·exact .inr ⟨k,c,e,cellK x c e _ z⟩
 ·obtain ⟨v,z⟩:=I.cell x c e;exact ⟨v,cellK x c e v z⟩
 ·obtain ⟨m,⟨o,_,_,ho,_⟩,_⟩:=I.loc;exact free _ o (fun z=>(hch _ z).2.1 rfl) ho I.free
 ·obtain ⟨v,o,ho,hd⟩:=I.cell x c e;exact free c o (fun z=>(hch c z).2.2.1 x c e rfl) ho (I.freeC x c e)
 ·obtain ⟨e,n,ne,nf,d⟩:=I.pin p hp;have nch:p.1 ∉ ch:=fun z=>(hch p.1 z).2.2.2 p hp rfl;exact ⟨keep p.1 p.2 ne nf nch e n,free p.1 p.2 nch e n,ne,nf,d⟩
theorem Inv.un {t':Nat} (I:Inv X pins σ H s) (u:Un X.fs [] H H' s.heap h') (hok:Ky X.prog X.w H' h'):Inv X pins σ H' { s with heap:=h',toks:=t' }:=by
 obtain ⟨m,⟨o,es,ep,ho,r⟩,_⟩:=id I.loc;obtain ⟨sl,hL⟩:=u.any ho I.free (by simp);exact I.step (g':=s.gens) (d':=s.drawn) (ch:=[]) (fun _ z=>nomatch z) (fun b o _ hb _ e n=>u.keep b o e n hb (by simp)) (fun b o _ hb _ e n=>u.slot b o e n hb (by simp)) (fun b o _ e n=>u.free b o e n (by simp)) (fun b o _ e=>u.there b o e (by simp)) u.tups u.frzs u.tbls (fun m' hm=>by
  obtain ⟨o',es',ep',ho',r'⟩:=hm;rw [ho] at ho'; cases ho';exact ⟨_,es',ep',hL,r'⟩) hok I.bare
theorem Inv.call {g':Array GenState} {t':Nat} {d':Drawn} {ch:List Addr} (I:Inv X pins σ H s) (u:Un (Mj X.stack) ch H H' s.heap h') (hok:Ky X.prog X.w H' h') (hg:AllBare g')
 (hch:∀ b ∈ ch,(b ∈ X.ex∨X.s₀.heap.objs.size<=b)/\b ≠ X.env.locals/\(∀ x c,X.env.cells.lookup x=some c->c ≠ b)/\∀ p ∈ X.pn++pins,p.1 ≠ b) :
 Inv X pins σ H' { s with heap:=h',gens:=g',drawn:=d',toks:=t' }:=by
 obtain ⟨m,⟨o,es,ep,ho,r⟩,_⟩:=id I.loc;obtain ⟨sl,hL⟩:=u.any ho I.free fun z=>(hch _ z).2.1 rfl;exact I.step (ch:=ch) hch (fun b o hL hb hc e n=>u.keep b o e n (fun z=>(JS.mp (I.KQ b z)).elim hL hb) hc) (fun b o _ _ hc e n=>u.any e n hc) (fun b o hc e n=>u.free b o e n hc) (fun b o hc e=>u.there b o e hc) u.tups u.frzs u.tbls (fun m' hm=>by
  obtain ⟨o',es',ep',ho',r'⟩:=hm;rw [ho] at ho'; cases ho';exact ⟨_,es',ep',hL,r'⟩) hok hg
theorem Inv.turned {t':Nat} {it:Addr} (I:Inv X pins σ H s) (k:∀ b o,b ≠ it->s.heap.get? b=some o->h'.get? b=some o) (hn:H it=none) (hL:it ≠ X.env.locals)
 (h1:it ∈ X.ex∨X.s₀.heap.objs.size<=it) (h2:∀ x c,X.env.cells.lookup x=some c->c ≠ it) (h3:∀ p ∈ X.pn++pins,p.1 ≠ it):Inv X pins σ H { s with heap:=h',toks:=t' }:=by
 have nit:∀ b u,H b=some u->b ≠ it:=fun b u e z=>by rw [z,hn] at e; cases e
 refine I.step (g':=s.gens) (d':=s.drawn) (ch:=[it]) (fun b hb=>?_) (fun b o _ _ hc e _=>k b o (fun z=>hc (by simp [z])) e) (fun b o _ _ hc e _=>⟨o.slots,k b o (fun z=>hc (by simp [z])) e⟩) (fun _ _ _ _ n=>n)
  (fun b o hc e=>⟨o,k b o (fun z=>hc (by simp [z])) e⟩) (fun _ _ e=>e) (fun _ _ _ e=>e) (fun b ps e=>⟨#[],by rw [e]; simp⟩) (fun m hm=>?_) (fun b u e=>?_) I.bare
 ·have e:b=it:=by simpa using hb
  subst e;exact ⟨h1,hL,h2,h3⟩
 ·obtain ⟨o,es,ep,ho,r⟩:=hm;exact ⟨o,es,ep,k _ o (YI hL) ho,r⟩
 ·refine (I.hok b u e).Jp (fun c v hc q=>k c v ?_ q) (fun _ q=>q) fun _ _ q=>q;rcases hc with z | z
  ·rw [z]; exact nit b u e
  ·exact nit c _ z
theorem Inv.tok (I:Inv X pins σ H s) (t:Nat):Inv X pins σ H { s with toks:=t }:=I.un (h':=s.heap) (t':=t) Un.refl I.hok
theorem Inv.kept {t':Nat} (I:Inv X pins σ H s) (k:∀ b u,s.heap.get? b=some u->h'.get? b=some u):Inv X pins σ H { s with heap:=h',toks:=t' }:=I.un (Un.kept k) (I.hok.kept k)
theorem Inv.laid {a:Addr} {o:HO} {t':Nat} (I:Inv X pins σ H s) (k:∀ b u,s.heap.get? b=some u->h'.get? b=some u) (hp:s.heap.objs.size<=a) (new:Jr X.prog X.w (upd H a o) h' a o) :
 Inv X pins σ (upd H a o) { s with heap:=h',toks:=t' }:=I.un (Un.laid k hp (I.hok.fresh hp)) (I.hok.laid k hp new)
theorem Inv.write {x e:Addr} {o:HO} {t':Nat} (I:Inv X pins σ H s) (mu:OY (H x)) (he:e=x∨H e=some (.own x)) (k:∀ b u,b ≠ e->s.heap.get? b=some u->h'.get? b=some u) (heo:∃ u,h'.get? e=some u)
 (new:Jr X.prog X.w (upd H x o) h' x o):Inv X pins σ (upd H x o) { s with heap:=h',toks:=t' }:=I.un (Un.write mu he k heo) (I.hok.write mu he k heo new)
theorem Inv.KG {pins':List (Addr × Obj)} (I:Inv X pins σ H s) (h:∀ p ∈ pins',s.heap.get? p.1=some p.2/\H p.1=none/\p.1 ≠ X.env.locals/\p.1 ∉ X.fs/\∀ v,p.2.data ≠ .cell v):Inv X pins' σ H s:=
 ⟨I.ok,I.os,I.bare,I.base,I.loc,I.cell,I.free,I.freeC,fun p hp=>(Kk.mp hp).elim (fun z=>I.pin p (M9 _ z)) (h p),I.hok,I.len⟩
theorem nH {N:List Str} (hN:N.Nodup) {i j:Nat} {x:Str} (a:N[i]?=some x) (b:N[j]?=some x):i=j:=by obtain ⟨h1,e1⟩:=Z9.mp a;obtain ⟨h2,e2⟩:=Z9.mp b;exact (List.getElem_inj hN).mp (e1.trans e2.symm)
theorem sQ {M:Model} {A:Around} {E:Value->Shared->Prop} {i:Nat} {x:Str} {v:V} {u:Value} {Q:Unit->Shared->Prop} (I:Inv X pins σ H s) (hN:X.N.Nodup) (hi:X.N[i]?=some x) (hx:Loc X.env.scope x) (r:RelV v u)
 (h:∀ s',Inv X pins (σ.set i (some v)) H s'->(∃ a,Heap.SameBut a s.heap s'.heap/\(a=X.env.locals∨X.env.cells.lookup x=some a))->Q () s') (hf:X.fn x=true∨X.env.scope.names.lookup x=some .local:=by first | exact .inl rfl | exact .inr rfl | assumption):wpAny M A (storeName X.env x u) Q E s:=by
 obtain ⟨m,hn,hl⟩:=id I.loc;have hcls:(X.env.scope.kind == .class || (X.env.scope.kind == .module && X.env.locals != X.env.globals))=false:=by rw [I.ok.kind]; rfl
 have hiσ:i < σ.length:=by rw [I.len]; exact (Z9.mp hi).1
 have Od:=I.Od;have tracked:∀ {a:Addr} {h':Heap},(∃ o,s.heap.get? a=some o/\H a=none)->Heap.SameBut a s.heap h'->Ky X.prog X.w H h':=fun {a h'} ha hs b ob e=>by
  obtain ⟨_,_,hfree⟩:=ha;refine (I.hok b ob e).Jp (fun c w' hc q=>(hs.2 c ?_).trans q) (fun _ q=>q) fun _ _ q=>q;rintro rfl;rcases hc with rfl | hc
  ·rw [hfree] at e; cases e
  ·rw [hfree] at hc; cases hc
 rcases hx with hk | hk
 ·refine wpAny_storeName_local hk hn (fun h' hn' hs=>?_) hcls;obtain ⟨oL,_,_,hoL,_⟩:=id hn;refine h _ ⟨I.ok,I.os,I.bare,⟨fun b o e n hb hx=>?_,fun b o e n hb hx=>?_,I.base.free,fun b o e hx=>?_,I.base.tups,I.base.frzs,I.base.tbls⟩,⟨_,hn',fun j y v' e1 e2 e3=>?_⟩,fun y c e=>?_,I.free,I.freeC,fun p hp=>?_,tracked ⟨oL,hoL,I.free⟩ hs,by simpa using I.len⟩ ⟨_,hs,.inl rfl⟩
  ·exact (hs.2 b (Kn (KL (JO e) I.ok.above))).trans (I.base.keep b o e n hb hx)
  ·obtain ⟨sl,e1⟩:=I.base.slot b o e n hb hx;exact ⟨sl,(hs.2 b (Kn (KL (JO e) I.ok.above))).trans e1⟩
  ·obtain ⟨o',e1⟩:=I.base.there b o e hx;exact ⟨o',(hs.2 b (Kn (KL (JO e) I.ok.above))).trans e1⟩
  ·by_cases hj:j=i
   ·subst hj;rw [hi] at e1; cases e1;rw [Yu hiσ] at e2;cases e2;exact ⟨u,r,.inl ⟨hk,by simp⟩⟩
   ·rw [Yp (YI hj)] at e2;obtain ⟨u',r',q⟩:=hl j y v' e1 e2 e3;refine ⟨u',r',?_⟩;rcases q with ⟨k,e⟩ | ⟨k,c,e,z⟩
    ·refine .inl ⟨k,?_⟩;have:y ≠ x:=fun e=>hj (nH hN e1 (e ▸ hi));simp [this,e]
    ·exact .inr ⟨k,c,e,z.sameBut hs (Od y c e)⟩
  ·obtain ⟨w',z⟩:=I.cell y c e;exact ⟨w',z.sameBut hs (Od y c e)⟩
  ·obtain ⟨e,n,ne,nf,d⟩:=I.pin p hp;exact ⟨(hs.2 p.1 ne).trans e,n,ne,nf,d⟩
 ·have hfn:X.fn x=true:=by
   rcases hf with z | z
   ·exact z
   ·rw [z] at hk; cases hk
  obtain ⟨c,hc⟩:=I.ok.has x (.inl hk);obtain ⟨w',z⟩:=I.cell x c hc;refine wpAny_storeName_cell I.ok.kind hk hc z (fun h' hc' hs=>?_);obtain ⟨oc,hoc,hocd⟩:=id z;refine h { s with heap:=h' } ⟨I.ok,I.os,I.bare,⟨fun b o e n hb hx=>?_,fun b o e n hb hx=>?_,I.base.free,fun b o e hx=>?_,I.base.tups,I.base.frzs,I.base.tbls⟩,⟨m,hn.sameBut hs (YI (Od x c hc)),fun j y v' e1 e2 e3=>?_⟩,fun y c' e=>?_,I.free,I.freeC,fun p hp=>?_,tracked ⟨oc,hoc,I.freeC x c hc⟩ hs,by simpa using I.len⟩ ⟨c,hs,.inr hc⟩
  ·exact (hs.2 b (Kn (KL (JO e) (I.ok.cab x c hfn hc)))).trans (I.base.keep b o e n hb hx)
  ·obtain ⟨sl,e1⟩:=I.base.slot b o e n hb hx;exact ⟨sl,(hs.2 b (Kn (KL (JO e) (I.ok.cab x c hfn hc)))).trans e1⟩
  ·obtain ⟨o',e1⟩:=I.base.there b o e hx;exact ⟨o',(hs.2 b (Kn (KL (JO e) (I.ok.cab x c hfn hc)))).trans e1⟩
  ·by_cases hj:j=i
   ·subst hj;rw [hi] at e1; cases e1;rw [Yu hiσ] at e2;cases e2;exact ⟨u,r,.inr ⟨.inl hk,c,hc,hc'⟩⟩
   ·rw [Yp (YI hj)] at e2;obtain ⟨u',r',q⟩:=hl j y v' e1 e2 e3;refine ⟨u',r',?_⟩;rcases q with q | ⟨k,c',e,z'⟩
    ·exact .inl q
    ·refine .inr ⟨k,c',e,z'.sameBut hs ?_⟩;rintro rfl;exact hj (nH hN e1 (I.ok.inj _ _ _ e hc ▸ hi))
  ·by_cases hcc:c'=c
   ·subst hcc; exact ⟨_,hc'⟩
   ·obtain ⟨w2,z2⟩:=I.cell y c' e;exact ⟨w2,z2.sameBut hs hcc⟩
  ·obtain ⟨e,n,ne,nf,d⟩:=I.pin p hp;refine ⟨(hs.2 p.1 ?_).trans e,n,ne,nf,d⟩;intro q;rw [q,hoc] at e;have q':oc=p.2:=KZ e;exact d w' (by rw [<- q']; exact hocd)
theorem cS {M:Model} {A:Around} {E:Value->Shared->Prop} {i:Nat} {x:Str} {v:V} {u:Value} {Q:Unit->Shared->Prop} (I:Inv X pins σ H s) (hN:X.N.Nodup) (hi:X.N[i]?=some x) (hx:Loc X.env.scope x) (r:RelV v u)
 (h:∀ s',Inv X pins (σ.set i (some v)) H s'->Q () s') (hf:X.fn x=true∨X.env.scope.names.lookup x=some .local:=by first | exact .inl rfl | exact .inr rfl | assumption):wpAny M A (storeName X.env x u) Q E s:=
 sQ I hN hi hx r (fun s' I' _=>h s' I') hf
theorem Inv.OD {s':Shared} {ch:List Addr} (I:Inv X pins σ H s) (ho:s'.os=s.os) (u:Un (Mj X.stack) ch H H' s.heap s'.heap) (hok:Ky X.prog X.w H' s'.heap) (hg:AllBare s'.gens)
 (hch:∀ b ∈ ch,(b ∈ X.ex∨X.s₀.heap.objs.size<=b)/\b ≠ X.env.locals/\(∀ x c,X.env.cells.lookup x=some c->c ≠ b)/\∀ p ∈ X.pn++pins,p.1 ≠ b):Inv X pins σ H' s':=by
 obtain ⟨h',g',d',t',o'⟩:=s';have e:o'=s.os:=ho;subst e;exact I.call (g':=g') (t':=t') (d':=d') u hok hg hch
end
abbrev XK:=Value->Option Addr->Hp->Prop
abbrev St:=List (Option V)
abbrev VK:=V->Hp->Prop
abbrev TE:=St->Hp->VK->Prop
abbrev TT:=St->Hp->(Bool->Hp->Prop)->Prop
abbrev TA:=St->Hp->(List V->Hp->Prop)->Prop
structure Ends where
 nx:St->Hp->Prop
 rt:VK
 bk:St->Hp->Prop:=fun _ _=>False
 ct:St->Hp->Prop:=fun _ _=>False
abbrev TS:=Ends->St->Hp->Prop
inductive EP (X:Cx) (pins:List (Addr × Obj)) (σ:St) (Q:VK) (u:Value) (s':Shared):Prop
 | mk (v:V) (H':Hp) (I:Inv X pins σ H' s') (r:RelV v u) (q:Q v H'):EP X pins σ Q u s'
inductive TP (X:Cx) (pins:List (Addr × Obj)) (σ:St) (Q:Bool->Hp->Prop) (b:Bool) (s':Shared):Prop
 | mk (H':Hp) (I:Inv X pins σ H' s') (q:Q b H'):TP X pins σ Q b s'
inductive AP (X:Cx) (pins:List (Addr × Obj)) (σ:St) (Q:List V->Hp->Prop) (us:List Value) (s':Shared):Prop
 | mk (vs:List V) (H':Hp) (I:Inv X pins σ H' s') (r:Vals vs us) (q:Q vs H'):AP X pins σ Q us s'
inductive GP (X:Cx) (pins:List (Addr × Obj)) (Q:St->Hp->Prop) (s':Shared):Prop
 | mk (σ':St) (H':Hp) (I:Inv X pins σ' H' s') (q:Q σ' H'):GP X pins Q s'
inductive RP (X:Cx) (pins:List (Addr × Obj)) (Q:V->Hp->Prop) (u:Value) (s':Shared):Prop
 | mk (v:V) (σ':St) (H':Hp) (I:Inv X pins σ' H' s') (r:RelV v u) (q:Q v H'):RP X pins Q u s'
inductive HP (X:Cx) (pins:List (Addr × Obj)) (σ:St) (Q:Hp->Prop) (s':Shared):Prop
 | mk (H':Hp) (I:Inv X pins σ H' s') (q:Q H'):HP X pins σ Q s'
def SP (X:Cx) (pins:List (Addr × Obj)) (D:Ends) (f:Flow) (s':Shared):Prop:=
 match f with
 | .next=>GP X pins D.nx s'
 | .brk=>GP X pins D.bk s'
 | .cont=>GP X pins D.ct s'
 | .ret u=>RP X pins D.rt u s'
def PE (X:Cx) (e:Expr) (t:TE):Prop:=
 ∀ (pins:List (Addr × Obj)) (s:Shared) (σ:St) (H:Hp) (Q:VK),Inv X pins σ H s->t σ H Q->wpAny (model X.prog X.w) X.A (eval e X.env) (EP X pins σ Q) X.xe s
def PT (X:Cx) (e:Expr) (t:TT):Prop:=
 ∀ (pins:List (Addr × Obj)) (s:Shared) (σ:St) (H:Hp) (Q:Bool->Hp->Prop),Inv X pins σ H s->t σ H Q->wpAny (model X.prog X.w) X.A (isTrue e X.env (eval e X.env)) (TP X pins σ Q) X.xe s
def PW (X:Cx) (e:Expr) (t:TT):Prop:=
 ∀ (whole:Sem Value) (pins:List (Addr × Obj)) (s:Shared) (σ:St) (H:Hp) (Q:Bool->Hp->Prop),Inv X pins σ H s->t σ H Q->wpAny (model X.prog X.w) X.A (isTrue e X.env whole) (TP X pins σ Q) X.xe s
theorem PW.pt {X:Cx} {e:Expr} {t:TT} (h:PW X e t):PT X e t:=h _
def PA (X:Cx) (es:List Expr) (t:TA):Prop:=
 ∀ (pos:Pos) (pins:List (Addr × Obj)) (s:Shared) (σ:St) (H:Hp) (Q:List V->Hp->Prop),Inv X pins σ H s->t σ H Q->wpAny (model X.prog X.w) X.A (spliced (backTo pos (starEach es X.env))) (AP X pins σ Q) X.xe s
def PS (X:Cx) (st:Stmt) (t:TS):Prop:=
 ∀ (pins:List (Addr × Obj)) (s:Shared) (σ:St) (H:Hp) (D:Ends),Inv X pins σ H s->t D σ H->wpAny (model X.prog X.w) X.A (exec st X.env) (SP X pins D) X.xe s
def K2 (X:Cx) (st:List Stmt) (t:TS):Prop:=
 ∀ (pins:List (Addr × Obj)) (s:Shared) (σ:St) (H:Hp) (D:Ends),Inv X pins σ H s->t D σ H->wpAny (model X.prog X.w) X.A (execs st X.env) (SP X pins D) X.xe s
theorem Jw {α:Type} {t:Sem α} {Q Q':α->Shared->Prop} {M:Model} {A:Around} {E:Value->Shared->Prop} {s:Shared} (h:wpAny M A t Q E s) (hQ:∀ a s,Q a s->Q' a s):wpAny M A t Q' E s:=wpAny_mono h hQ fun _ _ x=>x
section
variable {X:Cx}
def aS (i:Nat):TE:=fun σ H Q=>∃ v,σ[i]?=some (some v)/\Q v H
def tC (v:V):TE:=fun _ H Q=>Q v H
theorem CK {i:Nat} {x:Str} {pos:Pos} (hN:X.N[i]?=some x) (hv:O6 X.env.scope x) (hd:(x == ("__debug__":Str))=false:=by decide) (hcd:(x == ("__classdict__":Str))=false:=by decide):PE X (.Name x pos) (aS i):=by
 intro pins s σ H Q I h;obtain ⟨v,e,h⟩:=h;obtain ⟨m,hn,hl⟩:=I.loc;obtain ⟨u,r,l⟩:=hl i x v hN e hv;have fin:EP X pins σ Q u s:=⟨v,H,I,r,h⟩;rcases l with ⟨hk,hm⟩ | ⟨hk,c,hc,hcell⟩
 ·exact wpAny_Name (wpAny_loadName_local I.ok.kind hk hn hm fin) hd
 ·rcases hk with hk | hk
  ·exact wpAny_Name (wpAny_loadName_cell I.ok.kind hk hc hcell fin) hd
  ·exact wpAny_Name (wpAny_loadName_free I.ok.kind hk hc hcell fin hcd) hd
theorem CN {i j pos}:PE X (.Constant (.int i) j pos) (tC (.int i)):=fun _ _ _ H _ I h=>wpAny_Constant_int ⟨.int i,H,I.tok _,⟨_,rfl⟩,h⟩
theorem FZ {b j pos}:PE X (.Constant (.bool b) j pos) (tC (.bl b)):=fun _ _ _ H _ I h=>Constant_bool ⟨.bl b,H,I,rfl,h⟩
theorem CO {j pos}:PE X (.Constant .none j pos) (tC .non):=fun _ _ _ H _ I h=>Constant_none ⟨.non,H,I,rfl,h⟩
theorem CP {x j pos}:PE X (.Constant (.str x) j pos) (tC (.str x)):=fun _ _ _ H _ I h=>Calls.Constant_str ⟨.str x,H,I.tok _,⟨_,rfl⟩,h⟩
def Gl (X:Cx) (x:Str):Prop:=X.env.kindOf x=some .globalImplicit
theorem qR {E:Value->Shared->Prop} {pins:List (Addr × Obj)} {s:Shared} {σ:St} {H:Hp} {x:Str} {u:Value} {pos:Pos} {Q:Value->Shared->Prop} (I:Inv X pins σ H s) (hg:Gl X x) (hm:X.mg x=some u) (h:Q u s)
 (hd:(x == ("__debug__":Str))=false:=by decide):wpAny (model X.prog X.w) X.A (eval (.Name x pos) X.env) Q E s:=
 Calls.Name_function_global I.ok.kind hg (Calls.loadGlobal_global (by rw [I.ok.glob]; exact I.mod.glob.keeps I.bk) hm h) hd
theorem cM {E:Value->Shared->Prop} {pins:List (Addr × Obj)} {s:Shared} {σ:St} {H:Hp} {x:Str} {u:Value} {pos:Pos} {Q:Value->Shared->Prop} (I:Inv X pins σ H s) (hg:Gl X x) (hm:X.mg x=none) (hv:bootBuiltins x=some u) (h:Q u s)
 (hn:x ≠ "__name__":=by decide) (hd:(x == ("__debug__":Str))=false:=by decide):wpAny (model X.prog X.w) X.A (eval (.Name x pos) X.env) Q E s:=by
 obtain ⟨mb,h1,h2⟩:=I.mod.blt;exact Calls.Name_function_global I.ok.kind hg (Calls.loadGlobal_builtin (by rw [I.ok.glob]; exact I.mod.glob.keeps I.bk) hm (by rw [I.ok.blt]; exact h1.keeps I.bk) ((h2 x hn).trans hv) h) hd
theorem iM {x:Str} {v:V} {u:Value} {pos:Pos} (hg:Gl X x) (hm:X.mg x=some u) (r:RelV v u) (hd:(x == ("__debug__":Str))=false:=by decide):PE X (.Name x pos) (tC v):=
 fun _ _ _ H _ I h=>qR I hg hm ⟨v,H,I,r,h⟩ hd
theorem fL {x:Str} {v:V} {u:Value} {pos:Pos} (hg:Gl X x) (hm:X.mg x=none) (hv:bootBuiltins x=some u) (r:RelV v u) (hn:x ≠ "__name__":=by decide) (hd:(x == ("__debug__":Str))=false:=by decide):PE X (.Name x pos) (tC v):=
 fun _ _ _ H _ I h=>cM I hg hm hv ⟨v,H,I,r,h⟩ hn hd
variable {a b:Expr} {ta tb:TE} {pos:Pos}
def tB (t:TE):TT:=fun σ H Q=>t σ H fun x H1=>∃ c,x=.bl c/\Q c H1
variable {tA tB':TT} {aX:List Expr}
def F0 (t u:TT):TT:=fun σ H Q=>t σ H fun c H1=>if c=true then u σ H1 Q else Q false H1
def tOr (t u:TT):TT:=fun σ H Q=>t σ H fun c H1=>if c=true then Q true H1 else u σ H1 Q
def F1 (t:TT):TT:=fun σ H Q=>t σ H fun c H1=>Q (!c) H1
theorem yJ (ha:PT X a tA):PW X (.BoolOp .And [a] pos) tA:=by
 intro wh pins s σ H Q I h;refine isTrue_and (Jw (ha pins s σ H Q I h) fun c s1 e=>?_);cases c with
 | true=>exact isTrue_and_nil e
 | false=>exact e
theorem CQ (ha:PT X a tA):PW X (.BoolOp .Or [a] pos) tA:=by
 intro wh pins s σ H Q I h;refine isTrue_or (Jw (ha pins s σ H Q I h) fun c s1 e=>?_);cases c with
 | false=>exact isTrue_or_nil e
 | true=>exact e
theorem CS (ha:PT X a tA) (hb:PW X (.BoolOp .And (b::aX) pos) tB'):PW X (.BoolOp .And (a::b::aX) pos) (F0 tA tB'):=by
 intro wh pins s σ H Q I h;refine isTrue_and (Jw (ha pins s σ H _ I h) fun c s1 ⟨H1,I1,q1⟩=>?_);cases c with
 | true=>exact hb wh pins s1 σ H1 Q I1 q1
 | false=>exact ⟨H1,I1,q1⟩
theorem F2 (ha:PT X a tA) (hb:PW X (.BoolOp .Or (b::aX) pos) tB'):PW X (.BoolOp .Or (a::b::aX) pos) (tOr tA tB'):=by
 intro wh pins s σ H Q I h;refine isTrue_or (Jw (ha pins s σ H _ I h) fun c s1 ⟨H1,I1,q1⟩=>?_);cases c with
 | true=>exact ⟨H1,I1,q1⟩
 | false=>exact hb wh pins s1 σ H1 Q I1 q1
theorem CT (ha:PT X a tA):PT X (.UnaryOp .Not a pos) (F1 tA):=by intro pins s σ H Q I h;exact isTrue_not (Jw (ha pins s σ H (fun c H1=>Q (!c) H1) I h) fun _ _ ⟨H1,I1,q1⟩=>⟨H1,I1,q1⟩)
def BT (ta tb:TE):TE:=fun σ H Q=>ta σ H fun x H1=>∃ c,x=.bl c/\if c=true then tb σ H1 Q else Q (.bl false) H1
def F3 (ta tb:TE):TE:=fun σ H Q=>ta σ H fun x H1=>∃ c,x=.bl c/\if c=true then Q (.bl true) H1 else tb σ H1 Q
def BU (ta:TE):TE:=fun σ H Q=>ta σ H fun x H1=>∃ c,x=.bl c/\Q (.bl (!c)) H1
theorem CU {op} {t:TE} (h:PE X a t):PE X (.BoolOp op [a] pos) t:=fun pins s σ H Q I hw=>BoolOp_one (h pins s σ H Q I hw)
theorem CV (ha:PE X a ta) (hb:PE X (.BoolOp .And (b::aX) pos) tb):PE X (.BoolOp .And (a::b::aX) pos) (BT ta tb):=by
 intro pins s σ H Q I h;refine BoolOp_and (Jw (ha pins s σ H _ I h) fun v s1 ⟨x,H1,I1,r1,q1⟩=>?_);obtain ⟨c,rfl,q1⟩:=q1;cases r1;refine Ya ?_;cases c with
 | true=>exact hb pins s1 σ H1 Q I1 q1
 | false=>exact ⟨.bl false,H1,I1,rfl,q1⟩
theorem F4 (ha:PE X a ta) (hb:PE X (.BoolOp .Or (b::aX) pos) tb):PE X (.BoolOp .Or (a::b::aX) pos) (F3 ta tb):=by
 intro pins s σ H Q I h;refine BoolOp_or (Jw (ha pins s σ H _ I h) fun v s1 ⟨x,H1,I1,r1,q1⟩=>?_);obtain ⟨c,rfl,q1⟩:=q1;cases r1;refine Ya ?_;cases c with
 | false=>exact hb pins s1 σ H1 Q I1 q1
 | true=>exact ⟨.bl true,H1,I1,rfl,q1⟩
theorem CW (ha:PE X a ta):PE X (.UnaryOp .Not a pos) (BU ta):=by intro pins s σ H Q I h;refine UnaryOp_ (Jw (ha pins s σ H _ I h) fun v s1 ⟨x,H1,I1,r1,q1⟩=>?_);obtain ⟨c,rfl,q1⟩:=q1;cases r1;exact not_of (Ya ⟨.bl (!c),H1,I1,rfl,q1⟩)
def tIf (t:TT) (ta tb:TE):TE:=fun σ H Q=>t σ H fun c H1=>if c=true then ta σ H1 Q else tb σ H1 Q
theorem uV {c:Expr} (hc:PT X c tA) (ha:PE X a ta) (hb:PE X b tb):PE X (.IfExp c a b pos) (tIf tA ta tb):=by
 intro pins s σ H Q I h;refine wpAny_IfExp (Jw (hc pins s σ H _ I h) fun d s1 ⟨H1,I1,q1⟩=>?_);cases d with
 | true=>exact ha pins s1 σ H1 Q I1 q1
 | false=>exact hb pins s1 σ H1 Q I1 q1
end
def J0 (K:PySem.W.Frag) (H:Hp) (a:Addr) (xs:List V):Prop:=
 Rd H a (.lst xs) ∨
  ∃ (o:Obj) (its:Array Value) (n:Nat),K.lookup a=some o/\o.cls=.type "list"/\o.dict=none/\o.data=.seq its n/\its.size<=sizeLine/\Vals xs its.toList
def JW (K:PySem.W.Frag) (H:Hp) (a:Addr) (xs:List V):Prop:=H a=some (.tup xs)
def Iy:Value->Option V
 | .none=>some .non
 | .bool b=>some (.bl b)
 | .int i _=>some (.int i)
 | .str x _=>some (.str x)
 | .bytes b _=>some (.byt b)
 | .float b _=>some (.flt b)
 | .ref a=>some (.ref a)
 | .type n=>some (.ty n)
 | _=>none
theorem RelV.abs {x:V} {u:Value} (r:RelV x u):Iy u=some x:=by
 cases x with
 | int _=>obtain ⟨t,rfl⟩:=r; rfl
 | str _=>obtain ⟨t,rfl⟩:=r; rfl
 | byt _=>obtain ⟨t,rfl⟩:=r; rfl
 | flt _=>obtain ⟨t,rfl⟩:=r; rfl
 | _=>cases r; rfl
theorem RelV.inj {x y:V} {u:Value} (r:RelV x u) (q:RelV y u):x=y:=KZ (r.abs.symm.trans q.abs)
theorem Vals.inj:∀ {xs ys:List V} {us:List Value},Vals xs us->Vals ys us->xs=ys:=by
 intro xs ys us h
 induction h generalizing ys with
 | nil=>intro g; cases g; rfl
 | cons r _ ih=>intro g; cases g with | cons r' t'=>rw [r.inj r',ih t']
section
variable {X:Cx} {pins:List (Addr × Obj)} {σ:St} {H:Hp} {s:Shared} {a:Addr} {xs ys:List V}
theorem Inv.list (I:Inv X pins σ H s) (h:J0 X.K H a xs):∃ its:List Value,Vals xs its/\PlainL s.heap a its.toArray/\xs.length<=sizeLine:=by
 rcases h with h | ⟨o,its,n,hk,hc,hd,hs,hz,r⟩
 ·obtain ⟨z,its,n,r,e⟩:=h.ok I.hok;exact ⟨its,r,⟨_,n,e,rfl,rfl,rfl⟩,z⟩
 ·refine ⟨its.toList,r,⟨o,n,I.Lr a o hk,hc,hd,by simpa using hs⟩,?_⟩;have e:=r.length;simp only [Array.length_toList] at e;omega
theorem Inv.tuple (I:Inv X pins σ H s) (h:JW X.K H a xs):∃ its:List Value,Vals xs its/\IsTup s.heap a its.toArray/\xs.length<=sizeLine:=by obtain ⟨z,its,r,p⟩:=I.hok a _ h;exact ⟨its,r,p,z⟩
theorem Inv.KC (I:Inv X pins σ H s) (h:J0 X.K H a xs) (h':J0 X.K H a ys):xs=ys:=by
 obtain ⟨its,r,⟨o,n,e,_,_,d⟩,_⟩:=I.list h;obtain ⟨its',r',⟨o',n',e',_,_,d'⟩,_⟩:=I.list h';rw [e] at e'; cases e';rw [d] at d';injection d' with d1 _;have:its=its':=by simpa using Y9 Array.toList d1
 subst this;exact r.inj r'
theorem Inv.KO (I:Inv X pins σ H s) (h:JW X.K H a xs) (h':JW X.K H a ys):xs=ys:=by
 obtain ⟨its,r,⟨o,e,_,n,d⟩,_⟩:=I.tuple h;obtain ⟨its',r',⟨o',e',_,n',d'⟩,_⟩:=I.tuple h';rw [e] at e'; cases e';rw [d] at d';injection d' with d1 _;have:its=its':=by simpa using Y9 Array.toList d1
 subst this;exact r.inj r'
end
abbrev Cx.K8 (X:Cx) (E:Value->Shared->Prop):Cx:={ X with xe:=E }
abbrev Cx.Nl (X:Cx):Cx:=X.K8 fun _ _=>False
theorem Cx.Ok.K8 {X:Cx} (ok:X.Ok) (E:Value->Shared->Prop):(X.K8 E).Ok:=
 ⟨ok.mod,ok.kind,ok.glob,ok.blt,ok.above,ok.inj,ok.has,ok.cab,ok.hd,ok.frames,ok.stk,ok.exf,ok.bs,ok.bsz,ok.noex,ok.exfs,ok.K3,ok.frf⟩
theorem Cx.Ok.KN {X:Cx} {E:Value->Shared->Prop} (ok:(X.K8 E).Ok):X.Ok:=
 ⟨ok.mod,ok.kind,ok.glob,ok.blt,ok.above,ok.inj,ok.has,ok.cab,ok.hd,ok.frames,ok.stk,ok.exf,ok.bs,ok.bsz,ok.noex,ok.exfs,ok.K3,ok.frf⟩
section
variable {X:Cx} {pins:List (Addr × Obj)} {σ:St} {H:Hp} {s:Shared} {E:Value->Shared->Prop}
theorem Inv.K8 (I:Inv X pins σ H s) (E:Value->Shared->Prop):Inv (X.K8 E) pins σ H s:=⟨I.ok.K8 E,I.os,I.bare,I.base,I.loc,I.cell,I.free,I.freeC,I.pin,I.hok,I.len⟩
theorem Inv.KN (I:Inv (X.K8 E) pins σ H s):Inv X pins σ H s:=⟨I.ok.KN,I.os,I.bare,I.base,I.loc,I.cell,I.free,I.freeC,I.pin,I.hok,I.len⟩
theorem SP.KN (h:SP (X.K8 E) pins D f s'):SP X pins D f s':=by
 cases f with
 | ret u=>obtain ⟨v,σ',H',I,r,q⟩:=h; exact ⟨v,σ',H',I.KN,r,q⟩
 | _=>obtain ⟨σ',H',I,q⟩:=h; exact ⟨σ',H',I.KN,q⟩
theorem K2.Nl {st:List Stmt} {t:TS} (h:K2 X.Nl st t):K2 X st t:=fun pins s σ H D I hw=>wpAny_mono (h pins s σ H D (I.K8 _) hw) (fun _ _ q=>q.KN) fun _ _ z=>False.elim z
end
section
variable {X:Cx} {st:Stmt} {aX:List Stmt} {t u:TS} {e:Expr} {te:TE} {pos:Pos}
def BV:TS:=fun D σ H=>D.nx σ H
def gD (t u:TS):TS:=fun D σ H=>t { D with nx:=u D } σ H
theorem yK:K2 X [] BV:=fun _ _ σ H _ I h=>wpAny_execs_nil ⟨σ,H,I,h⟩
theorem uW (h1:PS X st t) (h2:K2 X aX u):K2 X (st::aX) (gD t u):=by
 intro pins s σ H D I h;refine wpAny_execs_cons (Jw (h1 pins s σ H { D with nx:=u D } I h) fun f s1 q=>?_);cases f with
 | next=>obtain ⟨σ',H',I',q⟩:=q;exact h2 pins s1 σ' H' D I' q
 | _=>exact q
theorem yL (h1:PS X st t):K2 X [st] t:=by
 intro pins s σ H D I h;refine wpAny_execs_cons (Jw (h1 pins s σ H D I h) fun f s1 q=>?_);cases f with
 | next=>exact wpAny_execs_nil q
 | _=>exact q
theorem Inv.quiet {pins:List (Addr × Obj)} {σ:St} {H:Hp} {s:Shared} (I:Inv X pins σ H s):interactive X.env=false:=by simp [interactive,I.ok.kind]
def iZ (te:TE):TS:=fun D σ H=>te σ H fun _ H1=>D.nx σ H1
theorem iN (he:PE X e te) (hs:swapsWith e none pos.line X.env=pure false:=by rfl):PS X (.Expr e pos) (iZ te):=by intro pins s σ H D I h;exact wpAny_Expr_any (Jw (he pins s σ H _ I h) fun v s1 ⟨x,H1,I1,r1,q1⟩=>⟨σ,H1,I1,q1⟩) I.quiet hs
def nI (te:TE):TS:=fun D σ H=>te σ H D.rt
theorem CY (he:PE X e te):PS X (.Return (some e) pos) (nI te):=by intro pins s σ H D I h;exact wpAny_Return_some (Jw (he pins s σ H _ I h) fun v s1 ⟨x,H1,I1,r1,q1⟩=>⟨x,σ,H1,I1,r1,q1⟩)
def uX (c:TT) (t u:TS):TS:=fun D σ H=>c σ H fun b H1=>if b=true then t D σ H1 else u D σ H1
theorem F5 {c:Expr} {a b:List Stmt} {tc:TT} (hc:PT X c tc) (ha:K2 X a t) (hb:K2 X b u):PS X (.If c a b pos) (uX tc t u):=by
 intro pins s σ H D I h;refine wpAny_If (Jw (hc pins s σ H _ I h) fun d s1 ⟨H1,I1,q1⟩=>?_);cases d with
 | true=>exact ha pins s1 σ H1 D I1 q1
 | false=>exact hb pins s1 σ H1 D I1 q1
end
abbrev TG:=V->St->Hp->(St->Hp->Prop)->Prop
abbrev NG:=List V->St->Hp->(St->Hp->Prop)->Prop
def PG (X:Cx) (target:Expr) (t:TG):Prop:=
 ∀ (pins:List (Addr × Obj)) (s:Shared) (σ:St) (H:Hp) (v:V) (u:Value) (Q:St->Hp->Prop),Inv X pins σ H s->RelV v u->t v σ H Q ->
  wpAny (model X.prog X.w) X.A (assign target X.env u) (fun _ s'=>GP X pins Q s') X.xe s
def Nc (X:Cx) (ts:List Expr) (t:NG):Prop:=
 ∀ (pins:List (Addr × Obj)) (s:Shared) (σ:St) (H:Hp) (vs:List V) (us:List Value) (Q:St->Hp->Prop),Inv X pins σ H s->Vals vs us->t vs σ H Q ->
  wpAny (model X.prog X.w) X.A (assignInOrder ((assignEach ts X.env).map (·.2)) us) (fun _ s'=>GP X pins Q s') X.xe s
abbrev CZ:=V->V->V->Hp->(Hp->Prop)->Prop
def yM (X:Cx) (t:CZ):Prop:=
 ∀ (pins:List (Addr × Obj)) (s:Shared) (σ:St) (H:Hp) (o i v:V) (ov iv u:Value) (Q:Hp->Prop),Inv X pins σ H s->RelV o ov->RelV i iv->RelV v u->t o i v H Q ->
  wpAny (model X.prog X.w) X.A (setItem ov iv u) (fun _ s'=>HP X pins σ Q s') X.xe s
abbrev O0:=V->V->Hp->VK->Prop
def PIp (X:Cx) (op:Operator) (t:O0):Prop:=
 ∀ (pins:List (Addr × Obj)) (s:Shared) (σ:St) (H:Hp) (x y:V) (v u:Value) (Q:VK),Inv X pins σ H s->RelV x v->RelV y u->t x y H Q ->
  wpAny (model X.prog X.w) X.A (inplaceOp op v u) (EP X pins σ Q) X.xe s
section
variable {X:Cx} {pos:Pos}
def dE (i:Nat):TG:=fun v σ H Q=>Q (σ.set i (some v)) H
theorem iO {i:Nat} {x:Str} (hN:X.N.Nodup) (hi:X.N[i]?=some x) (hx:Loc X.env.scope x) (hf:X.fn x=true∨X.env.scope.names.lookup x=some .local:=by first | exact .inl rfl | exact .inr rfl | assumption):PG X (.Name x pos) (dE i):=by intro pins s σ H v u Q I r h;exact wpAny_assign_Name (cS I hN hi hx r (fun s' I'=>⟨_,H,I',h⟩) hf)
def yN:NG:=fun vs σ H Q=>vs=[]/\Q σ H
def qS (t:TG) (u:NG):NG:=fun vs σ H Q=>∃ v r,vs=v::r/\t v σ H fun σ' H'=>u r σ' H' Q
theorem qT:Nc X [] yN:=by intro pins s σ H vs us Q I r h;obtain ⟨e,h⟩:=h;subst e;cases r;exact assignInOrder_nil ⟨σ,H,I,h⟩
theorem nJ {e:Expr} {es:List Expr} {t:TG} {u:NG} (h1:PG X e t) (h2:Nc X es u)
 (hs:(assignEach (e::es) X.env).map (·.2)=assign e X.env::(assignEach es X.env).map (·.2):=by rfl):Nc X (e::es) (qS t u):=by
 intro pins s σ H vs us Q I r h;obtain ⟨v,vr,e1,h⟩:=h;subst e1;cases r with
 | cons r rr=>rw [hs];refine assignInOrder_cons (Jw (h1 pins s σ H _ _ _ I r h) fun _ s1 ⟨σ1,H1,I1,q1⟩=>?_);exact h2 pins s1 σ1 H1 _ _ Q I1 rr q1
def pj (K:PySem.W.Frag) (n:Nat) (t:NG):TG:=fun v σ H Q=>∃ a xs,v=.ref a/\JW K H a xs/\xs.length=n/\t xs σ H Q
theorem C0 {es:List Expr} {k:Nat} {t:NG} {n:Nat} (hc:X.calm=true) (h:Nc X es t)
 (hn:(assignEach es X.env).length=n:=by rfl) (hst:(assignEach es X.env).findIdx? (·.1)=none:=by rfl):PG X (.Tuple es k pos) (pj X.K n t):=by
 intro pins s σ H v u Q I r hw;obtain ⟨a,xs,e1,hq,hl,hw⟩:=hw;subst e1;cases r;obtain ⟨its,rv,ht,hz⟩:=I.tuple hq;refine assign_Tuple_tuple (I.ok.hd hc) ht (by simp [hn,<- hl,rv.length]) hst fun h' hx=>?_;have I1:Inv X pins σ H { s with heap:=h' }:=I.kept (t':=s.toks) fun b o e=>hx b o (Kn (JO e)) e;exact h pins _ σ H xs _ Q I1 (by simpa using rv) hw
def lW (to ti:TE) (t:CZ):TG:=fun v σ H Q=>to σ H fun o H1=>ti σ H1 fun i H2=>t o i v H2 fun H3=>Q σ H3
theorem C1 {o i:Expr} {to ti:TE} {t:CZ} (ho:PE X o to) (hi:PE X i ti) (hs:yM X t)
 (ha:∀ v,assign (.Subscript o i pos) X.env v=(do
  let ov <- holding [v] (eval o X.env)
  let iv <- holding [v,ov] (eval i X.env)
  standAt pos
  holding [v,ov,iv] (setItem ov iv v)
  release [v,ov,iv] []):=by intro _; rfl):PG X (.Subscript o i pos) (lW to ti t):=by
 intro pins s σ H v u Q I r h;rw [ha];refine Jk (Yh (Jw (ho pins s σ H _ I h) fun ov s1 ⟨x,H1,I1,r1,q1⟩=>?_));refine Jk (Yh (Jw (hi pins s1 σ H1 _ I1 q1) fun iv s2 ⟨y,H2,I2,r2,q2⟩=>?_));refine Jk (wpAny_standAt (Jk (Yh (Jw (hs pins s2 σ H2 x y v ov iv u _ I2 r1 r2 r q2) fun _ s3 ⟨H3,I3,q3⟩=>?_))));exact wpAny_release ⟨σ,H3,I3,q3⟩
def lX (te:TE) (g:TG):TS:=fun D σ H=>te σ H fun x H1=>g x σ H1 D.nx
theorem C2 {tg e:Expr} {te:TE} {g:TG} (he:PE X e te) (hg:PG X tg g) (hs:swapsWithSole [tg] e pos.line X.env=pure false:=by rfl) (hw:swappedStores [tg] e X.env=pure none:=by rfl)
 (h1:(assignEach [tg] X.env).map (·.2)=[assign tg X.env]:=by rfl):PS X (.Assign [tg] e pos) (lX te g):=by
 intro pins s σ H D I h;refine wpAny_Assign_stores (Jw (he pins s σ H _ I h) fun v s1 ⟨x,H1,I1,r1,q1⟩=>?_) hs hw;rw [h1];exact Jw (hg pins s1 σ H1 x v _ I1 r1 q1) fun _ s2 q=>q
def F6 (i j:Nat) (ta:TA):TS:=fun D σ H=>ta σ H fun vs H1=>∃ v w,vs=[v,w]/\D.nx ((σ.set i (some v)).set j (some w)) H1
theorem C3 {i j:Nat} {x y:Str} {a b:Expr} {ta:TA} {px py pt:Pos} {kt k2 pt2} (hc:X.calm=true) (hN:X.N.Nodup) (hi:X.N[i]?=some x) (hj:X.N[j]?=some y) (hij:i ≠ j)
 (hx:X.env.scope.names.lookup x=some .local) (hy:X.env.scope.names.lookup y=some .local) (ha:PA X [a,b] ta)
 (hw:swappedStores [.Tuple [.Name x px,.Name y py] kt pt] (.Tuple [a,b] k2 pt2) X.env=pure (some [x,y]))
 (hs:swapsWithSole [.Tuple [.Name x px,.Name y py] kt pt] (.Tuple [a,b] k2 pt2) pos.line X.env=pure false:=by rfl) :
 PS X (.Assign [.Tuple [.Name x px,.Name y py] kt pt] (.Tuple [a,b] k2 pt2) pos) (F6 i j ta):=by
 intro pins s σ H D I h;rw [exec_Assign_arm];refine Jk (wpAny_standAt ?_);rw [hs];refine Jk (Jq ?_);rw [Y0 (by decide)];refine Jk (Tuple_ (Jw (ha _ pins s σ H _ I h) fun us s1 ⟨vs,H1,I1,r1,q1⟩=>?_));obtain ⟨v,w,e1,q1⟩:=q1;subst e1;obtain ⟨u1,u2,rfl,rv,rw'⟩:∃ u1 u2,us=[u1,u2]/\RelV v u1/\RelV w u2:=by
  cases r1 with
  | cons p q=>
   cases q with
   | cons p' q'=>cases q';exact ⟨_,_,rfl,p,p'⟩
 refine Y6 ?_ (by show 2<=sizeLine; decide);have I2:Inv X pins σ H1 { s1 with heap:=s1.heap.push { cls:=.type "tuple",data:=.seq [u1,u2].toArray } }:=I1.kept (t':=s1.toks) fun b o e=>Z7 _ e;rw [hw];refine Jk (Jq ?_);show wpAny (model X.prog X.w) X.A (do rule "assign.swapped-stores"; let items <- unpackItems (.ref s1.heap.objs.size) 2 none; assignInOrder [fun v=>bindName X.env y v,fun v=>bindName X.env x v] items.reverse; pure Flow.next) _ _ _;refine Jk (Yy (Jk (unpackItems_tuple (items:=#[u1,u2]) (I.ok.hd hc) (IsTup.new s1.heap _) fun h' hx'=>?_)));have I3:=I2.kept (h':=h') (t':=s1.toks) fun b o e=>hx' b o (Kn (JO e)) e;show wpAny _ _ (assignInOrder [fun v=>bindName X.env y v,fun v=>bindName X.env x v] [u2,u1] >>= fun _=>pure Flow.next) _ _ _;refine Jk (assignInOrder_cons (wpAny_bindName (cS I3 hN hj (.inl hy) rw' (fun s2 I4=>?_) (.inr hy))));refine assignInOrder_cons (wpAny_bindName (cS I4 hN hi (.inl hx) rv (fun s3 I5=>assignInOrder_nil (Jq ?_)) (.inr hx)));rw [List.set_comm _ _ (YI hij)] at I5;exact ⟨_,H1,I5,q1⟩
def F7 (i:Nat) (te:TE) (ti:O0):TS:=fun D σ H=>∃ x,σ[i]?=some (some x)/\te σ H fun y H1=>ti x y H1 fun z H2=>D.nx (σ.set i (some z)) H2
theorem C4 {i:Nat} {x:Str} {e:Expr} {te:TE} {op:Operator} {ti:O0} {pos':Pos} (hN:X.N.Nodup) (hi:X.N[i]?=some x) (hx:Loc X.env.scope x) (he:PE X e te) (ho:PIp X op ti) (hf:X.fn x=true∨X.env.scope.names.lookup x=some .local:=by first | exact .inl rfl | exact .inr rfl | assumption) :
 PS X (.AugAssign (.Name x pos') op e pos) (F7 i te ti):=by
 intro pins s σ H D I h;obtain ⟨v,e1,h⟩:=h;obtain ⟨m,hn,hl⟩:=I.loc;have vis:O6 X.env.scope x:=by rcases hx with k | k; exact .inl k; exact .inr (.inl k)
 obtain ⟨u,r,l⟩:=hl i x v hi e1 vis;refine wpAny_AugAssign_Name ?_;have go:wpAny (model X.prog X.w) X.A (eval e X.env) (fun w s₂=>wpAny (model X.prog X.w) X.A (inplaceOp op u w) (fun r s₃=>wpAny (model X.prog X.w) X.A (storeName X.env x r) (fun _=>SP X pins D .next) X.xe s₃) X.xe s₂) X.xe s:=by refine Jw (he pins s σ H _ I h) fun w s1 ⟨y,H1,I1,r1,q1⟩=>?_;refine Jw (ho pins s1 σ H1 v y u w _ I1 r r1 q1) fun z s2 ⟨zv,H2,I2,r2,q2⟩=>?_;exact cS I2 hN hi hx r2 (fun s3 I3=>⟨_,H2,I3,q2⟩) hf
 rcases l with ⟨hk,hm⟩ | ⟨hk,c,hc,hcell⟩
 ·exact wpAny_loadName_local I.ok.kind hk hn hm go
 ·rcases hk with hk | hk
  ·exact wpAny_loadName_cell I.ok.kind hk hc hcell go
  ·rcases hx with k | k
   ·have:X.env.scope.names.lookup x=some .free:=hk;rw [k] at this; cases this
   ·have:X.env.scope.names.lookup x=some .free:=hk;rw [k] at this; cases this
def ipI (f:Int->Int->Int):O0:=fun x y H Q=>∃ i j,x=.int i/\y=.int j/\Q (.int (f i j)) H
theorem C5:PIp X .Add (ipI fun i j=>i+j):=by intro pins s σ H x y v u Q I r1 r2 h;obtain ⟨i,j,e1,e2,q⟩:=h;subst e1; subst e2;obtain ⟨t,rfl⟩:=r1;obtain ⟨t',rfl⟩:=r2;exact iadd_int ⟨.int _,H,I.tok _,⟨_,rfl⟩,q⟩
end
section
variable {X:Cx} {pos:Pos}
def uY (c:TT) (tb:TS):TS:=fun D σ H=>∃ W:Nat->St->Hp->Prop,(∃ m,W m σ H)/\∀ m σ H,W m σ H ->
 c σ H fun b H1=>if b=true then ∃ N:St->Hp->Prop,(∀ σ' H',N σ' H'->∃ m',m' < m/\W m' σ' H')/\tb { D with nx:=N,ct:=N,bk:=D.nx } σ H1 else D.nx σ H1
theorem uZ {c:Expr} {body:List Stmt} {tc:TT} {tb:TS} (hp:PassesOwn (model X.prog X.w) X.A X.env X.xe) (hc:PT X c tc) (hb:K2 X body tb):PS X (.While c body [] pos) (uY tc tb):=by
 intro pins s σ H D I h;obtain ⟨W,⟨m0,w0⟩,turn⟩:=h;refine wpAny_While (codeAny_whileLoop (fun n s'=>∃ σ' H',Inv X pins σ' H' s'/\W n σ' H') ?_ m0 ⟨σ,H,I,w0⟩);rintro n s1 ⟨σ1,H1,I1,w1⟩;refine YL hp (Jw (hc pins s1 σ1 H1 _ I1 (turn n σ1 H1 w1)) fun b s2 ⟨H2,I2,q2⟩=>?_);cases b with
 | true=>
  obtain ⟨N,hN,q2⟩:=q2;rw [Y1 rfl];refine YL hp (Jw (hb pins s2 σ1 H2 _ I2 q2) fun f s3 q3=>?_);cases f with
  | next=>obtain ⟨σ3,H3,I3,n3⟩:=q3;obtain ⟨m',hm,w3⟩:=hN σ3 H3 n3;exact ⟨m',hm,σ3,H3,I3,w3⟩
  | cont=>obtain ⟨σ3,H3,I3,n3⟩:=q3;obtain ⟨m',hm,w3⟩:=hN σ3 H3 n3;exact ⟨m',hm,σ3,H3,I3,w3⟩
  | _=>exact q3
 | false=>rw [Y0 MR];exact wpAny_execs_nil ⟨σ1,H2,I2,q2⟩
end
structure It where
 go:Nat->Hp->Prop
 yld:Nat->Hp->V->Hp->Prop
 stop:Nat->Hp->Prop
def fq (X:Cx) (pins:List (Addr × Obj)) (H:Hp) (b:Addr):Prop:=
 H b=none/\b ≠ X.env.locals/\b ∉ X.fs/\(b ∈ X.ex∨X.s₀.heap.objs.size<=b)/\(∀ x c,X.env.cells.lookup x=some c->c ≠ b)/\∀ p ∈ X.pn++pins,p.1 ≠ b
theorem Inv.Ll {X:Cx} {pins:List (Addr × Obj)} {σ:St} {H H':Hp} {s:Shared} {b:Addr} (I:Inv X pins σ H s) (hb:s.heap.objs.size<=b) (hn:H' b=none):fq X pins H' b:=by
 refine ⟨hn,Nat.ne_of_gt (KL I.lt hb),I.Nm hb,.inr (La I.sz hb),fun x c e z=>?_,fun p hp z=>?_⟩
 ·obtain ⟨v,q⟩:=I.cell x c e;exact absurd (KL q.lt (by rw [z]; exact hb)) (LL _)
 ·exact absurd (KL (JO (I.pin p hp).1) (by rw [z]; exact hb)) (LL _)
inductive YP (X:Cx) (pins:List (Addr × Obj)) (σ:St) (H:Hp) (i:Nat) (J:It) (tn:Nat->Heap->Prop) (fp:List Addr) (u:Value) (s2:Shared):Prop
 | mk:∀ x H',Inv X pins σ H' s2->RelV x u->J.yld i H x H'->tn (i+1) s2.heap->(∀ b ∈ fp,H' b=none)->YP X pins σ H i J tn fp u s2
inductive Pm (X:Cx) (pins:List (Addr × Obj)) (fp:List Addr) (tn:Nat->Heap->Prop) (W:Nat->Nat->St->Hp->Prop) (n:Nat) (s':Shared):Prop
 | mk:∀ i σ' H',Inv X pins σ' H' s'->tn i s'.heap->(∀ b ∈ fp,H' b=none)->W i n σ' H'->Pm X pins fp tn W n s'
structure Turn (P:Program) (w:World) (K:PySem.W.Frag) (tg:Expr) (J:It) (fp:List Addr) (it:Addr) (tn:Nat->Heap->Prop):Prop where
 mem:it ∈ fp
 obj:∀ i h,tn i h->∀ b ∈ fp,∃ o,h.get? b=some o/\∀ v,o.data ≠ .cell v
 keep:∀ i h h',tn i h->(∀ b ∈ fp,∀ o,h.get? b=some o->h'.get? b=some o)->tn i h'
 item:∀ (X:Cx),X.prog=P->X.w=w->X.K=K->X.calm=true->∀ (i:Nat) (pins:List (Addr × Obj)) (s:Shared) (σ:St) (H:Hp) (E:Value->Shared->Prop),Inv X pins σ H s->(∀ b ∈ fp,fq X pins H b)->tn i s.heap->J.go i H ->
  wpAny (model P w) X.A (pyNext (.ref it)) (fun r s1=>∃ u,r=some u /\
   wpAny (model P w) X.A (letOwnedTupleGo tg (.ref it) u) (fun _ s2=>YP X pins σ H i J tn fp u s2) E s1) E s
 done:∀ (X:Cx),X.prog=P->X.w=w->X.K=K->X.calm=true->∀ (i:Nat) (pins:List (Addr × Obj)) (s:Shared) (σ:St) (H:Hp) (E:Value->Shared->Prop),Inv X pins σ H s->(∀ b ∈ fp,fq X pins H b)->tn i s.heap->J.stop i H ->
  wpAny (model P w) X.A (pyNext (.ref it)) (fun r s1=>r=none/\Inv X pins σ H s1) E s
 self:∀ (A:Around) (i:Nat) (s:Shared) (Q:Value->Shared->Prop) (E:Value->Shared->Prop),tn i s.heap->Q (.ref it) s->wpAny (model P w) A (pyIter (.ref it)) Q E s
abbrev TI:=St->Hp->(It->Hp->Prop)->Prop
inductive PC (X:Cx) (pins:List (Addr × Obj)) (σ:St) (tg:Expr) (R:It->Hp->Prop) (itv:Value) (s2:Shared):Prop
 | mk (it:Addr) (fp:List Addr) (tn:Nat->Heap->Prop) (J:It) (H':Hp) (e:itv=.ref it) (I:Inv X pins σ H' s2) (T:Turn X.prog X.w X.K tg J fp it tn) (t0:tn 0 s2.heap) (f:∀ b ∈ fp,fq X pins H' b) (r:R J H'):PC X pins σ tg R itv s2
def PI (X:Cx) (tg iter:Expr) (wi:TI):Prop:=
 ∀ (pins:List (Addr × Obj)) (s:Shared) (σ:St) (H:Hp) (R:It->Hp->Prop),Inv X pins σ H s->wi σ H R ->
  wpAny (model X.prog X.w) X.A (eval iter X.env) (fun v s1=>wpAny (model X.prog X.w) X.A (pyIter v) (PC X pins σ tg R) X.xe s1) X.xe s
theorem ja (ho:s.heap.get? it=some o) (hc:o.cls=.type n) (hd:o.data=.fields vs)
 (hn:["enumerate","zip","dict_itemiterator","dict_reverseitemiterator","odict_iterator","itertools.zip_longest","itertools.pairwise"].contains n=false) (hQ:Q () s):wpAny M A (letOwnedTupleGo tg (.ref it) u) Q E s:=by
 unfold letOwnedTupleGo;cases tg <;> first
  | exact Jq hQ
  | (cases u <;> first
   | exact Jq hQ
   | (refine Jk (wpAny_load ho ?_)
      rw [hc,hd];show wpAny M A (if (["enumerate","zip","dict_itemiterator","dict_reverseitemiterator","odict_iterator","itertools.zip_longest","itertools.pairwise"].contains n && vs[0]? == some (rawInt _))=true then _ else _) Q E s;rw [Y0 (by intro h; rw [hn,Bool.false_and] at h; cases h)];exact Jq hQ))
def Py (K:PySem.W.Frag) (a:Addr):It:=
 ⟨fun i H=>∃ xs x,J0 K H a xs/\xs[i]?=some x,fun i H x H'=>H'=H/\∀ xs,J0 K H a xs->xs[i]?=some x,fun i H=>∃ xs,J0 K H a xs/\xs.length<=i⟩
def Pc (K:PySem.W.Frag) (a:Addr):It:=
 ⟨fun i H=>∃ xs x,JW K H a xs/\xs[i]?=some x,fun i H x H'=>H'=H/\∀ xs,JW K H a xs->xs[i]?=some x,fun i H=>∃ xs,JW K H a xs/\xs.length<=i⟩
def OR (lo:Int) (n:Nat):It:=⟨fun i _=>i < n,fun i H x H'=>H'=H/\x=.int (lo+i),fun i _=>n<=i⟩
theorem sR {P:Program} {w:World} {K:PySem.W.Frag} {tg:Expr} (a it:Addr):Turn P w K tg (Py K a) [it] it (fun i h=>h.IsListIter it a i) where
 mem:=by simp
 obj:=fun i h st b hb=>by
  have e:b=it:=by simpa using hb
  subst e;obtain ⟨o,e,c,d⟩:=st;exact ⟨o,e,fun v z=>by rw [d] at z; cases z⟩
 keep:=fun i h h' st k=>st.at fun o e=>k it (by simp) o e
 item:=by intro X hP hw hK hc i pins s σ H E I hf st hg;subst hP hw hK;obtain ⟨xs,x,hq,hx⟩:=hg;obtain ⟨its,rv,p,hz⟩:=I.list hq;obtain ⟨u,hu,ru⟩:=rv.get hx;obtain ⟨f0,f1,f2,f3,f4,f5⟩:=hf it (by simp);refine wpAny_pyNext_list_item st p.isList (x:=u) (by simpa using hu) fun h' st' sb=>?_;have I1:Inv X pins σ H { s with heap:=h' }:=I.turned (t':=s.toks) (fun b o hb e=>(sb.2 b hb).trans e) f0 f1 f3 f4 f5;obtain ⟨o,e,c,d⟩:=id st';exact ⟨u,rfl,ja (s:={ s with heap:=h' }) e c d (by decide) ⟨x,H,I1,ru,⟨rfl,fun ys hy=>by rw [I.KC hy hq]; exact hx⟩,st',fun b hb=>(hf b hb).1⟩⟩
 done:=by intro X hP hw hK hc i pins s σ H E I hf st hg;subst hP hw hK;obtain ⟨xs,hq,hx⟩:=hg;obtain ⟨its,rv,p,hz⟩:=I.list hq;obtain ⟨f0,f1,f2,f3,f4,f5⟩:=hf it (by simp);have hl:=rv.length;exact wpAny_pyNext_list_end (I.ok.hd hc) st p.isList (by simp; omega) fun h' eb=>⟨rfl,I.turned (t':=s.toks) (fun b o hb e=>eb b o hb e) f0 f1 f3 f4 f5⟩
 self:=fun _ _ _ _ _ st h=>wpAny_pyIter_listiter st h
theorem pA {P:Program} {w:World} {K:PySem.W.Frag} {tg:Expr} (a it:Addr):Turn P w K tg (Pc K a) [it] it (fun i h=>h.IsTupleIter it a i) where
 mem:=by simp
 obj:=fun i h st b hb=>by
  have e:b=it:=by simpa using hb
  subst e;obtain ⟨o,e,c,d⟩:=st;exact ⟨o,e,fun v z=>by rw [d] at z; cases z⟩
 keep:=fun i h h' st k=>st.at fun o e=>k it (by simp) o e
 item:=by intro X hP hw hK hc i pins s σ H E I hf st hg;subst hP hw hK;obtain ⟨xs,x,hq,hx⟩:=hg;obtain ⟨its,rv,p,hz⟩:=I.tuple hq;obtain ⟨u,hu,ru⟩:=rv.get hx;obtain ⟨f0,f1,f2,f3,f4,f5⟩:=hf it (by simp);refine wpAny_pyNext_tuple_item st (show s.heap.IsTuple a its.toArray from p) (x:=u) (by simpa using hu) fun h' st' sb=>?_;have I1:Inv X pins σ H { s with heap:=h' }:=I.turned (t':=s.toks) (fun b o hb e=>(sb.2 b hb).trans e) f0 f1 f3 f4 f5;obtain ⟨o,e,c,d⟩:=id st';exact ⟨u,rfl,ja (s:={ s with heap:=h' }) e c d (by decide) ⟨x,H,I1,ru,⟨rfl,fun ys hy=>by rw [I.KO hy hq]; exact hx⟩,st',fun b hb=>(hf b hb).1⟩⟩
 done:=by intro X hP hw hK hc i pins s σ H E I hf st hg;subst hP hw hK;obtain ⟨xs,hq,hx⟩:=hg;obtain ⟨its,rv,p,hz⟩:=I.tuple hq;obtain ⟨f0,f1,f2,f3,f4,f5⟩:=hf it (by simp);have hl:=rv.length;exact wpAny_pyNext_tuple_end (I.ok.hd hc) st (show s.heap.IsTuple a its.toArray from p) (by simp; omega) fun h' eb=>⟨rfl,I.turned (t':=s.toks) (fun b o hb e=>eb b o hb e) f0 f1 f3 f4 f5⟩
 self:=fun _ _ _ _ _ st h=>wpAny_pyIter_tupleiter st h
theorem pB {P:Program} {w:World} {K:PySem.W.Frag} {tg:Expr} (it:Addr) (lo:Int) (n:Nat):Turn P w K tg (OR lo n) [it] it (fun i h=>IsRangeIter h it (lo+(i:Nat) * 1) ((n:Int) - (i:Nat)) 1) where
 mem:=by simp
 obj:=fun i h st b hb=>by
  have e:b=it:=by simpa using hb
  subst e;exact ⟨_,st,fun v z=>by
   have z':Data.fields _=Data.cell v:=z;cases z'⟩
 keep:=fun i h h' st k=>k it (by simp) _ st
 item:=by intro X hP hw hK hc i pins s σ H E I hf st hg;subst hP hw hK;obtain ⟨f0,f1,f2,f3,f4,f5⟩:=hf it (by simp);have W:=Walks.range (prog:=X.prog) (w:=X.w) (I.ok.hd hc) it lo 1 n;refine W.item i s _ _ hg st fun v h' tk hv st' kk=>?_;obtain ⟨t,rfl⟩:=hv;have I1:Inv X pins σ H { s with heap:=h',toks:=tk }:=I.turned (fun b o hb e=>kk b o (by simpa using hb) e) f0 f1 f3 f4 f5;refine ⟨_,rfl,ja (s:={ s with heap:=h',toks:=tk }) (n:="range_iterator") st' rfl rfl (by decide) ⟨.int (lo+i),H,I1,⟨t,?_⟩,⟨rfl,rfl⟩,st',fun b hb=>(hf b hb).1⟩⟩;rw [Int.mul_one]
 done:=by intro X hP hw hK hc i pins s σ H E I hf st hg;subst hP hw hK;obtain ⟨f0,f1,f2,f3,f4,f5⟩:=hf it (by simp);exact wpAny_pyNext_range_end (I.ok.hd hc) st (by have:n<=i:=hg; omega) fun h' eb=>⟨rfl,I.turned (t':=s.toks) (fun b o hb e=>eb b o hb e) f0 f1 f3 f4 f5⟩
 self:=fun _ _ _ _ _ st h=>wpAny_pyIter_rangeiter st h
section
variable {X:Cx} {tg:Expr}
theorem nK {pins:List (Addr × Obj)} {σ:St} {H:Hp} {s:Shared} {R:It->Hp->Prop} {E:Value->Shared->Prop} {lo hi:Int} {t u v:Tok} {tk:Nat} (I:Inv X pins σ H s) (h1:-(2 ^ 62)<=lo) (h2:lo < 2 ^ 62) (h3:-(2 ^ 62)<=hi) (h4:hi < 2 ^ 62)
 (q:R (OR lo (hi - lo).toNat) H):wpAny (model X.prog X.w) X.A (pyIter (.ref s.heap.objs.size)) (PC X pins σ tg R) E { s with heap:=s.heap.push { cls:=.type "range",data:=.fields #[.int lo t,.int hi u,.int 1 v] },toks:=tk }:=by
 refine wpAny_pyIter_range (IsRange.new ..) (small_one h1 h2 h3 h4) ?_;have I1:Inv X pins σ H { s with heap:=s.heap.push { cls:=.type "range",data:=.fields #[.int lo t,.int hi u,.int 1 v] },toks:=tk }:=I.kept fun b o e=>Z7 _ e;refine ⟨(s.heap.push { cls:=.type "range",data:=.fields #[.int lo t,.int hi u,.int 1 v] }).objs.size,[(s.heap.push { cls:=.type "range",data:=.fields #[.int lo t,.int hi u,.int 1 v] }).objs.size],_,_,H,rfl,
  I1.kept (t':=tk) fun b o e=>Z7 _ e,pB _ lo (hi - lo).toNat,?_,fun b hb=>?_,q⟩
 ·have e1:lo+((0:Nat):Int) * 1=lo:=by simp
  have e2:(((hi - lo).toNat:Nat):Int) - ((0:Nat):Int)=Builtin.Range.rangeSize lo hi 1:=by rw [rangeSize_one]; split <;> omega
  show IsRangeIter _ _ (lo+((0:Nat):Int) * 1) ((((hi - lo).toNat:Nat):Int) - ((0:Nat):Int)) 1;rw [e1,e2];exact Kv _ rfl
 ·have e:b=(s.heap.push { cls:=.type "range",data:=.fields #[.int lo t,.int hi u,.int 1 v] }).objs.size:=by simpa using hb
  subst e;exact I1.Ll (JI _) (I1.hok.fresh (JI _))
def BW (ta:TA):TI:=fun σ H R=>ta σ H fun vs H1=>∃ j:Int,vs=[.int j]/\-(2 ^ 62)<=j/\j < 2 ^ 62/\R (OR 0 j.toNat) H1
def BX (ta:TA):TI:=fun σ H R=>ta σ H fun vs H1=>∃ i j:Int,vs=[.int i,.int j]/\(-(2 ^ 62)<=i/\i < 2 ^ 62/\-(2 ^ 62)<=j/\j < 2 ^ 62)/\R (OR i (j - i).toNat) H1
theorem sS {a:Expr} {ta:TA} {p pos:Pos} (hg:Gl X "range") (hm:X.mg "range"=none) (ha:PA X [a] ta) (hs:starEach [a] X.env=[(false,eval a X.env)]:=by rfl):PI X tg (.Call (.Name "range" p) [a] [] pos) (BW ta):=by
 intro pins s σ H R I h;refine Call_ (cM I hg hm boot_range (Yd (Jw (ha pos pins s σ H _ I h) fun us s1 ⟨vs,H1,I1,r1,q1⟩=>?_) hs rfl));obtain ⟨j,e,q1,q2,q⟩:=q1;subst e;cases r1 with
 | cons r rr=>cases rr;obtain ⟨t,rfl⟩:=r;exact call_range_1 (nK I1 (by omega) (by omega) q1 q2 (by simpa using q))
theorem sT {a b:Expr} {ta:TA} {p pos:Pos} (hg:Gl X "range") (hm:X.mg "range"=none) (ha:PA X [a,b] ta) (hs:starEach [a,b] X.env=[(false,eval a X.env),(false,eval b X.env)]:=by rfl) (hs2:starEach [b] X.env=[(false,eval b X.env)]:=by rfl) :
 PI X tg (.Call (.Name "range" p) [a,b] [] pos) (BX ta):=by
 intro pins s σ H R I h;refine Call_ (cM I hg hm boot_range (Yd (Jw (ha pos pins s σ H _ I h) fun us s1 ⟨vs,H1,I1,r1,q1⟩=>?_) (by rw [hs,hs2]) (by rw [hs2]; rfl)));obtain ⟨i,j,e,⟨q1,q2,q3,q4⟩,q⟩:=q1;subst e;cases r1 with
 | cons r rr=>
  cases rr with
  | cons r' rr=>cases rr;obtain ⟨t,rfl⟩:=r;obtain ⟨t',rfl⟩:=r';exact call_range_2 (nK I1 q1 q2 q3 q4 q)
def C6 (wi:TI) (g:TG) (tb:TS):TS:=fun D σ H=>wi σ H fun J H1=>∃ W:Nat->Nat->St->Hp->Prop,(∃ m,W 0 m σ H1)/\∀ i m σ H,W i m σ H ->
 (J.stop i H/\D.nx σ H)∨(J.go i H/\∃ N:St->Hp->Prop,(∀ σ' H',N σ' H'->∃ m',m' < m/\W (i+1) m' σ' H')/\∀ x H',J.yld i H x H'->g x σ H' fun σ2 H2=>tb { D with nx:=N,ct:=N,bk:=D.nx } σ2 H2)
def fz (fp:List Addr) (h:Heap):List (Addr × Obj):=fp.filterMap fun b=>(h.get? b).map fun o=>(b,o)
theorem fA {fp:List Addr} {h:Heap} {b:Addr} {o:Obj} (hb:b ∈ fp) (e:h.get? b=some o):(b,o) ∈ fz fp h:=List.mem_filterMap.mpr ⟨b,hb,by rw [e]; rfl⟩
theorem kF {fp:List Addr} {h:Heap} {p:Addr × Obj} (hp:p ∈ fz fp h):p.1 ∈ fp/\h.get? p.1=some p.2:=by
 obtain ⟨b,hb,e⟩:=List.mem_filterMap.mp hp;cases q:h.get? b with
 | none=>rw [q] at e; cases e
 | some o=>rw [q] at e;have e':(b,o)=p:=KZ e;subst e';exact ⟨hb,q⟩
theorem Inv.pinned {pins:List (Addr × Obj)} {σ:St} {H:Hp} {s:Shared} {fp:List Addr} (I:Inv X pins σ H s) (hf:∀ b ∈ fp,fq X pins H b) (ho:∀ b ∈ fp,∃ o,s.heap.get? b=some o/\∀ v,o.data ≠ .cell v):Inv X (pins++fz fp s.heap) σ H s:=
 I.KG fun p hp=>(Kk.mp hp).elim (fun z=>I.pin p (MX _ z)) fun z=>by
  obtain ⟨hb,e⟩:=kF z;obtain ⟨f0,f1,f2,_⟩:=hf p.1 hb;obtain ⟨o,e',d⟩:=ho p.1 hb;rw [e] at e'; cases e';exact ⟨e,f0,f1,f2,d⟩
theorem Inv.KH {pins pl:List (Addr × Obj)} {σ:St} {H:Hp} {s:Shared} (I:Inv X (pins++pl) σ H s):Inv X pins σ H s:=I.KG fun p hp=>I.pin p (MX _ (M9 _ hp))
theorem C7 {iter:Expr} {body:List Stmt} {wi:TI} {g:TG} {tb:TS} {pos:Pos} (hp:PassesOwn (model X.prog X.w) X.A X.env X.xe) (hc:X.calm=true) (hi:PI X tg iter wi) (hg:PG X tg g) (hb:K2 X body tb)
 (hs:∀ x,foldedSetIterable iter X.env x=pure x:=by intro _; rfl):PS X (.For tg iter body [] pos) (C6 wi g tb):=by
 intro pins s σ H D I h;refine wpAny_For (Jw (hi pins s σ H _ I h) fun v s1 h1=>Jw h1 fun itv s2 h2=>?_) hs;obtain ⟨it,fp,tn,J,H2,e,I2,T,st2,f2,W,⟨m0,w0⟩,turn⟩:=h2;subst e;have stat:∀ {H':Hp},(∀ b ∈ fp,H' b=none)->∀ b ∈ fp,fq X pins H' b:=fun hn b hb=>⟨hn b hb,(f2 b hb).2⟩;refine codeAny_forLoop_any (fun n s'=>Pm X pins fp tn W n s') ?_ m0 ⟨0,σ,H2,I2,st2,fun b hb=>(f2 b hb).1,w0⟩;rintro n s3 ⟨i,σ3,H3,I3,st3,fr3,w3⟩;rcases turn i n σ3 H3 w3 with ⟨stop,qn⟩ | ⟨go,N,hN,step⟩
 ·refine YL hp (Jw (T.done X rfl rfl rfl hc i pins s3 σ3 H3 X.xe I3 (stat fr3) st3 stop) fun r s4 ⟨hr,I4⟩=>?_);subst hr;exact wpAny_execs_nil ⟨σ3,H3,I4,qn⟩
 ·refine YL hp (Jw (T.item X rfl rfl rfl hc i pins s3 σ3 H3 X.xe I3 (stat fr3) st3 go) fun r s4 ⟨u,hr,h4⟩=>?_);subst hr;refine YL hp (Jw h4 fun _ s5 ⟨x,H5,I5,r5,y5,st5,fr5⟩=>?_);have I5':=I5.pinned (stat fr5) (T.obj _ _ st5);refine YL hp (Jw (hg _ s5 σ3 H5 x u _ I5' r5 (step x H5 y5)) fun _ s6 ⟨σ6,H6,I6,q6⟩=>?_);refine YL hp (Jw (hb _ s6 σ6 H6 _ I6 q6) fun f s7 q7=>?_);have again:∀ {σ7:St} {H7:Hp},Inv X (pins++fz fp s5.heap) σ7 H7 s7->N σ7 H7->∃ m,m < n/\Pm X pins fp tn W m s7:=fun {σ7 H7} I7 n7=>by
   obtain ⟨m',hm,w7⟩:=hN σ7 H7 n7;refine ⟨m',hm,i+1,σ7,H7,I7.KH,T.keep _ _ _ st5 fun b hb o e=>(I7.pin (b,o) (MX _ (MX _ (fA hb e)))).1,fun b hb=>?_,w7⟩;obtain ⟨o,e,d⟩:=T.obj _ _ st5 b hb;exact (I7.pin (b,o) (MX _ (MX _ (fA hb e)))).2.1
  cases f with
  | brk=>obtain ⟨σ7,H7,I7,q7⟩:=q7; exact ⟨σ7,H7,I7.KH,q7⟩
  | ret v=>obtain ⟨x7,σ7,H7,I7,r7,q7⟩:=q7; exact ⟨x7,σ7,H7,I7.KH,r7,q7⟩
  | _=>obtain ⟨σ7,H7,I7,n7⟩:=q7; exact again I7 n7
end
abbrev R2:=V->V->Hp->VK->Prop
def JK (X:Cx) (f:Value->Value->Sem Value) (r:R2):Prop:=
 ∀ (pins:List (Addr × Obj)) (s:Shared) (σ:St) (H:Hp) (x y:V) (v u:Value) (Q:VK),Inv X pins σ H s->RelV x v->RelV y u->r x y H Q ->
  wpAny (model X.prog X.w) X.A (f v u) (EP X pins σ Q) X.xe s
def Ph (X:Cx) (f:Value->Sem Value) (r:V->Hp->VK->Prop):Prop:=
 ∀ (pins:List (Addr × Obj)) (s:Shared) (σ:St) (H:Hp) (x:V) (v:Value) (Q:VK),Inv X pins σ H s->RelV x v->r x H Q ->
  wpAny (model X.prog X.w) X.A (f v) (EP X pins σ Q) X.xe s
def Jx (X:Cx) (f:Value) (r:List V->Hp->VK->Prop):Prop:=
 ∀ (pins:List (Addr × Obj)) (s:Shared) (σ:St) (H:Hp) (xs:List V) (us:List Value) (Q:VK),Inv X pins σ H s->Vals xs us->r xs H Q ->
  wpAny (model X.prog X.w) X.A (call f us) (EP X pins σ Q) X.xe s
def Iz (X:Cx) (r:V->Hp->(Bool->Hp->Prop)->Prop):Prop:=
 ∀ (pins:List (Addr × Obj)) (s:Shared) (σ:St) (H:Hp) (x:V) (v:Value) (Q:Bool->Hp->Prop),Inv X pins σ H s->RelV x v->r x H Q ->
  wpAny (model X.prog X.w) X.A (truthy v) (TP X pins σ Q) X.xe s
def LF (r:R2) (ta tb:TE):TE:=fun σ H Q=>ta σ H fun x H1=>tb σ H1 fun y H2=>r x y H2 Q
def tUn (r:V->Hp->VK->Prop) (ta:TE):TE:=fun σ H Q=>ta σ H fun x H1=>r x H1 Q
def rI (C:Int->Int->Prop) (g:Int->Int->V):R2:=fun x y H Q=>∃ i j,x=.int i/\y=.int j/\C i j/\Q (g i j) H
def Om (g:Int->Int->V):R2:=fun x y H Q=>∃ i j,x=.int i/\y=.int j/\Q (g i j) H
def rU (g:Int->V):V->Hp->VK->Prop:=fun x H Q=>∃ i,x=.int i/\Q (g i) H
section
variable {X:Cx} {a b c:Expr} {ta tb tc:TE} {pos:Pos}
theorem C8 (ha:PE X a ta) (hb:PE X b tb) {pins:List (Addr × Obj)} {s:Shared} {σ:St} {H:Hp} {R:V->V->Hp->Prop} (I:Inv X pins σ H s)
 (h:ta σ H fun x H1=>tb σ H1 fun y H2=>R x y H2) {Q:Value->Shared->Prop} {f:Value->Value->Sem Value}
 (hf:∀ v u s2 x y H2,Inv X pins σ H2 s2->RelV x v->RelV y u->R x y H2->wpAny (model X.prog X.w) X.A (f v u) Q X.xe s2) :
 wpAny (model X.prog X.w) X.A (eval a X.env) (fun v s₁=>wpAny (model X.prog X.w) X.A (eval b X.env) (fun u s₂=>wpAny (model X.prog X.w) X.A (f v u) Q X.xe s₂) X.xe s₁) X.xe s:=by
 refine Jw (ha pins s σ H _ I h) fun v s1 ⟨x,H1,I1,r1,q1⟩=>?_;refine Jw (hb pins s1 σ H1 _ I1 q1) fun u s2 ⟨y,H2,I2,r2,q2⟩=>?_;exact hf v u s2 x y H2 I2 r1 r2 q2
theorem BY {op:Operator} {r:R2} (ho:JK X (binaryOp op) r) (ha:PE X a ta) (hb:PE X b tb):PE X (.BinOp a op b pos) (LF r ta tb):=by intro pins s σ H Q I h;exact wpAny_BinOp (C8 ha hb I h fun v u s2 x y H2 I2 rx ry q=>ho pins s2 σ H2 x y v u Q I2 rx ry q)
theorem F8 {op:UnaryOp} {r:V->Hp->VK->Prop} (ho:Ph X (unaryOp op) r) (ha:PE X a ta):PE X (.UnaryOp op a pos) (tUn r ta):=by intro pins s σ H Q I h;exact UnaryOp_ (Jw (ha pins s σ H _ I h) fun v s1 ⟨x,H1,I1,r1,q1⟩=>ho pins s1 σ H1 x v Q I1 r1 q1)
theorem opI {f:Value->Value->Sem Value} {C:Int->Int->Prop} {g:Int->Int->Int}
 (rule:∀ (i j:Int) (t u:Tok) (s:Shared) (Q:Value->Shared->Prop) (E:Value->Shared->Prop),C i j->Q (.int (g i j) s.toks) { s with toks:=s.toks+1 }->wpAny (model X.prog X.w) X.A (f (.int i t) (.int j u)) Q E s) :
 JK X f (rI C fun i j=>.int (g i j)):=by
 intro pins s σ H x y v u Q I rx ry h;obtain ⟨i,j,rfl,rfl,hc,q⟩:=h;obtain ⟨t,rfl⟩:=rx;obtain ⟨t',rfl⟩:=ry;exact rule i j t t' s _ _ hc ⟨.int (g i j),H,I.tok _,⟨_,rfl⟩,q⟩
theorem F9 {f:Value->Value->Sem Value} {g:Int->Int->Int}
 (rule:∀ (i j:Int) (t u:Tok) (s:Shared) (Q:Value->Shared->Prop) (E:Value->Shared->Prop),Q (.int (g i j) s.toks) { s with toks:=s.toks+1 }->wpAny (model X.prog X.w) X.A (f (.int i t) (.int j u)) Q E s) :
 JK X f (Om fun i j=>.int (g i j)):=by
 intro pins s σ H x y v u Q I rx ry h;obtain ⟨i,j,rfl,rfl,q⟩:=h;obtain ⟨t,rfl⟩:=rx;obtain ⟨t',rfl⟩:=ry;exact rule i j t t' s _ _ ⟨.int (g i j),H,I.tok _,⟨_,rfl⟩,q⟩
theorem C9 {f:Value->Value->Sem Value} {g:Int->Int->Bool}
 (rule:∀ (i j:Int) (t u:Tok) (s:Shared) (Q:Value->Shared->Prop) (E:Value->Shared->Prop),Q (.bool (g i j)) s->wpAny (model X.prog X.w) X.A (f (.int i t) (.int j u)) Q E s) :
 JK X f (Om fun i j=>.bl (g i j)):=by
 intro pins s σ H x y v u Q I rx ry h;obtain ⟨i,j,rfl,rfl,q⟩:=h;obtain ⟨t,rfl⟩:=rx;obtain ⟨t',rfl⟩:=ry;exact rule i j t t' s _ _ ⟨.bl (g i j),H,I,rfl,q⟩
def Ga (i j:Int):Prop:=0<=j/\j<=1000000/\i.natAbs < 2 ^ 64
def Lh (i j:Int):Prop:=(-(2 ^ 64) < i/\i < 2 ^ 64)∨(-(2 ^ 64) < j/\j < 2 ^ 64)
theorem Lh.ok {i j:Int} (h:Lh i j):IntMulOk i j:=by
 rcases h with ⟨h1,h2⟩ | ⟨h1,h2⟩
 ·exact .of_left (intBits_le_64 h1 h2)
 ·exact .of_right (intBits_le_64 h1 h2)
theorem pC:JK X (binaryOp .Add) (Om fun i j=>.int (i+j)):=F9 fun _ _ _ _ _ _ _ q=>add_int q
theorem pD:JK X (binaryOp .Sub) (Om fun i j=>.int (i - j)):=F9 fun _ _ _ _ _ _ _ q=>sub_int q
theorem Da:JK X (binaryOp .Mult) (rI Lh fun i j=>.int (i * j)):=opI fun _ _ _ _ _ _ _ hc q=>mul_int q hc.ok
theorem pE:JK X (binaryOp .Mod) (rI (fun _ j=>0 < j) fun i j=>.int (i % j)):=opI fun i j _ _ _ _ _ hc q=>by
 have h1:(0:Int) < j:=hc;exact mod_int' (by omega) (by rw [Int.fmod_eq_emod_of_nonneg i (by omega)]; exact q)
theorem unI {f:Value->Sem Value} {g:Int->Int}
 (rule:∀ (i:Int) (t:Tok) (s:Shared) (Q:Value->Shared->Prop) (E:Value->Shared->Prop),Q (.int (g i) s.toks) { s with toks:=s.toks+1 }->wpAny (model X.prog X.w) X.A (f (.int i t)) Q E s) :
 Ph X f (rU fun i=>.int (g i)):=by
 intro pins s σ H x v Q I rx h;obtain ⟨i,rfl,q⟩:=h;obtain ⟨t,rfl⟩:=rx;exact rule i t s _ _ ⟨.int (g i),H,I.tok _,⟨_,rfl⟩,q⟩
theorem pF:Ph X (unaryOp .USub) (rU fun i=>.int (-i)):=unI fun _ _ _ _ _ q=>neg_int q
theorem sU:JK X (binaryOp .Add) (fun x y H Q=>∃ i k,x=.int i/\y=.bl k/\Q (.int (i+b2i k)) H):=by intro pins s σ H x y v u Q I rx ry h;obtain ⟨i,k,rfl,rfl,q⟩:=h;obtain ⟨t,rfl⟩:=rx;cases ry;exact add_int_bool ⟨.int (i+b2i k),H,I.tok _,⟨_,rfl⟩,q⟩
end
section
variable {X:Cx} {a b c:Expr} {ta tb tc:TE} {pos:Pos}
theorem u3 (I:Inv X pins σ H s) (q:Q (.bl k) H) (e:k=k'):EP X pins σ Q (.bool k') s:=by subst e;exact ⟨.bl k,H,I,rfl,q⟩
theorem Gb:JK X (compareOp .Lt) (Om fun i j=>.bl (decide (i < j))):=C9 fun _ _ _ _ _ _ _ q=>lt_int q
theorem Gc:JK X (compareOp .LtE) (Om fun i j=>.bl (decide (i<=j))):=C9 fun _ _ _ _ _ _ _ q=>le_int q
theorem Ge:JK X (compareOp .Gt) (Om fun i j=>.bl (decide (j < i))):=C9 fun _ _ _ _ _ _ _ q=>gt_int q
theorem lY:JK X (compareOp .Is) (fun x y H Q=>y=.non/\Q (.bl (decide (x=.non))) H):=by
 intro pins s σ H x y v u Q I rx ry h;obtain ⟨rfl,q⟩:=h;cases ry;refine is_none_gen (u3 I q ?_);cases x <;> first
  | (cases rx; rfl)
  | (obtain ⟨t,rfl⟩:=rx; rfl)
theorem iP:JK X (compareOp .IsNot) (fun x y H Q=>y=.non/\Q (.bl (!decide (x=.non))) H):=by
 intro pins s σ H x y v u Q I rx ry h;obtain ⟨rfl,q⟩:=h;cases ry;refine isnot_none_gen (u3 I q ?_);cases x <;> first
  | (cases rx; rfl)
  | (obtain ⟨t,rfl⟩:=rx; rfl)
theorem Db (b:Expr) {op:CmpOp} (h:op ≠ .In:=by decide) (h2:op ≠ .NotIn:=by decide):behindInMarks op b=false:=by
 have e1:(op == CmpOp.In)=false:=by cases op <;> first | rfl | exact absurd rfl h
 have e2:(op == CmpOp.NotIn)=false:=by cases op <;> first | rfl | exact absurd rfl h2
 cases b <;> simp [behindInMarks,e1,e2]
theorem qU (ho:JK X (compareOp op) r) (ha:PE X a ta) (hb:PE X b tb) (hm:behindInMarks op b=false):PE X (.Compare a [op] [b] pos) (LF r ta tb):=by intro pins s σ H Q I h;exact wpAny_Compare1 (C8 ha hb I h fun v u s2 x y H2 I2 rx ry q=>ho pins s2 σ H2 x y v u Q I2 rx ry q) hm
def BZ (t:TE):TT:=fun σ H Q=>t σ H fun x H'=>∃ k,x=.bl k/\Q k H'
theorem yO {op:CmpOp} {r:R2} (ho:JK X (compareOp op) r) (ha:PE X a ta) (hb:PE X b tb) (hm:behindInMarks op b=false):PT X (.Compare a [op] [b] pos) (BZ (LF r ta tb)):=by
 intro pins s σ H Q I h;refine wpAny_isTrue_Compare1 (Jw (ha pins s σ H _ I h) fun v s1 ⟨x,H1,I1,r1,q1⟩=>Jw (hb pins s1 σ H1 _ I1 q1) fun u s2 ⟨y,H2,I2,r2,q2⟩=>Jw (ho pins s2 σ H2 x y v u _ I2 r1 r2 q2) fun c s3 ⟨z,H3,I3,r3,k,e,q3⟩=>?_) hm
 subst e;cases r3;exact Ya ⟨H3,I3,q3⟩
def u4 (r r':R2) (ta tb tc:TE):TE:=fun σ H Q=>ta σ H fun x H1=>tb σ H1 fun y H2=>r x y H2 fun z H3=>∃ k,z=.bl k /\
 (if k=true then tc σ H3 fun w' H4=>r' y w' H4 Q else Q (.bl false) H3)
theorem u5 {op op':CmpOp} {r r':R2} (ho:JK X (compareOp op) r) (ho':JK X (compareOp op') r') (ha:PE X a ta) (hb:PE X b tb) (hc:PE X c tc)
 (hm:lastMarks [op,op'] [b,c]=false:=by with_unfolding_all rfl):PE X (.Compare a [op,op'] [b,c] pos) (u4 r r' ta tb tc):=by
 intro pins s σ H Q I h;refine Compare_chain (Jw (ha pins s σ H _ I h) fun v s1 ⟨x,H1,I1,r1,q1⟩=>chain_link (Jw (hb pins s1 σ H1 _ I1 q1) fun u s2 ⟨y,H2,I2,r2,q2⟩=>Jw (ho pins s2 σ H2 x y v u _ I2 r1 r2 q2) fun d s3 ⟨z,H3,I3,r3,k,e,q3⟩=>?_)) hm
 subst e;cases r3;refine Ya ?_;cases k with
 | false=>exact ite_ff ⟨.bl false,H3,I3,rfl,q3⟩
 | true=>exact ite_tt (chain_last (Jw (hc pins s3 σ H3 _ I3 q3) fun w' s4 ⟨z',H4,I4,r4,q4⟩=>ho' pins s4 σ H4 y z' u w' Q I4 r2 r4 q4))
def Dc (K:PySem.W.Frag) (x:V) (H:Hp) (k:Bool):Prop:=
 match x with
 | .non=>k=false
 | .bl b=>k=b
 | .int i=>k=(i != 0)
 | .str y=>y.length<=sizeLine/\k=((y.length:Int) != 0)
 | .byt y=>y.size<=sizeLine/\k=((y.size:Int) != 0)
 | .ref p=>(∃ xs,J0 K H p xs/\k=!xs.isEmpty)∨(∃ xs,JW K H p xs/\k=!xs.isEmpty)∨∃ kvs,H p=some (.dK kvs)/\k=!kvs.isEmpty
 | _=>False
theorem pG {κ:Type} {kvs:List (κ × V)} {vs:List (κ × Value)} (r:KV kvs vs):(!vs.isEmpty)=!kvs.isEmpty:=by cases r <;> rfl
theorem jb {xs:List V} {its:List Value} (r:Vals xs its):(!its.toArray.isEmpty)=!xs.isEmpty:=by cases r <;> simp
theorem gE:(sizeLine:Nat) < 2 ^ 63:=by rw [Yt]; decide
theorem Dd:Iz X (fun x H Q=>∃ k,Dc X.K x H k/\Q k H):=by
 intro pins s σ H x v Q I rx h;obtain ⟨k,e,q⟩:=h;have hl:=gE;have hs:sizeLine=16777216:=Yt;cases x with
 | non=>cases rx;have e':k=false:=e;subst e';exact truthy_none ⟨H,I,q⟩
 | bl b=>cases rx;have e':k=b:=e;subst e';exact Ya ⟨H,I,q⟩
 | int i=>obtain ⟨t,rfl⟩:=rx;have e':k=(i != 0):=e;subst e';exact PySem.P.truthy_int ⟨H,I,q⟩
 | str y=>obtain ⟨t,rfl⟩:=rx;obtain ⟨hy,e'⟩:y.length<=sizeLine/\k=((y.length:Int) != 0):=e;subst e';exact PySem.P.truthy_str (by omega) ⟨H,I.tok _,q⟩
 | byt y=>obtain ⟨t,rfl⟩:=rx;obtain ⟨hy,e'⟩:y.size<=sizeLine/\k=((y.size:Int) != 0):=e;subst e';exact PySem.W.truthy_bytes (by omega) ⟨H,I.tok _,q⟩
 | ref p=>
  cases rx;have e':(∃ xs,J0 X.K H p xs/\k=!xs.isEmpty)∨(∃ xs,JW X.K H p xs/\k=!xs.isEmpty)∨∃ kvs,H p=some (.dK kvs)/\k=!kvs.isEmpty:=e;rcases e' with ⟨xs,hx,e'⟩ | ⟨xs,hx,e'⟩ | ⟨kvs,hx,e'⟩
  ·subst e';obtain ⟨its,r,pl,hz⟩:=I.list hx;have hlen:=r.length;exact wpAny_truthy_list pl.isList (by simp only [Z4]; omega) ⟨H,I.tok _,by rw [jb r]; exact q⟩
  ·subst e';obtain ⟨its,r,pl,hz⟩:=I.tuple hx;have hlen:=r.length;exact truthy_tuple pl (by simp only [Z4]; omega) ⟨H,I.tok _,by rw [jb r]; exact q⟩
  ·subst e';obtain ⟨hz,hS,vs,r,m⟩:kvs.length<=sizeLine/\(p == sysModules)=false/\∃ vs,KV kvs vs/\s.heap.DictOf (aJ X.prog X.w) p vs:=I.hok p _ hx;have hlen:kvs.length=vs.length:=YM r;exact wpAny_truthy_dict hS m (by omega) ⟨H,I.tok _,by rw [pG r]; exact q⟩
 | _=>exact (show False from e).elim
theorem u6 (ha:PE X a ta) (he:∀ whole,isTrue a X.env whole=(do let v <- whole; standAt a.pos; holding [v] (truthy v))) :
 PT X a (fun σ H Q=>ta σ H fun x H'=>∃ k,Dc X.K x H' k/\Q k H'):=by
 intro pins s σ H Q I h;exact isTrue_plain (Jw (ha pins s σ H _ I h) fun v s1 ⟨x,H1,I1,r1,q1⟩=>Dd pins s1 σ H1 x v Q I1 r1 q1) (he _)
theorem pH:JK X (binaryOp .Add) (fun x y H Q=>∃ i j,x=.str i/\y=.str j/\i.length+j.length<=sizeLine/\Q (.str (i++j)) H):=by intro pins s σ H x y v u Q I rx ry h;obtain ⟨i,j,rfl,rfl,hz,q⟩:=h;obtain ⟨t,rfl⟩:=rx;obtain ⟨t',rfl⟩:=ry;exact add_str (fun t' tk=>⟨.str (i++j),H,I.tok _,⟨_,rfl⟩,q⟩) hz
theorem cG (r:Vals [x] us):∃ u,us=[u]/\RelV x u:=by
 cases r with
 | cons r1 r2=>cases r2; exact ⟨_,rfl,r1⟩
theorem qV (r:Vals [x,y] us):∃ u w',us=[u,w']/\RelV x u/\RelV y w':=by
 cases r with
 | cons r1 r2=>
  cases r2 with
  | cons r3 r4=>cases r4; exact ⟨_,_,rfl,r1,r3⟩
theorem sV (hc:X.calm=true):Jx X (.builtin "max") (fun xs H Q=>∃ i j,xs=[.int i,.int j]/\Q (.int (if j > i then j else i)) H):=by
 intro pins s σ H xs us Q I r h;obtain ⟨i,j,rfl,q⟩:=h;obtain ⟨u,w',rfl,⟨t,rfl⟩,⟨t',rfl⟩⟩:=qV r;refine max_two_ints (I.ok.hd hc) fun h' tk k=>⟨_,H,I.kept k,?_,q⟩;by_cases hj:j > i
 ·rw [Y1 hj,Y1 hj]; exact ⟨_,rfl⟩
 ·rw [Y0 hj,Y0 hj]; exact ⟨_,rfl⟩
theorem sW (hc:X.calm=true):Jx X (.builtin "min") (fun xs H Q=>∃ i j,xs=[.int i,.int j]/\Q (.int (if j < i then j else i)) H):=by
 intro pins s σ H xs us Q I r h;obtain ⟨i,j,rfl,q⟩:=h;obtain ⟨u,w',rfl,⟨t,rfl⟩,⟨t',rfl⟩⟩:=qV r;refine min_two_ints (I.ok.hd hc) fun h' tk k=>⟨_,H,I.kept k,?_,q⟩;by_cases hj:j < i
 ·rw [Y1 hj,Y1 hj]; exact ⟨_,rfl⟩
 ·rw [Y0 hj,Y0 hj]; exact ⟨_,rfl⟩
theorem sX:Jx X (.type "int") (fun xs H Q=>(∃ i,xs=[.int i]/\Q (.int i) H)∨∃ k,xs=[.bl k]/\Q (.int (if k then 1 else 0)) H):=by
 intro pins s σ H xs us Q I r h;rcases h with ⟨i,rfl,q⟩ | ⟨k,rfl,q⟩
 ·obtain ⟨u,rfl,t,rfl⟩:=cG r;exact call_int_int ⟨.int i,H,I,⟨_,rfl⟩,q⟩
 ·obtain ⟨u,rfl,r1⟩:=cG r;cases r1;exact call_int_bool ⟨.int (if k then 1 else 0),H,I.tok _,⟨_,rfl⟩,q⟩
def Gf (K:PySem.W.Frag) (x:V) (H:Hp) (n:Nat):Prop:=
 match x with
 | .str y=>y.length<=sizeLine/\n=y.length
 | .byt y=>y.size<=sizeLine/\n=y.size
 | .ref p=>(∃ xs,J0 K H p xs/\n=xs.length)∨∃ xs,JW K H p xs/\n=xs.length
 | _=>False
theorem u7:Jx X (.builtin "len") (fun xs H Q=>∃ x n,xs=[x]/\Gf X.K x H n/\Q (.int n) H):=by
 intro pins s σ H xs us Q I r h;obtain ⟨x,n,rfl,e,q⟩:=h;obtain ⟨u,rfl,rx⟩:=cG r;have hl:=gE;have hs:sizeLine=16777216:=Yt;cases x with
 | str y=>obtain ⟨t,rfl⟩:=rx;obtain ⟨hy,e'⟩:y.length<=sizeLine/\n=y.length:=e;subst e';exact len_str (by omega) ⟨.int _,H,I.tok _,⟨_,rfl⟩,q⟩
 | byt y=>obtain ⟨t,rfl⟩:=rx;obtain ⟨hy,e'⟩:y.size<=sizeLine/\n=y.size:=e;subst e';exact PySem.W.len_bytes (by omega) ⟨.int _,H,I.tok _,⟨_,rfl⟩,q⟩
 | ref p=>
  cases rx;have e':(∃ xs,J0 X.K H p xs/\n=xs.length)∨∃ xs,JW X.K H p xs/\n=xs.length:=e;rcases e' with ⟨xs,hx,e'⟩ | ⟨xs,hx,e'⟩
  ·subst e';obtain ⟨its,r',pl,hz⟩:=I.list hx;have hlen:=r'.length;exact Calls.call_len_list pl.isList (by simp only [Z4]; omega) ⟨.int xs.length,H,I.tok _,⟨_,by simp only [Z4]; rw [hlen]⟩,q⟩
  ·subst e';obtain ⟨its,r',pl,hz⟩:=I.tuple hx;have hlen:=r'.length;exact len_tuple pl (by simp only [Z4]; omega) ⟨.int xs.length,H,I.tok _,⟨_,by simp only [Z4]; rw [hlen]⟩,q⟩
 | _=>exact (show False from e).elim
end
structure N8 (h:Heap) (x dx C:Addr) (mA:Str->Option Value):Prop where
 obj:h.get? x=some (PySem.W.instObj C dx)
 ns:h.Ns1 dx mA
 ne:dx ≠ x
theorem sY {h:Heap} {dx:Addr} {mA:Str->Option Value} (n:h.Ns1 dx mA):∃ od,h.get? dx=some od/\∀ name,PySem.W.lookIn name od=some (mA name):=by
 obtain ⟨o,es,ep,ho,hd,hk,_,hm⟩:=n;refine ⟨o,ho,fun name=>?_⟩;have e:=hm name;unfold nsFind findBy at e;rw [<- Array.find?_toList] at e;unfold PySem.W.lookIn;rw [hd];dsimp only;split
 ·rename_i y q;rw [q] at e;exact Y9 some e
 ·rename_i q;rw [q] at e;have a:es.toList.any (·.refKey)=false:=by rw [List.any_eq_false];intro y hy;obtain ⟨z,t,hkey⟩:=hk y (Array.mem_toList_iff.mp hy);simp [DictEntry.refKey,hkey]
  have a':¬ es.toList.any (·.refKey)=true:=by rw [a]; exact MR
  rw [Y0 a'];exact Y9 some e
theorem N8.look (I:N8 h x dx C mA):∃ od,PySem.W.InstAt h x (PySem.W.instObj C dx) C (some od)/\∀ name,PySem.W.lookIn name od=some (mA name):=
 let ⟨od,ho,hl⟩:=sY I.ns
 ⟨od,⟨I.obj,rfl,rfl,ho⟩,hl⟩
theorem J8.some_of (r:J8 (some v) o):∃ u,o=some u/\RelV v u:=by
 cases o with
 | none=>exact (show False from r).elim
 | some u=>exact ⟨u,rfl,r⟩
theorem J8.none_of (r:J8 none o):o=none:=by
 cases o with
 | none=>rfl
 | some u=>exact (show False from r).elim
section
variable {P:Program} {w:World} {H H':Hp} {h h':Heap} {a C dx:Addr} {fs fs':List (Str × V)}
theorem yP (hok:Ky P w H h) (e:H a=some (.ins C dx fs)):∃ mA,N8 h a dx C mA/\(∀ f,J8 (fs.lookup f) (mA f))/\PySem.Within mA (fs.map (·.1))/\fs.length<=1000/\H dx=some (.own a):=by obtain ⟨d,z,ne,ob,mA,n,r,q⟩:=(show Jr P w H h a (.ins C dx fs) from hok a _ e);exact ⟨mA,⟨ob,n,ne⟩,r,q,z,d⟩
end
structure Pt (K:PySem.W.Frag) (C:Addr):Prop where
 pg:PySem.W.plainGet K C Str.empty=true
 hd:PySem.W.hasDictIn K C=true
 po:PySem.W.plainOver K C=true
 sa:PySem.W.findIn K (.ref C) "__setattr__"=some (some (.builtin "object.__setattr__"))
theorem Pt.get {K:PySem.W.Frag} {C:Addr} (c:Pt K C) (f:Str):PySem.W.plainGet K C f=true:=c.pg
section
variable {X:Cx} {pins:List (Addr × Obj)} {σ:St} {H:Hp} {s:Shared} {A:Around} {E:Value->Shared->Prop} {Q:Value->Shared->Prop} {c:Value} {b:Bool}
set_option genInjectivity true in
inductive Ki (K:PySem.W.Frag) (H:Hp):V->Value->Prop where
 | non:Ki K H .non (.type "NoneType")
 | bl (x:Bool):Ki K H (.bl x) (.type "bool")
 | int (i:Int):Ki K H (.int i) (.type "int")
 | str (x:Str):Ki K H (.str x) (.type "str")
 | flt (x:UInt64):Ki K H (.flt x) (.type "float")
 | lst {a:Addr} {xs:List V} (e:H a=some (.lst xs)):Ki K H (.ref a) (.type "list")
 | frz {a:Addr} {o:Obj} {xs:List V} (e:H a=some (.frz o (.lst xs))):Ki K H (.ref a) (.type "list")
 | tup {a:Addr} {xs:List V} (e:H a=some (.tup xs)):Ki K H (.ref a) (.type "tuple")
 | dK {a:Addr} {kvs:List (Key × V)} (e:H a=some (.dK kvs)):Ki K H (.ref a) (.type "dict")
 | dT {a:Addr} {kvs:List (List Key × V)} (e:H a=some (.dT kvs)):Ki K H (.ref a) (.type "dict")
 | ins {a C dx:Addr} {fs:List (Str × V)} (e:H a=some (.ins C dx fs)) (cl:Pt K C) (ha:PySem.W.findIn K (.ref C) "__class__"=some (some (.builtin "object.__class__")))
  (hn:PySem.W.specialIn K (.builtin "object.__class__") "__get__"=some (some (.builtin "getset_descriptor.__get__"))) (htk:PySem.W.takesIn K (.builtin "object.__class__")=some true)
  (hm:PySem.W.mroIn K C (.type "object")=some true):Ki K H (.ref a) (.ref C)
theorem eF {x:V} {u t:Value} (I:Inv X pins σ H s) (rx:RelV x u) (ty:Ki X.K H x t) (e:PySem.W.kitOne X.K t c=some b) (h:∀ tk,Q (.bool b) { s with toks:=tk }) :
 wpAny (model X.prog X.w) A (call (.builtin "isinstance") [u,c]) Q E s:=by
 cases ty with
 | non=>cases (show u=Value.none from rx); exact Yf PySem.W.kitx_none I.Lr True.intro e (fun z=>nomatch z) h
 | bl y=>cases (show u=Value.bool y from rx); exact Yf PySem.W.kitx_bool I.Lr True.intro e (fun z=>nomatch z) h
 | int i=>obtain ⟨t,q⟩:=(show ∃ t,u=Value.int i t from rx); cases q; exact Yf PySem.W.kitx_int I.Lr True.intro e (fun z=>nomatch z) h
 | str y=>obtain ⟨t,q⟩:=(show ∃ t,u=Value.str y t from rx); cases q; exact Yf PySem.W.kitx_str I.Lr True.intro e (fun z=>nomatch z) h
 | flt y=>obtain ⟨t,q⟩:=(show ∃ t,u=Value.float y t from rx); cases q; exact Yf PySem.W.kitx_float I.Lr True.intro e (fun z=>nomatch z) h
 | @lst a xs ea=>cases (show u=Value.ref a from rx);obtain ⟨_,_,n,_,h1⟩:=(show Jr X.prog X.w H s.heap a (.lst xs) from I.hok a _ ea);exact Yf PySem.W.kitx_list I.Lr ⟨_,h1,rfl⟩ e (fun z=>nomatch z) h
 | @frz a ob xs ea=>cases (show u=Value.ref a from rx);obtain ⟨_,_,_,n,_,h1⟩:=(show Jr X.prog X.w H s.heap a (.frz ob (.lst xs)) from I.hok a _ ea);exact Yf PySem.W.kitx_list I.Lr ⟨_,h1,rfl⟩ e (fun z=>nomatch z) h
 | @tup a xs ea=>cases (show u=Value.ref a from rx);obtain ⟨_,_,_,p⟩:=(show Jr X.prog X.w H s.heap a (.tup xs) from I.hok a _ ea);obtain ⟨o,h1,h2,_⟩:=p;exact Yf PySem.W.kitx_tuple I.Lr ⟨o,h1,h2⟩ e (fun z=>nomatch z) h
 | @dK a kvs ea=>cases (show u=Value.ref a from rx);obtain ⟨_,_,vs,_,p⟩:=(show Jr X.prog X.w H s.heap a (.dK kvs) from I.hok a _ ea);obtain ⟨o,es,ep,h1,h2,_⟩:=p;exact Yf PySem.W.kitx_dict I.Lr ⟨o,h1,h2.1⟩ e (fun z=>nomatch z) h
 | @dT a kvs ea=>cases (show u=Value.ref a from rx);obtain ⟨_,_,xs,_,o,es,ep,h1,h2,_⟩:=(show Jr X.prog X.w H s.heap a (.dT kvs) from I.hok a _ ea);exact Yf PySem.W.kitx_dict I.Lr ⟨o,h1,h2.1⟩ e (fun z=>nomatch z) h
 | @ins a C dx fs ea cl ha hn htk hm=>cases (show u=Value.ref a from rx);obtain ⟨mA,O,_⟩:=yP I.hok ea;obtain ⟨od,J,_⟩:=O.look;exact Yf (PySem.W.kitx_own (cl.get _) cl.hd ha hn htk hm) I.Lr J e (fun z=>nomatch z) h
end
structure JU (k:Nat) (A:Around):Prop where
 hd:A.handled=none
 dp:A.depth+3 * k+5 < recursionLimit
 un:A.units+16 * k+200 < cLine
 gd:A.guards=some []:=by rfl
theorem JU.mono {j k:Nat} {A:Around} (r:JU k A) (h:j<=k):JU j A:=⟨r.hd,by have:=r.dp; omega,by have:=r.un; omega,r.gd⟩
theorem JU.deeper (r:JU (k+1) A) (env:Env):JU k (A.deeper env):=
 ⟨r.hd,by have:=r.dp; show A.depth+1+3 * k+5 < _; omega,by have:=r.un; show A.units+3+16 * k+200 < _; omega,r.gd⟩
theorem JU.depth (r:JU k A):A.depth < recursionLimit:=by have:=r.dp; omega
def dB:TA:=fun _ H Q=>Q [] H
def bS (ta:TE) (tr:TA):TA:=fun σ H Q=>ta σ H fun x H1=>tr σ H1 fun xs H2=>Q (x::xs) H2
section
variable {X:Cx} {e:Expr} {es:List Expr} {te:TE} {t:TA} {pos:Pos}
theorem De:PA X [] dB:=fun _ _ _ _ H Q I h=>Calls.spliced_nil ⟨[],H,I,.nil,h⟩
theorem yQ (ha:PE X e te) (hr:PA X es t) (hs:starEach (e::es) X.env=(false,eval e X.env)::starEach es X.env:=by rfl):PA X (e::es) (bS te t):=by intro pos pins s σ H Q I h;rw [hs];show wpAny _ _ (spliced ((false,eval e X.env)::backTo pos (starEach es X.env))) _ _ s;refine Calls.spliced_cons (Jw (ha pins s σ H _ I h) fun u s1 ⟨x,H1,I1,r1,q1⟩=>?_);exact Jw (hr pos pins s1 σ H1 _ I1 q1) fun us s2 ⟨xs,H2,I2,r2,q2⟩=>⟨x::xs,H2,I2,.cons r1 r2,q2⟩
def u8 (t:TA):TE:=fun σ H Q=>t σ H fun xs H1=>xs.length<=sizeLine/\∀ p,H1 p=none->Q (.ref p) (upd H1 p (.tup xs))
def pI (t:TA):TE:=fun σ H Q=>t σ H fun xs H1=>xs.length<=sizeLine/\∀ p,H1 p=none->Q (.ref p) (upd H1 p (.lst xs))
theorem Df {x1} (h:PA X es t):PE X (.Tuple es x1 pos) (u8 t):=by intro pins s σ H Q I hq;refine wpAny_Tuple_spliced (Jw (h pos pins s σ H _ I hq) fun us s1 ⟨xs,H1,I1,r,z,q⟩=>⟨by rw [<- r.length]; exact z,?_⟩);have hf:H1 s1.heap.objs.size=none:=I1.hok.fresh (JI _);refine ⟨.ref s1.heap.objs.size,upd H1 s1.heap.objs.size (.tup xs),I1.laid (t':=s1.toks) (fun b u e=>Z7 _ e) (JI _) ?_,rfl,q _ hf⟩;exact ⟨z,us,r,⟨_,Kv _ rfl,rfl,_,rfl⟩⟩
theorem Dg (h:PA X es t):PE X (.List es pos) (pI t):=by intro pins s σ H Q I hq;refine wpAny_List_spliced (Jw (h pos pins s σ H _ I hq) fun us s1 ⟨xs,H1,I1,r,z,q⟩=>⟨by rw [<- r.length]; exact z,?_⟩);have hf:H1 s1.heap.objs.size=none:=I1.hok.fresh (JI _);refine ⟨.ref s1.heap.objs.size,upd H1 s1.heap.objs.size (.lst xs),I1.laid (t':=s1.toks) (fun b u e=>Z7 _ e) (JI _) ?_,rfl,q _ hf⟩;exact ⟨z,us,0,r,Kv _ rfl⟩
end
abbrev Sp:=List V->Hp->VK->XK->Prop
abbrev MZ:=List Env->Hp->Shared->XK->Value->Shared->Prop
structure Nn (P:Program) (w:World) (K:PySem.W.Frag) (mg:Str->Option Value) (base:Heap) (A:Around) (outer:List Env) (s:Shared) (H:Hp):Prop where
 frames:A.frames=some outer
 mod:Mod K mg base
 bs:∀ b o,base.get? b=some o->s.heap.get? b=some o/\H b=none
 bsz:base.objs.size<=s.heap.objs.size
 K3:s.heap.FunFrames base outer
 frf:∀ b ∈ Mj outer,H b=none
 hok:Ky P w H s.heap
 bare:AllBare s.gens
inductive CE (outer:List Env) (P:Program) (w:World) (H:Hp) (s:Shared) (Q:VK) (u:Value) (s':Shared):Prop
 | mk (v:V) (H':Hp) (o:s'.os=s.os) (b:AllBare s'.gens) (n:Un (Mj outer) [] H H' s.heap s'.heap) (k:Ky P w H' s'.heap) (r:RelV v u) (q:Q v H'):CE outer P w H s Q u s'
def CR (CX:MZ) (outer:List Env) (P:Program) (w:World) (H:Hp) (s:Shared) (Q:VK) (E:XK) (r:Result) (s':Shared):Prop:=
 match r with
 | .ok (.ret u)=>CE outer P w H s Q u s'
 | .ok _=>False
 | .error e=>CX outer H s E e s'
structure Ju (P:Program) (w:World) (K:PySem.W.Frag) (mg:Str->Option Value) (base:Heap) (CX:MZ) (k:Nat) (f:Addr) (fd:FuncData) (ps:List Str) (sp:Sp):Prop where
 len:∀ vs H Q E,sp vs H Q E->vs.length=ps.length
 run:∀ (A:Around) (outer:List Env) (s:Shared) (H:Hp) (args:Args) (us:List Value) (vs:List V) (Q:VK) (E:XK),JU k A->Nn P w K mg base A outer s H->BindsTo s fd args (ps.zip us)->Vals vs us->sp vs H Q E ->
  codeAny (model P w) A (.call (.ref f) args) (CR CX outer P w H s Q E) s
theorem Ju.imp {P:Program} {w:World} {K:PySem.W.Frag} {mg:Str->Option Value} {base:Heap} {CX:MZ} {k:Nat} {f:Addr} {fd:FuncData} {ps:List Str} {sp sp':Sp} (F:Ju P w K mg base CX k f fd ps sp)
 (h:∀ vs H Q E,sp' vs H Q E->sp vs H Q E):Ju P w K mg base CX k f fd ps sp':=
 ⟨fun vs H Q E q=>F.len vs H Q E (h _ _ _ _ q),fun A outer s H args us vs Q E hr he hb hv hs=>F.run A outer s H args us vs Q E hr he hb hv (h _ _ _ _ hs)⟩
section
variable {X:Cx} {pins:List (Addr × Obj)} {σ:St} {H:Hp} {s s':Shared}
theorem Inv.Pb (I:Inv X pins σ H s):Nn X.prog X.w X.K X.mg X.base X.A X.stack s H:=
 ⟨I.ok.frames,I.ok.mod,I.bs,La I.ok.bsz I.sz,I.stack,I.LU,I.hok,I.bare⟩
theorem Inv.after {Q:VK} {u:Value} (I:Inv X pins σ H s) (h:CE X.stack X.prog X.w H s Q u s'):EP X pins σ Q u s':=by obtain ⟨v,H',os,bare,un,hok,r,q⟩:=h;obtain ⟨hh,g,d,t,os'⟩:=s';obtain rfl:os'=s.os:=os;exact ⟨v,H',I.call (h':=hh) (g':=g) (d':=d) (t':=t) (ch:=[]) un hok bare (fun b z=>absurd z (by simp)),r,q⟩
end
def hV (sp:Sp) (dvs:List V) (E:XK) (t:TA):TE:=fun σ H Q=>t σ H fun vs H1=>sp (vs++dvs) H1 Q E
def Binds (K:PySem.W.Frag) (fd:FuncData) (ps:List Str) (ds:List Value):Prop:=
 ∀ (s:Shared) (us:List Value),K.In s.heap->(us++ds).length=ps.length->BindsTo s fd ⟨us,[]⟩ (ps.zip (us++ds))
theorem Binds.all {K:PySem.W.Frag} {fd:FuncData} {ps:List Str} (h:∀ us:List Value,us.length=ps.length->bindArgs fd ⟨us,[]⟩=pure (ps.zip us)):Binds K fd ps []:=fun s us _ hl=>by
 rw [Ma] at hl ⊢;exact .of_eq (h us hl)
def pJ (CX:MZ) (X:Cx) (E:XK):Prop:=∀ (pins:List (Addr × Obj)) (σ:St) (H:Hp) (s:Shared) (e:Value) (s':Shared),Inv X pins σ H s->CX X.stack H s E e s'->X.xe e s'
section
variable {X:Cx} {CX:MZ} {k:Nat} {f C:Addr} {fd:FuncData} {ps:List Str} {sp:Sp} {dvs:List V} {ds:List Value} {E:XK} {x m:Str} {p pos apos:Pos} {e o:Expr} {es:List Expr} {ta:TE} {t:TA}
theorem Dh (F:Ju X.prog X.w X.K X.mg X.base CX k f fd ps sp) (hr:JU k X.A) (hb:Binds X.K fd ps ds) (hd:Vals dvs ds) (hx:pJ CX X E)
 (I:Inv X pins σ H s) (r:Vals vs us) (h:sp (vs++dvs) H Q E):wpAny (model X.prog X.w) X.A (call (.ref f) us) (EP X pins σ Q) X.xe s:=by
 have r2:Vals (vs++dvs) (us++ds):=r.append hd;have hl:(us++ds).length=ps.length:=by rw [<- r2.length]; exact F.len _ _ _ _ h
 refine wpAny_call (codeAny_mono (F.run X.A X.stack s H ⟨us,[]⟩ (us++ds) (vs++dvs) Q E hr I.Pb (hb s us I.Lr hl) r2 h) fun r s' hq=>?_);cases r with
 | error e=>exact hx pins σ H s e s' I hq
 | ok fl=>
  cases fl with
  | ret u=>exact I.after hq
  | _=>exact False.elim hq
theorem yR (F:Ju X.prog X.w X.K X.mg X.base CX k f fd ps sp) (hr:JU k X.A) (hg:Gl X x) (hm:X.mg x=some (.ref f)) (hk:PySem.W.keepIn X.K (.ref f)=true) (hb:Binds X.K fd ps ds) (hd:Vals dvs ds) (hx:pJ CX X E)
 (ha:PA X (e::es) t) (hdb:(x == ("__debug__":Str))=false:=by decide) (he:starEach (e::es) X.env=(false,eval e X.env)::starEach es X.env:=by rfl) (hpl:(backTo pos (starEach es X.env)).any (·.1)=false:=by rfl) :
 PE X (.Call (.Name x p) (e::es) [] pos) (hV sp dvs E t):=by
 intro pins s σ H Q I h;refine wpAny_Call_Name_kw (qR I hg hm ?_ hdb);refine PySem.W.callWith_K (h₀:=X.base) I.ok.mod.kin hk (Jw (ha pos pins s σ H _ I h) fun us s1 ⟨vs,H1,I1,r,q⟩=>⟨I1.Lr,?_⟩) he hpl;exact Dh F hr hb hd hx I1 r q
end
structure Jm (N P:List Str) (sc:Scope):Prop where
 kind:sc.kind=.function
 co:sc.isCoroutine=false
 gen:sc.isGenerator=false
 nd:N.Nodup
 pre:N.take P.length=P
 par:∀ x ∈ P,sc.names.lookup x=some .local∨sc.names.lookup x=some .cell
 nofree:∀ y ∈ sc.names,y.2 ≠ .free
theorem kG {kindOf:Str->Option NameKind} {x:Str}:∀ {binds:List (Str × Value)} {m:Str->Option Value},(∀ v,(x,v) ∉ binds)->bindL kindOf binds m x=m x
 | [],_,_=>rfl
 | (n,v)::r,m,h=>by
  unfold bindL;rw [kG fun w hw=>h w (Z8 _ hw)];split
  ·have:x ≠ n:=by rintro rfl; exact h v Li
   simp [this]
  ·rfl
theorem kH {kindOf:Str->Option NameKind} {x:Str}:∀ {binds:List (Str × Value)} {m:Str->Option Value},(∀ v,(x,v) ∉ binds)->bindC kindOf binds m x=m x
 | [],_,_=>rfl
 | (n,v)::r,m,h=>by
  unfold bindC;rw [kH fun w hw=>h w (Z8 _ hw)];split
  ·rfl
  ·have:x ≠ n:=by rintro rfl; exact h v Li
   simp [this]
theorem kI {kindOf:Str->Option NameKind} {x:Str} {v:Value}:∀ {P:List Str} {vs:List Value} {i:Nat} {m:Str->Option Value},P.Nodup->P[i]?=some x->vs[i]?=some v->kindOf x=some .local ->
 bindL kindOf (P.zip vs) m x=some v
 | [],_,_,_,_,h,_,_=>by simp at h
 | _::_,[],_,_,_,_,h,_=>by simp at h
 | p::P,w::vs,0,m,nd,h1,h2,hk=>by
  simp at h1 h2; subst h1; subst h2;show bindL kindOf ((p,w)::P.zip vs) m p=_;unfold bindL;rw [kG fun v hv=>(List.nodup_cons.mp nd).1 (List.of_mem_zip hv).1,Y1 hk];simp
 | p::P,w::vs,i+1,m,nd,h1,h2,hk=>by
  show bindL kindOf ((p,w)::P.zip vs) m x=_;unfold bindL;exact kI (i:=i) (List.nodup_cons.mp nd).2 (by simpa using h1) (by simpa using h2) hk
theorem kJ {kindOf:Str->Option NameKind} {x:Str} {v:Value}:∀ {P:List Str} {vs:List Value} {i:Nat} {m:Str->Option Value},P.Nodup->P[i]?=some x->vs[i]?=some v->kindOf x ≠ some .local ->
 bindC kindOf (P.zip vs) m x=some v
 | [],_,_,_,_,h,_,_=>by simp at h
 | _::_,[],_,_,_,_,h,_=>by simp at h
 | p::P,w::vs,0,m,nd,h1,h2,hk=>by
  simp at h1 h2; subst h1; subst h2;show bindC kindOf ((p,w)::P.zip vs) m p=_;unfold bindC;rw [kH fun v hv=>(List.nodup_cons.mp nd).1 (List.of_mem_zip hv).1,Y0 hk];simp
 | p::P,w::vs,i+1,m,nd,h1,h2,hk=>by
  show bindC kindOf ((p,w)::P.zip vs) m x=_;unfold bindC;exact kJ (i:=i) (List.nodup_cons.mp nd).2 (by simpa using h1) (by simpa using h2) hk
def start (N:List Str) (vs:List V):St:=vs.map some++List.replicate (N.length - vs.length) none
def jc (CX:MZ) (P:Program) (w:World) (K:PySem.W.Frag) (mg:Str->Option Value) (base:Heap) (N:List Str) (qual:Str) (scope:Scope) (f:Addr) (cd:Value) (A:Around) (outer:List Env) (s:Shared) (H:Hp) (E:XK):Cx where
 prog:=P
 w:=w
 K:=K
 mg:=mg
 base:=base
 A:=A.deeper (envOfC qual scope s.heap.objs.size f cd)
 N:=N
 s₀:=s
 H₀:=H
 env:=envOfC qual scope s.heap.objs.size f cd
 outer:=outer
 stack:=envOfC qual scope s.heap.objs.size f cd::outer
 ex:=[]
 calm:=true
 fn:=fun _=>true
 pn:=[]
 xe:=fun e s'=>wpAny (model P w) (A.deeper (envOfC qual scope s.heap.objs.size f cd)) (leaving (envOfC qual scope s.heap.objs.size f cd) e) (fun _ s''=>CX outer H s E e s'') (fun e' s''=>CX outer H s E e' s'') s'
theorem nM {sc:Scope} {n:Nat} {x:Str} (h:sc.names.lookup x=some .cell):∃ c,(cellsFrom n sc.names []).lookup x=some c:=by have q:=PySem.W.cellsFrom_some sc.names n [] (.inl h);exact Option.isSome_iff_exists.mp q
theorem sZ {CX:MZ} {P:Program} {w:World} {K:PySem.W.Frag} {mg:Str->Option Value} {base:Heap} {N ps:List Str} {qual:Str} {scope:Scope} {f:Addr} {cd:Value} {A:Around} {outer:List Env} {s s1:Shared} {H:Hp} {E:XK} {us:List Value} {vs:List V}
 (S:Jm N ps scope) (hd:A.handled=none) (e0:Nn P w K mg base A outer s H) (hl:vs.length=ps.length) (r:Vals vs us)
 (x:InCallC s s.heap.objs.size (bindL (envOfC qual scope s.heap.objs.size f cd).kindOf (ps.zip us) fun _=>none) (cellsFrom (s.heap.objs.size+1) scope.names []) (bindC (envOfC qual scope s.heap.objs.size f cd).kindOf (ps.zip us) fun _=>none) s1) :
 Inv (jc CX P w K mg base N qual scope f cd A outer s H E) [] (start N vs) H s1:=by
 have hpl:ps.length<=N.length:=by have:=Y9 List.length S.pre; rw [List.length_take] at this; omega
 obtain ⟨h1,tk,rfl,hk⟩:=x.done;have noA:∀ b:Addr,b ∉ (jc CX P w K mg base N qual scope f cd A outer s H E).ex:=fun b z=>absurd (show b ∈ ([]:List Addr) from z) (by simp);refine ⟨⟨e0.mod,S.kind,rfl,rfl,JI _,fun y z c h1 h2=>?_,fun y hy=>?_,fun y c _ h=>?_,fun _=>hd,Around.frames_deeper e0.frames,.inr ⟨rfl,rfl⟩,fun b z=>absurd z (noA b),e0.bs,e0.bsz,fun b _ _=>noA b,fun b z=>absurd z (noA b),e0.K3,e0.frf⟩,
  rfl,e0.bare,Un.kept hk,⟨_,x.toInCall.ns,fun i y v h1 h2 h3=>?_⟩,fun y c h=>⟨_,x.cell y c h⟩,e0.hok.fresh (JI _),fun y c h=>?_,fun p hp=>absurd (show p ∈ ([]:List (Addr × Obj)) from hp) (by simp),e0.hok.kept hk,?_⟩
 ·exact name_of_addr x.apart (Yz h1) (Yz h2)
 ·have hy:scope.names.lookup y=some .cell∨scope.names.lookup y=some .free:=hy;rcases hy with hy | hy
  ·exact nM hy
  ·exact absurd rfl (S.nofree _ (Yz hy))
 ·exact L8 (x.above y c (Yz h))
 ·have hi:i < vs.length:=by
   unfold start at h2;by_cases hi:i < vs.length
   ·exact hi
   ·rw [Yj (by simpa using hi)] at h2;rw [List.getElem?_replicate] at h2;split at h2 <;> cases h2
  have ha:vs[i]?=some v:=by
   unfold start at h2;rw [Yo (by simpa using hi),Kb] at h2;cases e:vs[i]? with
   | none=>rw [e] at h2; cases h2
   | some a=>rw [e] at h2; cases h2; rfl
  obtain ⟨u,hu,rv⟩:=r.get ha;have hp:ps[i]?=some y:=by rw [<- S.pre,List.getElem?_take_of_lt (by omega)]; exact h1
  have ndP:ps.Nodup:=by rw [<- S.pre]; exact S.nd.sublist (List.take_sublist _ _)
  refine ⟨u,rv,?_⟩;rcases S.par y (Y5 hp) with k | k
  ·exact .inl ⟨k,kI ndP hp hu k⟩
  ·obtain ⟨c,e⟩:=nM (n:=s.heap.objs.size+1) k;refine .inr ⟨.inl k,c,e,?_⟩;have q:=x.cell y c e;rw [kJ ndP hp hu (by show scope.names.lookup y ≠ _; rw [k]; decide)] at q;exact q
 ·exact e0.hok.fresh (L8 (x.above y c (Yz h)))
 ·unfold start;show _=N.length;rw [LD,Z2,List.length_replicate];omega
theorem Gg {CX:MZ} {P:Program} {w:World} {K:PySem.W.Frag} {mg:Str->Option Value} {base:Heap} {k:Nat} {f:Addr} {name qual:Str} {params:Arguments} {body:List Stmt} {scope:Scope} {dV kV doc pm cdv ct oc:Value} {an od:Option Addr}
 {osl:Array (Option Value)} {N ps:List Str} {sp:Sp} (lk:K.lookup f=some ⟨oc,od,.func (PySem.W.fnOf name qual params body scope dV kV doc pm an cdv ct),osl⟩) (hcd:PySem.W.codeIn K cdv qual=true) (S:Jm N ps scope)
 (len:∀ vs H Q E,sp vs H Q E->vs.length=ps.length)
 (hbody:∀ (A:Around) (outer:List Env) (s:Shared) (H:Hp) (vs:List V) (Q:VK) (E:XK),JU k (A.deeper (envOfC qual scope s.heap.objs.size f cdv))->sp vs H Q E ->
  ∃ t,K2 (jc CX P w K mg base N qual scope f cdv A outer s H E) body t/\t { nx:=fun _ H'=>Q .non H',rt:=Q } (start N vs) H) :
 Ju P w K mg base CX (k+1) f (PySem.W.fnOf name qual params body scope dV kV doc pm an cdv ct) ps sp:=by
 refine ⟨len,fun A outer s H args us vs Q E hr e0 hb r hsp=>?_⟩;have hl:=len _ _ _ _ hsp;have KX:K.In s.heap:=e0.mod.kin.keeps fun b o e=>(e0.bs b o e).1;have lim:s.heap.NoLimit:=e0.mod.nolimit.keeps fun b o e=>(e0.bs b o e).1;have hkind:∀ y ∈ ps.zip us,scope.names.lookup y.1=some .local∨(scope.names.lookup y.1=some .cell/\((cellsFrom (s.heap.objs.size+1) scope.names []).lookup y.1).isSome=true):=fun ⟨n,v⟩ hy=>by
  rcases S.par n (List.of_mem_zip hy).1 with q | q
  ·exact .inl q
  ·exact .inr ⟨q,PySem.W.cellsFrom_some _ _ _ (.inl q)⟩
 refine codeAny_call_function hr.depth (KX _ _ lk) rfl S.co S.gen rfl (PySem.W.codeRec_of KX hcd) (hb _ _ _ _ ?_);refine wpAny_newFunctionEnv_cells S.kind hkind fun env he s1 x=>?_;subst he;refine ⟨lim.keeps x.toInCall.keep,codeAny_func ?_⟩;obtain ⟨t,ht,hq⟩:=hbody A outer s H vs Q E (hr.deeper _) hsp;have I:Inv (jc CX P w K mg base N qual scope f cdv A outer s H E) [] (start N vs) H s1:=sZ S hr.hd e0 hl r x;refine wpAny_mono (ht [] s1 (start N vs) H _ I hq) (fun fl s' hs=>?_) fun e s' hs=>hs;have fin:∀ {σ':St} {H':Hp} {v:V} {u:Value},Inv (jc CX P w K mg base N qual scope f cdv A outer s H E) [] σ' H' s'->RelV v u->Q v H'->CE outer P w H s Q u s':=
  fun {σ' H' v u} J rv q=>⟨v,H',J.os,J.bare,J.base,J.hok,rv,q⟩
 cases fl with
 | ret u=>obtain ⟨v,σ',H',J,rv,q⟩:=hs;exact fin J rv q
 | next=>obtain ⟨σ',H',J,q⟩:=hs;exact fin (v:=V.non) (u:=Value.none) J rfl q
 | brk=>obtain ⟨_,_,_,q⟩:=hs;exact False.elim q
 | cont=>obtain ⟨_,_,_,q⟩:=hs;exact False.elim q
section
variable {X:Cx} {x:Str} {p pos:Pos} {e:Expr} {es:List Expr} {t:TA} {id T:String} {r:List V->Hp->VK->Prop}
def N6 (r:List V->Hp->VK->Prop) (t:TA):TE:=fun σ H Q=>t σ H fun vs H1=>r vs H1 Q
theorem bd (hc:Jx X (.builtin id) r) (hg:Gl X x) (hm:X.mg x=none) (hv:bootBuiltins x=some (.builtin id)) (ha:PA X (e::es) t) (hn:x ≠ "__name__":=by decide) (hdb:(x == ("__debug__":Str))=false:=by decide)
 (he:starEach (e::es) X.env=(false,eval e X.env)::starEach es X.env:=by rfl) (hpl:(backTo pos (starEach es X.env)).any (·.1)=false:=by rfl):PE X (.Call (.Name x p) (e::es) [] pos) (N6 r t):=by
 intro pins s σ H Q I h;refine wpAny_Call_Name_kw (cM I hg hm hv ?_ hn hdb);exact PyProof.Rows.callWith_builtin1 (Jw (ha pos pins s σ H _ I h) fun us s1 ⟨vs,H1,I1,r1,q1⟩=>hc pins s1 σ H1 vs us Q I1 r1 q1) he hpl
theorem gF (hc:Jx X (.type T) r) (hg:Gl X x) (hm:X.mg x=none) (hv:bootBuiltins x=some (.type T)) (ha:PA X (e::es) t) (hn:x ≠ "__name__":=by decide) (hdb:(x == ("__debug__":Str))=false:=by decide)
 (he:starEach (e::es) X.env=(false,eval e X.env)::starEach es X.env:=by rfl) (hpl:(backTo pos (starEach es X.env)).any (·.1)=false:=by rfl):PE X (.Call (.Name x p) (e::es) [] pos) (N6 r t):=by
 intro pins s σ H Q I h;refine wpAny_Call_Name_kw (cM I hg hm hv ?_ hn hdb);exact Yd (Jw (ha pos pins s σ H _ I h) fun us s1 ⟨vs,H1,I1,r1,q1⟩=>hc pins s1 σ H1 vs us Q I1 r1 q1) he hpl
end
end L2
namespace HT
open PyProof.Rows
def aI:List Int->List Int->Bool
 | [],[]=>false
 | [],_::_=>true
 | _::_,[]=>false
 | x::xs,y::ys=>if x=y then aI xs ys else decide (x < y)
theorem aQ (x y:Int) (xs ys:List Int):aI (x::xs) (y::ys)=if x=y then aI xs ys else decide (x < y):=rfl
theorem cN:aI [] []=false:=rfl
theorem dF (y:Int) (ys:List Int):aI [] (y::ys)=true:=rfl
theorem bx (x:Int) (xs:List Int):aI (x::xs) []=false:=rfl
theorem u9 (A:Around) (s:Shared) (a:Int) (t:Tok) (c:Int) (u:Tok):∃ e,SeqAt.EqAt A s (.int a t) (.int c u) e/\(e=true ↔ a=c):=
 ⟨(a == c),SeqAt.EqAt.int_int a t c u,by simp⟩
theorem va (A:Around) (s:Shared) (a:Int) (t:Tok) (c:Int) (u:Tok) (prog:Program) (w:World) (E:Value->Shared->Prop) (Q:Value->Shared->Prop) (h:Q (.bool (decide (a < c))) s) :
 wpAny (model prog w) A (richCompare .Lt (.int a t) (.int c u)) Q E s:=
 (PyProof.Rows.lt_int h:wpAny (model prog w) A (compareOp .Lt (.int a t) (.int c u)) Q E s)
section
variable {prog:Program} {w:World} {A:Around} {E:Value->Shared->Prop} {s:Shared}
theorem yS (ht:IsTup s.heap t vs.toArray) (hb:IsTup s.heap b ws.toArray) (hv:vs ≠ [])
 (h1:ws=[]->Q (.ref t) s) (h2:ws ≠ []->Q (.ref s.heap.objs.size) { s with heap:=s.heap.push { cls:=.type "tuple",data:=.seq (vs++ws).toArray } })
 (hsz:vs.length+ws.length<=sizeLine):wpAny (model prog w) A (binaryOp .Add (.ref t) (.ref b)) Q E s:=by
 obtain ⟨⟨cls,dd,data,sl⟩,ho,hc,n,hd⟩:=id ht;obtain ⟨⟨cls2,dd2,data2,sl2⟩,ho2,hc2,n2,hd2⟩:=id hb;simp only at hc hd hc2 hd2;subst hc hd hc2 hd2;have e:vs.toArray++ws.toArray=(vs++ws).toArray:=by simp
 by_cases hw:ws=[]
 ·exact concat_meets ⟨_,ho,rfl⟩ ⟨_,ho2,rfl⟩ noFill_tuple_add seq_tuple_add PySem.F.slot_tuple_add PySem.F.entry_tuple_add (PySem.F.args_tuple_add_2 _ _)
   (tuple_addW1 t b vs.toArray ws.toArray n n2 dd dd2 sl sl2 (by simpa using hv) (by simp [hw])) ⟨ho,ho2,h1 hw⟩
 ·refine concat_meets ⟨_,ho,rfl⟩ ⟨_,ho2,rfl⟩ noFill_tuple_add seq_tuple_add PySem.F.slot_tuple_add PySem.F.entry_tuple_add (PySem.F.args_tuple_add_2 _ _)
   (tuple_addW2 t b vs.toArray ws.toArray n n2 dd dd2 sl sl2 (by simpa using hv) (by simpa using hw) (by rw [Z4,Z4]; exact hsz)) ⟨ho,ho2,?_⟩
  rw [e];exact h2 hw
def JE (n d:Nat):Option Int->Nat
 | none=>d
 | some v=>if v < 0 then (v+(n:Int)).toNat else min v.toNat n
theorem yT (n d k:Nat):JE n d (some (k:Int))=min k n:=by show (if (k:Int) < 0 then ((k:Int)+(n:Int)).toNat else min (k:Int).toNat n)=min k n;rw [Y0 (by omega),Yr]
theorem Di (n d:Nat) (hd:d<=n) (o:Option Int):JE n d o<=n:=by
 cases o with
 | none=>exact hd
 | some v=>
  show (if v < 0 then (v+(n:Int)).toNat else min v.toNat n)<=n;by_cases hv:v < 0
  ·rw [Y1 hv]; omega
  ·rw [Y0 hv]; exact Nat.min_le_right _ _
theorem qW (v:Int) (n d:Nat):(if v < 0 then max (v+(n:Int)) 0 else min v (n:Int))=((JE n d (some v):Nat):Int):=by
 show (if v < 0 then max (v+(n:Int)) 0 else min v (n:Int))=(((if v < 0 then (v+(n:Int)).toNat else min v.toNat n):Nat):Int);by_cases hv:v < 0
 ·simp only [Y1 hv]; omega
 ·simp only [Y0 hv]; omega
theorem pK (lo hi:Option Int) (n:Nat):Builtin.Slice.sliceAdjust lo hi 1 (n:Int)=(((JE n 0 lo:Nat):Int),((JE n n hi:Nat):Int)):=by
 have h1:¬ ((1:Int) < 0):=by omega
 unfold Builtin.Slice.sliceAdjust;simp only [h1,if_false];refine Prod.ext ?_ ?_
 ·cases lo with
  | none=>rfl
  | some v=>exact qW v n 0
 ·cases hi with
  | none=>rfl
  | some v=>exact qW v n n
theorem pL (i j:Nat):Builtin.Slice.slicePlaces (i:Int) (j:Int) 1=j - i:=by
 unfold Builtin.Slice.slicePlaces;have h1:(1:Int) > 0:=by omega
 simp only [h1,if_true,Int.ediv_one];split <;> omega
theorem jd (p:IsPart v o) (h:Q o s):wpAny (model prog w) A (Builtin.Slice.slicePartIndex v) Q E s:=by
 cases p with
 | none=>exact slicePart_none h
 | int i t=>exact slicePart_int h
theorem cT {sl:Addr} {vl vu:Value} {lo hi:Option Int} {n:Nat} {Q:Int × Int × Nat->Shared->Prop} (hs:s.heap.IsSliceOf sl vl vu .none) (pl:IsPart vl lo) (pu:IsPart vu hi)
 (h:Q (((JE n 0 lo:Nat):Int),1,JE n n hi - JE n 0 lo) s):wpAny (model prog w) A (Builtin.Slice.sliceApplied (.ref sl) (pure (n:Int))) Q E s:=by
 obtain ⟨os,hos,hcs,hds⟩:=id hs;unfold Builtin.Slice.sliceApplied Builtin.Slice.sliceFields;refine Jk (Jk (YB hos hds (x:=vl) rfl (Jk (YB hos hds (x:=vu) rfl (Jk (YB hos hds (x:=.none) rfl (Jq ?_)))))));refine Jk (slicePart_none ?_);show wpAny _ _ (if ((1:Int) == 0)=true then _ else _) _ _ s;rw [Y0 (by decide)];refine Jk (jd pl (Jk (jd pu (Jk (Jq ?_)))));show wpAny _ _ (match Builtin.Slice.sliceAdjust lo hi 1 (n:Int) with | (lo,hi)=>pure (lo,(1:Int),Builtin.Slice.slicePlaces lo hi 1)) _ _ s;rw [pK lo hi n];show wpAny _ _ (pure (((JE n 0 lo:Nat):Int),(1:Int),Builtin.Slice.slicePlaces ((JE n 0 lo:Nat):Int) ((JE n n hi:Nat):Int) 1)) _ _ s;rw [pL];exact Jq h
theorem vb (xs:Array Value) (i k:Nat):((List.range k).filterMap fun (m:Nat)=>xs[((i:Int)+(m:Int) * 1).toNat]?).toArray=((xs.toList.drop i).take k).toArray:=by
 have e:(fun (m:Nat)=>xs[((i:Int)+(m:Int) * 1).toNat]?)=fun m=>xs[i+m]?:=by
  funext m
  have:((i:Int)+(m:Int) * 1).toNat=i+m:=by omega
  rw [this]
 rw [e];have:=pick_run xs i k;rw [List.filterMap_map] at this;have e2:((fun x=>xs[x]?) ∘ fun x=>i+x)=fun m=>xs[i+m]?:=rfl;rw [e2] at this;rw [this]
theorem fM {t sl:Addr} {items:Array Value} {vl vu:Value} {lo hi:Option Int} {Q:Value->Shared->Prop} (ht:IsTup s.heap t items) (hs:s.heap.IsSliceOf sl vl vu .none) (pl:IsPart vl lo) (pu:IsPart vu hi)
 (hw:¬ (JE items.size 0 lo=0/\JE items.size items.size hi=items.size))
 (h:Q (.ref s.heap.objs.size) { s with heap:=s.heap.push { cls:=.type "tuple",data:=.seq ((items.toList.drop (JE items.size 0 lo)).take (JE items.size items.size hi - JE items.size 0 lo)).toArray } })
 (hsz:items.size<=sizeLine):wpAny (model prog w) A (getItem (.ref t) (.ref sl)) Q E s:=by
 have htake:sizeOk (.seq ((items.toList.drop (JE items.size 0 lo)).take (JE items.size items.size hi - JE items.size 0 lo)).toArray):=by show ((items.toList.drop (JE items.size 0 lo)).take (JE items.size items.size hi - JE items.size 0 lo)).toArray.size<=sizeLine;rw [Z4,List.length_take,List.length_drop,Array.length_toList];omega
 have hj:JE items.size items.size hi<=items.size:=Di _ _ (JI _) hi;obtain ⟨os,hos,hcs,hds⟩:=id hs;have hTs:s.TypeIs (.ref sl) "slice":=⟨os,hos,hcs⟩;unfold getItem
 try with_reducible refine Yh ?_
 first | refine Jk (Jq ?_) | skip
 refine Jk (wpAny_sequenceKey ht.typeIs (by decide) ?_);refine Jk (Yc (name:=Str.ofString "__getitem__") ht.typeIs YC
  (Y7 YC ht.typeIs entry_tuple_getitem ?_ (args_tuple_getitem _ _)))
 show wpAny _ _ (Builtin.Tuple.tupleItemsOf (.ref t) >>= _) _ _ s;refine Jk (tupleItemsOf_ ht ?_);refine Jk (wpAny_typeOf hTs ?_);rw [Y1 (by decide)];refine Jk (cT hs pl pu ?_);have hno:¬ ((((JE items.size 0 lo:Nat):Int) == 0 && (1:Int) == 1 && (JE items.size items.size hi - JE items.size 0 lo) == items.size)=true):=by intro q;rw [Lv,Lv] at q;have q1:((JE items.size 0 lo:Nat):Int)=0:=eq_of_beq q.1.1;have q2:JE items.size items.size hi - JE items.size 0 lo=items.size:=eq_of_beq q.2;exact hw ⟨by omega,by omega⟩
 show wpAny _ _ (if (((JE items.size 0 lo:Nat):Int) == 0 && (1:Int) == 1 && (JE items.size items.size hi - JE items.size 0 lo) == items.size)=true then _ else _) _ _ s;rw [Y0 hno,vb]
 first
  | exact Jk (m:=Builtin.Tuple.tupleExact _) (Y6 (Jq ⟨_,rfl,Jq h⟩) htake)
  | exact Jk (m:=Builtin.Tuple.tupleExact _) (Y6 (Jk (Jq (Jq ⟨_,rfl,Jq h⟩))) htake)
  | exact Jk (Jk (m:=Builtin.Tuple.tupleExact _) (Y6 (Jq (Jq ⟨_,rfl,Jq h⟩)) htake))
  | exact Jk (Jk (m:=Builtin.Tuple.tupleExact _) (Y6 (Jq ⟨_,rfl,Jq h⟩) htake))
end
end HT
namespace L2
open PySem.Spec PyProof.Rows
abbrev TO:=St->Hp->(Option Int->Hp->Prop)->Prop
def PO (X:Cx) (e:Option Expr) (t:TO):Prop:=
 ∀ (pins:List (Addr × Obj)) (s:Shared) (σ:St) (H:Hp) (Q:Option Int->Hp->Prop),Inv X pins σ H s->t σ H Q ->
  wpAny (model X.prog X.w) X.A (evalPart e X.env) (fun u s'=>∃ o H',Inv X pins σ H' s'/\IsPart u o/\Q o H') X.xe s
def qX:TO:=fun _ H Q=>Q none H
def B0 (t:TE):TO:=fun σ H Q=>t σ H fun x H1=>∃ i,x=.int i/\Q (some i) H1
theorem je:∀ {us:List Value},Vals (ns.map V.int) us->IntsAre us ns:=by
 induction ns with
 | nil=>intro us r; rw [Yl] at r; cases r; exact .nil
 | cons n ns ih=>
  intro us r;rw [Z6] at r;cases r with
  | cons r1 r2=>obtain ⟨t,e⟩:=r1;subst e;exact .cons n t (ih r2)
section
variable {X:Cx} {e:Expr} {te:TE} {lo hi:Option Expr} {tl th:TO} {pos p2:Pos}
theorem yU:PO X none qX:=by intro pins s σ H Q I h;rw [evalPart_none];exact Jq ⟨none,H,I,.none,h⟩
theorem yV (h:PE X e te):PO X (some e) (B0 te):=by intro pins s σ H Q I hw;rw [evalPart_some];refine Jw (h pins s σ H _ I hw) fun u s1 ⟨x,H1,I1,r1,q1⟩=>?_;obtain ⟨i,rfl,q⟩:=q1;obtain ⟨t,rfl⟩:=r1;exact ⟨some i,H1,I1,.int i t,q⟩
def M5 (X:Cx) (r:V->Option Int->Option Int->Hp->VK->Prop):Prop:=
 ∀ (pins:List (Addr × Obj)) (s:Shared) (σ:St) (H:Hp) (x:V) (v vl vu:Value) (lo hi:Option Int) (sl:Addr) (Q:VK),Inv X pins σ H s->RelV x v->s.heap.IsSliceOf sl vl vu .none->IsPart vl lo->IsPart vu hi->r x lo hi H Q ->
  ∃ T id,typeLookup (.type T) "__getitem__"=pure (some (.builtin id))/\s.TypeIs v T/\wpAny (model X.prog X.w) X.A (getItem v (.ref sl)) (EP X pins σ Q) X.xe s
theorem M5.or {r r':V->Option Int->Option Int->Hp->VK->Prop} (h:M5 X r) (h':M5 X r'):M5 X (fun x lo hi H Q=>r x lo hi H Q∨r' x lo hi H Q):=by
 intro pins s σ H x v vl vu lo hi sl Q I rx hs pl pu q;rcases q with q | q
 ·exact h pins s σ H x v vl vu lo hi sl Q I rx hs pl pu q
 ·exact h' pins s σ H x v vl vu lo hi sl Q I rx hs pl pu q
def tSl (r:V->Option Int->Option Int->Hp->VK->Prop) (te:TE) (tl th:TO):TE:=fun σ H Q=>te σ H fun x H1=>tl σ H1 fun l H2=>th σ H2 fun u H3=>r x l u H3 Q
theorem nN (hr:M5 X r) (he:PE X e te) (hl:PO X lo tl) (hu:PO X hi th):PE X (.Subscript e (.Slice lo hi none p2) pos) (tSl r te tl th):=by intro pins s σ H Q I h;refine Subscript_ (Jw (he pins s σ H _ I h) fun v s1 ⟨x,H1,I1,r1,q1⟩=>?_);refine wpAny_Slice (Jw (hl pins s1 σ H1 _ I1 q1) fun vl s2 ⟨l,H2,I2,pl,q2⟩=>Jw (hu pins s2 σ H2 _ I2 q2) fun vu s3 ⟨u,H3,I3,pu,q3⟩=>?_);rw [evalPart_none];refine Jq ?_;have I4:Inv X pins σ H3 { s3 with heap:=s3.heap.push { cls:=.type "slice",data:=.fields #[vl,vu,.none] } }:=I3.kept (t':=s3.toks) fun b ob q=>Z7 _ q;obtain ⟨T,id,hT,ht,hg⟩:=hr pins { s3 with heap:=s3.heap.push { cls:=.type "slice",data:=.fields #[vl,vu,.none] } } σ H3 x v vl vu l u s3.heap.objs.size Q I4 r1 (Heap.IsSliceOf.new ..) pl pu q3;show wpAny (model X.prog X.w) X.A (subscriptTail e (.Slice lo hi none p2) v (.ref s3.heap.objs.size)) (EP X pins σ Q) X.xe { s3 with heap:=s3.heap.push { cls:=.type "slice",data:=.fields #[vl,vu,.none] } };exact tail_any (ops:=[.ref s3.heap.objs.size,v]) ht hT hg (by with_unfolding_all rfl)
def kj (xs:List V) (lo hi:Option Int):List V:=(xs.drop (HT.JE xs.length 0 lo)).take (HT.JE xs.length xs.length hi - HT.JE xs.length 0 lo)
theorem hW (xs:List V) (lo hi:Option Int):(kj xs lo hi).length<=xs.length:=by unfold kj;rw [List.length_take,List.length_drop];omega
def Gi (K:PySem.W.Frag):V->Option Int->Option Int->Hp->VK->Prop:=fun x lo hi H Q=>∃ a xs,x=.ref a/\JW K H a xs /\
 ¬ (HT.JE xs.length 0 lo=0/\HT.JE xs.length xs.length hi=xs.length)/\∀ p,H p=none->Q (.ref p) (upd H p (.tup (kj xs lo hi)))
theorem Dj:M5 X (Gi X.K):=by
 intro pins s σ H x v vl vu lo hi sl Q I rx hs pl pu h;obtain ⟨a,xs,rfl,hx,hw,q⟩:=h;cases rx;obtain ⟨its,r,ht,hz⟩:=I.tuple hx;have hlen:its.toArray.size=xs.length:=by rw [Z4]; exact r.length.symm
 refine ⟨"tuple",_,PyProof.Rows.slot_tuple_getitem.lookup,ht.typeIs,?_⟩;refine HT.fM ht hs pl pu (by rw [hlen]; exact hw) ?_ (by rw [hlen]; exact hz);rw [hlen];refine ⟨.ref s.heap.objs.size,_,I.laid (t':=s.toks) (o:=.tup (kj xs lo hi)) (fun b ob q=>Z7 _ q) (JI _) ?_,rfl,q _ (I.hok.fresh (JI _))⟩;exact ⟨La (hW xs lo hi) hz,_,(r.drop (HT.JE xs.length 0 lo)).take (HT.JE xs.length xs.length hi - HT.JE xs.length 0 lo),IsTup.new _ _⟩
def vc (K:PySem.W.Frag):R2:=fun x y H Q=>∃ a b xs ys,x=.ref a/\y=.ref b/\JW K H a xs/\JW K H b ys/\xs ≠ []/\xs.length+ys.length<=sizeLine /\
 (ys=[]->Q (.ref a) H)/\(ys ≠ []->∀ p,H p=none->Q (.ref p) (upd H p (.tup (xs++ys))))
theorem Vals.Lj (r:Vals xs us):us=[] ↔ xs=[]:=by
 cases r with
 | _=>simp
theorem yW:JK X (binaryOp .Add) (vc X.K):=by intro pins s σ H x y v u Q I rx ry h;obtain ⟨a,b,xs,ys,rfl,rfl,ha,hb,hx,hz,q1,q2⟩:=h;cases rx;cases ry;obtain ⟨its,r1,p1,_⟩:=I.tuple ha;obtain ⟨its2,r2,p2,_⟩:=I.tuple hb;refine HT.yS p1 p2 (fun z=>hx (r1.Lj.mp z)) (fun z=>⟨.ref a,H,I,rfl,q1 (r2.Lj.mp z)⟩) (fun z=>?_) (by rw [<- r1.length,<- r2.length]; exact hz);refine ⟨.ref s.heap.objs.size,_,I.laid (t':=s.toks) (o:=.tup (xs++ys)) (fun b ob q=>Z7 _ q) (JI _) ?_,rfl,q2 (fun w=>z (r2.Lj.mpr w)) _ (I.hok.fresh (JI _))⟩;exact ⟨by rw [LD]; exact hz,_,r1.append r2,IsTup.new _ _⟩
end
def Mh (n:Nat) (i:Int):Option Nat:=if 0<=i then (if i < n then some i.toNat else none) else if -(n:Int)<=i then some (i+n).toNat else none
def Ku {α:Type} (xs:List α) (i:Int):Option α:=(Mh xs.length i).bind fun j=>xs[j]?
theorem qY (h:Mh n i=some j):seqIndex? i n=some j/\j < n/\-(n:Int)<=i/\i < n:=by
 unfold Mh at h;by_cases h0:0<=i
 ·rw [Y1 h0] at h;by_cases h1:i < n
  ·rw [Y1 h1] at h;have e:i.toNat=j:=KZ h;exact ⟨by rw [seqIndex_of h0 h1,e],by omega,by omega,h1⟩
  ·rw [Y0 h1] at h; cases h
 ·rw [Y0 h0] at h;by_cases h1:-(n:Int)<=i
  ·rw [Y1 h1] at h;have e:(i+n).toNat=j:=KZ h;exact ⟨by rw [seqIndex_neg (by omega) h1,e],by omega,h1,by omega⟩
  ·rw [Y0 h1] at h; cases h
theorem lZ {α:Type} {xs:List α} {i:Int} {v:α} (h:Ku xs i=some v):∃ j,seqIndex? i xs.length=some j/\xs[j]?=some v/\j < xs.length/\-(xs.length:Int)<=i/\i < xs.length:=by
 unfold Ku at h;cases e:Mh xs.length i with
 | none=>rw [e] at h; cases h
 | some j=>rw [e] at h;obtain ⟨h1,h2,h3,h4⟩:=qY e;exact ⟨j,h1,h,h2,h3,h4⟩
def yX (b:Expr):Prop:=∀ o i,subscripted b false o i=operate [o,i] (getItem o i)
def Lp (X:Cx) (r:R2):Prop:=
 ∀ (value slice:Expr) (pins:List (Addr × Obj)) (s:Shared) (σ:St) (H:Hp) (x y:V) (v u:Value) (Q:VK),Inv X pins σ H s->RelV x v->RelV y u->r x y H Q ->
  subscripted slice false v u=operate [v,u] (getItem v u)->wpAny (model X.prog X.w) X.A (subscriptTail value slice v u) (EP X pins σ Q) X.xe s
def NY (X:Cx) (id:String) (r:V->List V->Hp->VK->Prop):Prop:=
 ∀ (pins:List (Addr × Obj)) (s:Shared) (σ:St) (H:Hp) (x:V) (xs:List V) (v:Value) (us:List Value) (Q:VK),Inv X pins σ H s->RelV x v->Vals xs us->r x xs H Q ->
  wpAny (model X.prog X.w) X.A (call (.builtin id) (v::us)) (EP X pins σ Q) X.xe s
section
variable {X:Cx} {a b:Expr} {ta tb:TE} {pos:Pos}
theorem Lp.or {r r':R2} (h:Lp X r) (h':Lp X r'):Lp X (fun x y H Q=>r x y H Q∨r' x y H Q):=by
 intro value slice pins s σ H x y v u Q I rx ry q hs;rcases q with q | q
 ·exact h value slice pins s σ H x y v u Q I rx ry q hs
 ·exact h' value slice pins s σ H x y v u Q I rx ry q hs
theorem Gj (hr:Lp X r) (ha:PE X a ta) (hb:PE X b tb) (hs:yX b):PE X (.Subscript a b pos) (LF r ta tb):=by intro pins s σ H Q I h;exact Subscript_ (C8 ha hb I h fun v u s2 x y H2 I2 rx ry q=>hr a b pins s2 σ H2 x y v u Q I2 rx ry q (hs _ _))
def Gk (K:PySem.W.Frag):R2:=fun x y H Q=>∃ p xs i v,x=.ref p/\y=.int i/\J0 K H p xs/\Ku xs i=some v/\Q v H
def Gm (K:PySem.W.Frag):R2:=fun x y H Q=>∃ p xs i v,x=.ref p/\y=.int i/\JW K H p xs/\Ku xs i=some v/\Q v H
def Gn:R2:=fun x y H Q=>∃ z i c,x=.str z/\y=.int i/\z.length<=sizeLine/\Ku z.cps.toList i=some c/\Q (.str ⟨#[c]⟩) H
theorem Nw:Lp X (Gk X.K):=by
 intro value slice pins s σ H x y v u Q I rx ry h hs;obtain ⟨p,xs,i,z,rfl,rfl,hq,he,q⟩:=h;cases rx;obtain ⟨t,rfl⟩:=ry;obtain ⟨its,r,pl,hz⟩:=I.list hq;obtain ⟨j,h1,h2,h3,h4,h5⟩:=lZ he;obtain ⟨w,ew,rw'⟩:=r.get h2;have hl:=r.length;have hn:=gE;have fin:EP X pins σ Q w s:=⟨z,H,I,rw',q⟩;by_cases h0:0<=i
 ·have hj:i.toNat=j:=by rw [seqIndex_of h0 h5] at h1;exact KZ h1
  exact item_listR pl.isList h0 (by omega) (by rw [hj]; simpa using ew) fin hs
 ·have hj:(i+(its.toArray.size:Int)).toNat=j:=by rw [seqIndex_neg (by omega) h4] at h1;rw [Z4,<- hl];exact KZ h1
  exact subscriptTail_builtinR (x:=w) pl.isList.typeIs slot_list_getitem.lookup
   (wpAny_getItem_list_neg (Q:=fun r s'=>r=w/\EP X pins σ Q r s') pl.isList (by omega) (by rw [Z4] <;> omega) (by omega) (by rw [hj]; simpa using ew) ⟨rfl,fin⟩) hs
theorem N0:Lp X (Gm X.K):=by
 intro value slice pins s σ H x y v u Q I rx ry h hs;obtain ⟨p,xs,i,z,rfl,rfl,hq,he,q⟩:=h;cases rx;obtain ⟨t,rfl⟩:=ry;obtain ⟨its,r,pl,hz⟩:=I.tuple hq;obtain ⟨j,h1,h2,h3,h4,h5⟩:=lZ he;obtain ⟨w,ew,rw'⟩:=r.get h2;have hl:=r.length;have hn:=gE;have fin:EP X pins σ Q w s:=⟨z,H,I,rw',q⟩;exact subscriptTail_builtinR (x:=w) pl.typeIs slot_tuple_getitem.lookup
  (getItem_tuple (j:=j) (Q:=fun r s'=>r=w/\EP X pins σ Q r s') pl (by omega) (by omega) (by rw [Z4,<- hl]; exact h1) (by simpa using ew) ⟨rfl,fin⟩) hs
theorem Dk:Lp X Gn:=by
 intro value slice pins s σ H x y v u Q I rx ry h hs;obtain ⟨z,i,c,rfl,rfl,hz,he,q⟩:=h;obtain ⟨t,rfl⟩:=rx;obtain ⟨t',rfl⟩:=ry;obtain ⟨j,h1,h2,h3,h4,h5⟩:=lZ he;have hl:z.cps.toList.length=z.length:=by simp [Str.length]
 rw [hl] at h1 h4 h5;have hn:=gE;exact tail_any (typeIs_str s z t) slot_str_getitem.lookup (getItem_str (c:=c) (by
  have e1:decide (i < -(2 ^ 63:Int))=false:=Y2 (by omega);have e2:decide (i ≥ 2 ^ 63)=false:=Y2 (by omega);rw [e1,e2,Bool.or_false]) (by rw [h1]; simpa using h2) ⟨.str ⟨#[c]⟩,H,I.tok _,⟨_,rfl⟩,q⟩) hs
def rIx (K:PySem.W.Frag):R2:=fun x y H Q=>Gk K x y H Q∨Gm K x y H Q∨Gn x y H Q
theorem Ol:Lp X (rIx X.K):=Nw.or (N0.or Dk)
theorem pM (its:List Value) (n j:Nat) (u:Value):Obj.mapSeq (·.setIfInBounds j u) { cls:=.type "list",data:=.seq its.toArray n }={ cls:=.type "list",data:=.seq (its.set j u).toArray n }:=by simp [Obj.mapSeq]
theorem Inv.lst {pins:List (Addr × Obj)} {σ:St} {H:Hp} {s:Shared} {p:Addr} {xs:List V} (I:Inv X pins σ H s) (h:H p=some (.lst xs)) :
 ∃ (its:List Value) (n:Nat),Vals xs its/\s.heap.get? p=some { cls:=.type "list",data:=.seq its.toArray n }/\xs.length<=sizeLine:=by
 obtain ⟨z,its,n,r,e⟩:=I.hok p _ h;exact ⟨its,n,r,e,z⟩
theorem Inv.N5 {pins:List (Addr × Obj)} {σ:St} {H:Hp} {s:Shared} {p:Addr} {xs ys:List V} {its its':List Value} {n n':Nat} {f:Obj->Obj} (I:Inv X pins σ H s) (h:H p=some (.lst xs))
 (ho:s.heap.get? p=some { cls:=.type "list",data:=.seq its.toArray n }) (hf:f { cls:=.type "list",data:=.seq its.toArray n }={ cls:=.type "list",data:=.seq its'.toArray n' }) (r:Vals ys its') (hz:ys.length<=sizeLine) (t:Nat) :
 Inv X pins σ (upd H p (.lst ys)) { s with heap:=s.heap.update p f,toks:=t }:=by
 have e:(s.heap.update p f).get? p=some { cls:=.type "list",data:=.seq its'.toArray n' }:=by rw [Heap.get?_update_self f ho (by rw [hf] <;> rfl),hf]
 refine I.write (x:=p) (e:=p) (by rw [h]; trivial) (.inl rfl) (fun b u hb q=>(Heap.get?_update_other _ _ (YI hb)).trans q) ⟨_,e⟩ ?_;exact ⟨hz,its',n',r,e⟩
def vd:V->V->V->Hp->(Hp->Prop)->Prop:=fun o i v H Q=>∃ p xs k j,o=.ref p/\i=.int k/\H p=some (.lst xs)/\Mh xs.length k=some j/\Q (upd H p (.lst (xs.set j v)))
theorem ve:yM X vd:=by
 intro pins s σ H o i v ov iv u Q I ro ri rv h;obtain ⟨p,xs,k,j,rfl,rfl,hp,hj,q⟩:=h;cases ro;obtain ⟨t,rfl⟩:=ri;obtain ⟨its,n,r,ho,hz⟩:=I.lst hp;obtain ⟨h1,h2,h3,h4⟩:=qY hj;have hl:=r.length;have hn:=gE;have I':Inv X pins σ (upd H p (.lst (xs.set j v))) { s with heap:=s.heap.update p (Obj.mapSeq (·.setIfInBounds j u)) }:=
  I.N5 hp ho (pM its n j u) (r.set rv j) (by rw [K9]; exact hz) s.toks
 by_cases h0:0<=k
 ·have hk:k.toNat=j:=by rw [seqIndex_of h0 h4] at h1;exact KZ h1
  exact PySem.W.ki_setAt ho h0 (by omega) (by rw [Z4,<- hl]; exact h4) (by rw [hk]; exact ⟨_,I',q⟩)
 ·have hk:(k+(its.toArray.size:Int)).toNat=j:=by rw [seqIndex_neg (by omega) h3] at h1;rw [Z4,<- hl];exact KZ h1
  exact PySem.W.ki_setBack ho (by omega) (by rw [Z4,<- hl]; exact h3) (by omega) (by rw [hk]; exact ⟨_,I',q⟩)
theorem kK (i:Int) (n:Nat):max 0 (min (if i < 0 then i+(n:Int) else i) (n:Int))=((if i < 0 then (i+(n:Int)).toNat else min i.toNat n:Nat):Int):=by
 by_cases h:i < 0
 ·rw [Y1 h,Y1 h,Int.min_eq_left (Int.le_trans (Int.add_le_add_right (Int.le_of_lt h) _) (Int.le_of_eq (Int.zero_add _))),Int.ofNat_toNat,Int.max_comm]
 ·rw [Y0 h,Y0 h];obtain ⟨k,rfl⟩:=Int.eq_ofNat_of_zero_le (Int.not_lt.mp h);rw [Yr,Int.max_eq_right (Int.le_min.mpr ⟨Int.natCast_nonneg k,Int.natCast_nonneg n⟩)];rcases Nat.le_total k n with z | z
  ·rw [Nat.min_eq_left z,Int.min_eq_left (Int.ofNat_le.mpr z)]
  ·rw [Nat.min_eq_right z,Int.min_eq_right (Int.ofNat_le.mpr z)]
theorem l5 (lo hi:Option Int) (n:Nat):(sliceBounds lo hi none n).1=((HT.JE n 0 lo:Nat):Int)/\(sliceBounds lo hi none n).2.1=((HT.JE n n hi:Nat):Int)/\(sliceBounds lo hi none n).2.2=1:=by
 refine ⟨?_,?_,rfl⟩
 ·cases lo with
  | none=>simp [sliceBounds,HT.JE]
  | some i=>exact kK i n
 ·cases hi with
  | none=>simp [sliceBounds,HT.JE]
  | some i=>exact kK i n
theorem km (its:List Value) (lo hi:Option Int):slicePick its.toArray lo hi none=((its.drop (HT.JE its.length 0 lo)).take (HT.JE its.length its.length hi - HT.JE its.length 0 lo)).toArray:=by obtain ⟨h1,h2,h3⟩:=l5 lo hi its.toArray.size;unfold slicePick;rw [h1,h2,h3];simp only [sliceRange_one,pick_run,Z4] <;> rfl
def Go (K:PySem.W.Frag):V->Option Int->Option Int->Hp->VK->Prop:=fun x lo hi H Q=>∃ a xs,x=.ref a/\J0 K H a xs/\∀ p,H p=none->Q (.ref p) (upd H p (.lst (kj xs lo hi)))
theorem Ni:M5 X (Go X.K):=by intro pins s σ H x v vl vu lo hi sl Q I rx hs pl pu h;obtain ⟨a,xs,rfl,hx,q⟩:=h;cases rx;obtain ⟨its,r,ht,hz⟩:=I.list hx;have hlen:=r.length;refine ⟨"list",_,slot_list_getitem.lookup,ht.isList.typeIs,?_⟩;refine wpAny_getItem_list_slice ht.isList hs pl pu .none (by simp) ?_ (by rw [Z4] <;> omega);rw [km,<- hlen];refine ⟨.ref s.heap.objs.size,_,I.laid (t':=s.toks) (o:=.lst (kj xs lo hi)) (fun b ob q=>Z7 _ q) (JI _) ?_,rfl,q _ (I.hok.fresh (JI _))⟩;exact ⟨La (hW xs lo hi) hz,_,0,(r.drop (HT.JE xs.length 0 lo)).take (HT.JE xs.length xs.length hi - HT.JE xs.length 0 lo),Kv _ rfl⟩
def cg:V->Bool
 | .non=>true
 | .bl _=>true
 | .int _=>true
 | .str _=>true
 | _=>false
def PD:V->V->Bool
 | .non,.non=>true
 | .bl a,.bl b=>a == b
 | .bl a,.int b=>(if a then 1 else 0) == b
 | .int a,.bl b=>a == (if b then 1 else 0)
 | .int a,.int b=>a == b
 | .str a,.str b=>a == b
 | _,_=>false
theorem l6:JK X (compareOp .NotIn) (fun x y H Q=>∃ i j,x=.str i/\y=.str j/\Q (.bl (!(!(Builtin.Str.occurrences j i 0 j.length 1).isEmpty))) H):=by intro pins s σ H x y v u Q I rx ry h;obtain ⟨i,j,rfl,rfl,q⟩:=h;obtain ⟨t,rfl⟩:=rx;obtain ⟨t',rfl⟩:=ry;exact notIn_str ⟨.bl _,H,I,rfl,q⟩
theorem Jx.or {f:Value} {r r':List V->Hp->VK->Prop} (h:Jx X f r) (h':Jx X f r'):Jx X f (fun xs H Q=>r xs H Q∨r' xs H Q):=by
 intro pins s σ H xs us Q I rs q;rcases q with q | q
 ·exact h pins s σ H xs us Q I rs q
 ·exact h' pins s σ H xs us Q I rs q
theorem ko:Jx X (.type "tuple") (fun xs H Q=>∃ p ys,xs=[.ref p]/\((J0 X.K H p ys/\∀ l,H l=none->Q (.ref l) (upd H l (.tup ys)))∨(JW X.K H p ys/\Q (.ref p) H))):=by
 intro pins s σ H xs us Q I r h;obtain ⟨p,ys,rfl,h⟩:=h;obtain ⟨u,rfl,rx⟩:=cG r;cases rx;rcases h with ⟨hq,q⟩ | ⟨hq,q⟩
 ·obtain ⟨its,r',pl,hz⟩:=I.list hq;have hlen:=r'.length;refine call_tuple_list pl.isList (fun h' kp=>?_) (by simp only [Z4] <;> omega);have I1:Inv X pins σ H { s with heap:=h' }:=I.kept (t':=s.toks) kp;have I2:Inv X pins σ (upd H h'.objs.size (.tup ys)) { s with heap:=h'.push { cls:=.type "tuple",data:=.seq its.toArray } }:=
   I1.laid (t':=s.toks) (fun b o e=>Z7 _ e) (JI _) (show Jr X.prog X.w _ _ _ (.tup ys) from ⟨hz,its,r',IsTup.new _ _⟩)
  exact ⟨.ref h'.objs.size,_,I2,rfl,q _ (I1.hok.fresh (JI _))⟩
 ·obtain ⟨its,r',pl,hz⟩:=I.tuple hq;exact call_tuple_same pl ⟨.ref p,H,I,rfl,q⟩
def Pz (K:PySem.W.Frag) (T:String) (x:V) (H:Hp):Prop:=match x with
 | .str _=>T="str"
 | .int _=>T="int"
 | .ref p=>(T="list"/\∃ xs,J0 K H p xs)∨(T="tuple"/\∃ o,K.lookup p=some o/\o.cls=.type "tuple"/\o.dict=none) ∨
  (T="dict"/\((∃ kvs,H p=some (.dK kvs))∨∃ kvs,H p=some (.dT kvs)))∨(T="set"/\∃ S n,H p=some (.set S n))
 | _=>False
theorem vf (I:Inv X pins σ H s) (r:RelV x v) (ty:Pz X.K T x H) :
 s.TypeIs v T/\∀ a,v=.ref a->∃ ob,s.heap.get? a=some ob/\ob.dict=none:=by
 cases x with
 | str z=>obtain ⟨t,rfl⟩:=r;cases (show T="str" from ty);exact ⟨typeIs_str s z t,fun _ e=>nomatch e⟩
 | int i=>obtain ⟨t,rfl⟩:=r;cases (show T="int" from ty);exact ⟨typeIs_int s i t,fun _ e=>nomatch e⟩
 | ref p=>
  cases r;rcases ty with ⟨rfl,xs,hq⟩ | ⟨rfl,o,hk,hc,hd⟩ | ⟨rfl,hk⟩ | ⟨rfl,S,n,hk⟩
  ·obtain ⟨its,_,pl,_⟩:=I.list hq;refine ⟨pl.isList.typeIs,fun a e=>?_⟩;cases e;obtain ⟨o,n,e,c,hd,_⟩:=pl;exact ⟨o,e,hd⟩
  ·refine ⟨⟨o,I.Lr p o hk,hc⟩,fun a e=>?_⟩;cases e;exact ⟨o,I.Lr _ o hk,hd⟩
  ·have z:∃ o,s.heap.get? p=some o/\o.ExactDict:=by
    rcases hk with ⟨kvs,hk⟩ | ⟨kvs,hk⟩
    ·obtain ⟨_,_,_,_,o,_,_,e,ex,_⟩:=I.hok p _ hk;exact ⟨o,e,ex⟩
    ·obtain ⟨_,_,_,_,o,_,_,e,ex,_⟩:=I.hok p _ hk;exact ⟨o,e,ex⟩
   obtain ⟨o,e,ex⟩:=z;refine ⟨⟨o,e,ex.1⟩,fun a e2=>?_⟩;cases e2;exact ⟨o,e,ex.2.1⟩
  ·obtain ⟨o,_,_,_,e,ex,_⟩:=I.hok p _ hk;refine ⟨⟨o,e,ex.1⟩,fun a e2=>?_⟩;cases e2;exact ⟨o,e,ex.2.1⟩
 | _=>exact False.elim ty
def Dl (K:PySem.W.Frag) (T:String) (r:V->List V->Hp->VK->Prop) (to:TE):TE:=fun σ H Q=>to σ H fun x H1=>Pz K T x H1/\r x [] H1 Q
def Mv (K:PySem.W.Frag) (T:String) (r:V->List V->Hp->VK->Prop) (to:TE) (t:TA):TE:=fun σ H Q=>to σ H fun x H1=>Pz K T x H1/\t σ H1 fun xs H2=>r x xs H2 Q
variable {o e:Expr} {es:List Expr} {to:TE} {t:TA} {name:Str} {apos cpos:Pos} {T id:String} {r:V->List V->Hp->VK->Prop}
theorem Dm (pa:PlainAttrs T) (slot:Slot T name id) (hty:typeOf (.builtin id)=pure (.type "method_descriptor")) (hm:NY X id r) (ho:PE X o to)
 (hbase:attributeBase o name X.env (eval o X.env)=eval o X.env:=by rfl) (hline:(apos.endLine == cpos.line)=true:=by rfl):PE X (.Call (.Attribute o name apos) [] [] cpos) (Dl X.K T r to):=by
 intro pins s σ H Q I h;refine wpAny_Call_method0_late hbase hline (Jw (ho pins s σ H _ I h) fun v s1 ⟨x,H1,I1,r1,ty,q1⟩=>?_);obtain ⟨h1,h2⟩:=vf I1 r1 ty;exact ⟨T,id,pa,slot,hty,h1,h2,Calls.callWith_builtin rfl (PySem.evalArgs_none (hm pins s1 σ H1 x [] v [] Q I1 r1 .nil q1))⟩
theorem vg (pa:PlainAttrs T) (slot:Slot T name id) (hty:typeOf (.builtin id)=pure (.type "method_descriptor")) (hm:NY X id r) (ho:PE X o to) (ha:PA X (e::es) t)
 (hbase:attributeBase o name X.env (eval o X.env)=eval o X.env:=by rfl)
 (hfew:((backTo cpos (starEach (e::es) X.env)).all (fun x=>!x.1) && (backToKw cpos (keywordEach [] X.env)).all (fun x=>x.1.isSome)
  && decide ((e::es).length+([]:List Keyword).length+(if ([]:List Keyword).isEmpty then 0 else 1) < 30))=true:=by rfl)
 (hline:(apos.endLine == cpos.line)=true:=by rfl) (hs:starEach (e::es) X.env=(false,eval e X.env)::starEach es X.env:=by rfl) (hplain:(backTo cpos (starEach es X.env)).any (·.1)=false:=by rfl) :
 PE X (.Call (.Attribute o name apos) (e::es) [] cpos) (Mv X.K T r to t):=by
 intro pins s σ H Q I h;refine wpAny_Call_method_late hbase hfew hline rfl (Jw (ho pins s σ H _ I h) fun v s1 ⟨x,H1,I1,r1,ty,q1⟩=>?_);obtain ⟨h1,h2⟩:=vf I1 r1 ty;refine ⟨T,id,pa,slot,hty,h1,h2,?_⟩;have hA:=ha cpos pins s1 σ H1 _ I1 q1;rw [hs] at hA ⊢;refine Calls.callWith_builtin (by show (false || (backTo cpos (starEach es X.env)).any (·.1))=false; rw [hplain] <;> rfl) (Calls.evalArgs_plain ?_);exact Jw hA fun us s2 ⟨vs,H2,I2,r2,q2⟩=>hm pins s2 σ H2 x vs v us Q I2 r1 r2 q2
end
def MtM (X:Cx) (id:String) (r:V->List V->Hp->VK->Prop):Prop:=
 ∀ (pins:List (Addr × Obj)) (s:Shared) (σ:St) (H:Hp) (x:V) (xs:List V) (v:Value) (us:List Value) (Q:VK),Inv X pins σ H s->RelV x v->Vals xs us->r x xs H Q ->
  wpAny (model X.prog X.w) X.A (call (.builtin id) (v::us)) (EP X pins σ Q) X.xe s
theorem Vals.one:∀ {x:V} {us:List Value},Vals [x] us->∃ u,us=[u]/\RelV x u:=by intro x us h; cases h with | cons r h=>cases h; exact ⟨_,rfl,r⟩
theorem Vals.zero:∀ {us:List Value},Vals [] us->us=[]:=by intro us h; cases h; rfl
theorem Vals.dropLast (h:Vals xs us):Vals xs.dropLast us.dropLast:=by
 induction h with
 | nil=>exact .nil
 | cons r t ih=>
  cases t with
  | nil=>exact .nil
  | cons q t'=>exact .cons r ih
theorem Vals.rep (h:Vals xs us):∀ k:Nat,Vals (List.replicate k xs).flatten (List.replicate k us).flatten
 | 0=>.nil
 | k+1=>by
  rw [LR,LR,MQ,MQ];exact Vals.append h (Vals.rep h k)
theorem pN {α:Type} (l:List α):l.eraseIdx (l.length - 1)=l.dropLast:=by
 induction l with
 | nil=>rfl
 | cons a r ih=>
  cases r with
  | nil=>rfl
  | cons b r=>
   have e:(a::b::r).length - 1=((b::r).length - 1)+1:=by have h1:(a::b::r).length=r.length+2:=rfl;have h2:(b::r).length=r.length+1:=rfl;omega
   rw [e,List.eraseIdx_cons_succ,ih]
   all_goals rfl
theorem kL (its:List Value):∀ (k:Nat) (acc:List Value),
 List.foldl (fun x1 x2=>x1++x2) acc.toArray (List.replicate k its.toArray)=(acc++(List.replicate k its).flatten).toArray
 | 0,acc=>by simp
 | k+1,acc=>by
  have e:acc.toArray++its.toArray=(acc++its).toArray:=by simp
  have e2:(acc++its)++(List.replicate k its).flatten=acc++(List.replicate (k+1) its).flatten:=by rw [LR,MQ,List.append_assoc]
  rw [<- e2,<- kL its k (acc++its),<- e,LR,Oo]
section
variable {X:Cx} {pins:List (Addr × Obj)} {σ:St} {H:Hp} {s:Shared} {l b:Addr} {xs ys zs:List V}
theorem Inv.OJ {its its':List Value} {n:Nat} {f:Array Value->Array Value} {t':Nat} (I:Inv X pins σ H s) (hH:H l=some (.lst xs))
 (e:s.heap.get? l=some { cls:=.type "list",data:=.seq its.toArray n }) (hf:f its.toArray=its'.toArray) (hv:Vals ys its') (hz:ys.length<=sizeLine) :
 Inv X pins σ (upd H l (.lst ys)) { s with heap:=s.heap.update l (Obj.mapSeq f),toks:=t' }:=by
 have q:=PySem.IsL.update e f;rw [hf] at q;refine I.write (x:=l) (e:=l) (by rw [hH]; exact trivial) (.inl rfl) (fun b' u hb hu=>(Heap.get?_update_other s.heap (Obj.mapSeq f) (YI hb)).trans hu) ⟨_,q⟩ ?_;exact ⟨hz,its',_,hv,q⟩
theorem Inv.N7 (I:Inv X pins σ H s) (hv:Vals ys its) (hz:ys.length<=sizeLine) :
 Inv X pins σ (upd H s.heap.objs.size (.lst ys)) { s with heap:=s.heap.push { cls:=.type "list",data:=.seq its.toArray },toks:=t' }:=
 I.laid (fun _ _ q=>Z7 _ q) (JI _) ⟨hz,its,0,hv,Kv _ rfl⟩
theorem Inv.fresh (I:Inv X pins σ H s):H s.heap.objs.size=none:=I.hok.fresh (JI _)
theorem Inv.Nt (I:Inv X pins σ H s) (hH:H l=some (.lst xs)):xs.length<=sizeLine/\∃ (its:List Value) (n:Nat),Vals xs its/\xs.length=its.length/\s.heap.get? l=some { cls:=.type "list",data:=.seq its.toArray n }:=by obtain ⟨z,its,n,r,e⟩:=I.hok l _ hH;exact ⟨z,its,n,r,r.length,e⟩
theorem vh (h:n<=sizeLine):Builtin.List.listTooLong n=false:=by unfold Builtin.List.listTooLong;exact Y2 (by omega)
end
section
variable {X:Cx}
def de:V->List V->Hp->VK->Prop:=fun x vs H Q=>∃ l xs y,x=.ref l/\vs=[y]/\H l=some (.lst xs)/\xs.length < sizeLine/\Q .non (upd H l (.lst (xs++[y])))
theorem s9:MtM X "list.append" de:=by intro pins s σ H x vs v us Q I rx rv h;obtain ⟨l,xs,y,rfl,rfl,hH,hz,q⟩:=h;cases rx;obtain ⟨u,rfl,ru⟩:=rv.one;obtain ⟨z,its,n,r,hl,e⟩:=I.Nt hH;refine call_meets F.slot_list_append ⟨_,e,rfl⟩ F.entry_list_append (F.args_list_append_2 _ _) (PySem.list_append l its.toArray n u (by rw [Z4]; omega)) ⟨e,?_⟩;refine ⟨.non,_,I.OJ (its':=its++[u]) hH e (by simp) (r.append (.cons ru .nil)) ?_,rfl,q⟩;rw [LD,List.length_singleton];omega
def Gp:V->List V->Hp->VK->Prop:=fun x vs H Q=>∃ l xs y,x=.ref l/\vs=[]/\H l=some (.lst xs)/\xs[xs.length - 1]?=some y/\Q y (upd H l (.lst xs.dropLast))
theorem Do:MtM X "list.pop" Gp:=by
 intro pins s σ H x vs v us Q I rx rv h;obtain ⟨l,xs,y,rfl,rfl,hH,hy,q⟩:=h;cases rx;have hus:=rv.zero;subst hus;obtain ⟨z,its,n,r,hl,e⟩:=I.Nt hH;obtain ⟨u,hu,ru⟩:=r.get hy;have hy':its.toArray[its.toArray.size - 1]?=some u:=by show its.toArray[its.length - 1]?=some u;rw [<- YH,<- hl];exact hu
 refine call_meets F.slot_list_pop ⟨_,e,rfl⟩ F.entry_list_pop (F.args_list_pop_1 _) (MeetsSeq.list_pop_last l its.toArray n u hy' (by rw [Z4]; omega)) ⟨e,?_⟩;refine ⟨y,_,I.OJ (its':=its.dropLast) hH e ?_ r.dropLast ?_,ru,q⟩
 ·show its.toArray.eraseIdxIfInBounds (its.toArray.size - 1)=its.dropLast.toArray;rw [Z4,List.eraseIdxIfInBounds_toArray,pN]
 ·rw [List.length_dropLast];omega
def Gq:R2:=fun x y H Q=>∃ l b xs zs,x=.ref l/\y=.ref b/\H l=some (.lst xs)/\H b=some (.lst zs)/\xs.length+zs.length<=sizeLine/\∀ p,H p=none->Q (.ref p) (upd H p (.lst (xs++zs)))
theorem Dp:JK X (binaryOp .Add) Gq:=by
 intro pins s σ H x y v u Q I rx ry h;obtain ⟨l,b,xs,zs,rfl,rfl,hH,hB,hz,q⟩:=h;cases rx;cases ry;obtain ⟨z,its,n,r,hl,e⟩:=I.Nt hH;obtain ⟨z2,its2,n2,r2,hl2,e2⟩:=I.Nt hB;refine PySem.P.add_list e e2 ?_ (by rw [Z4,Z4]; omega);have ea:its.toArray++its2.toArray=(its++its2).toArray:=by simp
 rw [ea];exact ⟨.ref _,_,I.N7 (t':=s.toks) (r.append r2) (by rw [LD]; omega),rfl,q _ I.fresh⟩
theorem yY {α:Type} (xs:List α) (k:Nat):(List.replicate k xs).flatten.length=k * xs.length:=by
 induction k with
 | zero=>simp
 | succ k ih=>rw [LR,MQ,LD,ih,Nat.succ_mul,Nat.add_comm]
end
end L2
namespace Att
open PySem.W PySem.Calls PyProof.Rows
theorem iE:∀ (ns:List Int) (vs:List Value),WellAll P h vs (ns.map WData.int)->IntsAre vs ns:=by
 intro ns
 induction ns with
 | nil=>intro vs w;rw [Yl] at w;cases w;exact .nil
 | cons n ns ih=>
  intro vs w;rw [Z6] at w;cases w with
  | cons a b=>cases a;exact .cons _ _ (ih _ b)
theorem tf {l:OpenLaw} {n:Nat} (hn:l.most=some n) {P:Params} {h:Heap} {args:List WData} {vals:List Value}
 (hpre:l.row.toRowW.claim.pre args=true) (hwl:WellAll P h vals args) :
 ∃ a vs ns,vals=[Value.ref a]/\args=[WData.list (ns.map WData.int)]/\h.get? a=some { cls:=.type "list",data:=.seq vs.toArray }/\IntsAre vs ns/\ns.length<=n:=by
 have hsh:WShape.hasAll [] args [.list .int]=true:=(pre_splitW hpre).1;have hc:l.pre.holds [] { args:=args }=true:=(pre_splitW hpre).2;obtain ⟨d,r,rfl,h1,h2⟩:=hasAllW_cons hsh;obtain rfl:=hasAllW_nil h2;obtain ⟨xs,rfl,h3⟩:=hasW_list h1;obtain ⟨ns,rfl⟩:=items_int h3;have hlen:ns.length<=n:=by
  unfold OpenLaw.pre at hc;have h4:(WTm.not (.lt (.lit (.int (n:Int))) (.len (.arg 0)))).holds [] { args:=[.list (ns.map .int)] }=true:=by have h4:=(holds_andW hc).1;rw [hn] at h4;exact h4
  have h5:=condW_of h4 (w_not (w_lt w_lit (w_len_list (w_arg rfl))));rw [Z2] at h5;refine Nat.le_of_not_lt fun q=>?_;have q':(n:Int) < ((ns.length:Nat):Int):=by omega
  first
   | (rw [decide_eq_true q'] at h5; exact absurd h5 (by decide))
   | (simp at h5; omega)
 cases hwl with
 | cons w1 w2=>
  cases w2;cases w1 with
  | list ho hall=>exact ⟨_,_,ns,rfl,rfl,ho,iE ns _ hall,hlen⟩
theorem tj (l:OpenLaw) (args:List WData):l.row.toRowW.claim.post args (.bool true) args=true:=
 postW_of (r:=l.row.toRowW) (X:=(true == true))
  (show WShape.has [] (.bool true) .bool=true by first | rfl | decide | simp [WShape.has,WShape.arms,WShape.armsAll])
  (show (WTm.eq .res (.lit (.bool true))).value [] { args:=args,res:=some (.bool true),after:=args }=some (.bool (true == true)) from w_eq_bool (w_res rfl) w_lit) rfl
theorem nO {l:OpenLaw} {n:Nat} {q:Program} {loose:List Str} {XP:(Str->Option Value)->Heap->Prop} {YP:World->Heap->Prop} {d:DefRec}
 (hn:l.most=some n) (hdf:d.params.defaults=[])
 (call:∀ (w:World) (s₀ s₁:Shared) (mg mb:Str->Option Value) (fa:Addr) (o:Obj) (pm cd doc:Value) (a:Addr) (vs:List Value) (ns:List Int),
  Ground q loose [] XP w s₀ mg mb s₁.heap->YP w s₁.heap ->
  s₁.heap.get? fa=some o->o.data=.func (docDef d.name d.params d.body d.scope pm cd doc)->s₁.heap.CodeRec cd d.name->mg d.name=some (.ref fa) ->
  s₁.heap.get? a=some { cls:=.type "list",data:=.seq vs.toArray }->IntsAre vs ns->ns.length<=n->s₁.gens=#[] ->
  codeAny (model l.prog w) callerA (.call (.ref fa) ⟨[.ref a],[]⟩) (fun r s'=>r=.ok (.ret (.bool true))/\OldK s₁.heap s'.heap/\s'.os=s₁.os/\AllBare s'.gens) s₁) :
 WalkO q loose XP YP l.row.toRowW d [] (fun f vs=>PySem.call f vs):=by
 intro w s₀ s₁ mg mb G Y fa o pm cd doc dV kV ho hd hcd hD hmg hg args vals as hpre hlay hrd hwl hlo;obtain rfl:dV=.none:=Dflts.none hD hdf;obtain rfl:kV=.none:=Dflts.noKw hD;obtain ⟨a,vs,ns,rfl,rfl,hobj,hints,hlen⟩:=tf hn hpre hwl;refine enter_call (codeAny_mono (call w s₀ s₁ mg mb fa o pm cd doc a vs ns G Y ho (fd_plain hd) hcd hmg hobj hints hlen hg) fun r s' hq=>?_);obtain ⟨rfl,h2,h3,h4⟩:=hq;exact ⟨.inl ⟨.bool true,.bool true,[],rfl,fun _=>rfl,.bool true,tj l _,fun _=>⟨List.Pairwise.nil,fun _ hm=>(nomatch hm)⟩⟩,h2,h3,h4⟩
end Att
namespace L2
open PySem.Spec PyProof.Rows
theorem eG:∀ {vs:List Value} {ns:List Int},IntsAre vs ns->Vals (ns.map V.int) vs
 | _,_,.nil=>.nil
 | _,_,.cons n t h=>.cons ⟨t,rfl⟩ (eG h)
def yZ (H:Hp):Prop:=∀ b,H b=none∨∃ o xs,H b=some (.frz o (.lst xs))
theorem vi {P:Program} {w:World} {K:PySem.W.Frag} {mg mb:Str->Option Value} {CX:MZ} {k:Nat} {fa a:Addr} {fd:FuncData} {x:Str} {sp:Sp} {s₁:Shared} {vs:List Value} {ns:List Int}
 (KX:K.In s₁.heap) (hns:s₁.heap.Ns mainGlobals mg) (hb:s₁.heap.Ns builtinsNs mb) (hbb:∀ x:Str,x ≠ "__name__"->mb x=bootBuiltins x) (hlim:s₁.heap.NoLimit) (hg:s₁.gens=#[])
 (ha:s₁.heap.get? a=some { cls:=.type "list",data:=.seq vs.toArray }) (hi:IntsAre vs ns) (hl:ns.length<=sizeLine) (hr:JU k callerA)
 (F:∀ base:Heap,K.In base->base.Ns mainGlobals mg->Ju P w K mg base CX k fa fd [x] sp) (hbind:∀ (s:Shared) (u:Value),BindsTo s fd ⟨[u],[]⟩ [(x,u)])
 (hsp:∀ H:Hp,yZ H->J0 K H a (ns.map V.int)->sp [.ref a] H (fun v _=>v=.bl true) fun _ _ _=>False)
 (hCX:∀ H e s',CX [] H s₁ (fun _ _ _=>False) e s'->False) :
 codeAny (model P w) callerA (.call (.ref fa) ⟨[.ref a],[]⟩) (fun r s'=>r=.ok (.ret (.bool true))/\OldK s₁.heap s'.heap/\s'.os=s₁.os/\AllBare s'.gens) s₁:=by
 have rv:=eG hi;have lenV:=hi.length;have core:∀ H:Hp,yZ H->J0 K H a (ns.map V.int)->Ky P w H s₁.heap->(∀ b,H b ≠ none->b=a)->(H a ≠ none->K.lookup a=none) ->
  codeAny (model P w) callerA (.call (.ref fa) ⟨[.ref a],[]⟩) (fun r s'=>r=.ok (.ret (.bool true))/\OldK s₁.heap s'.heap/\s'.os=s₁.os/\AllBare s'.gens) s₁:=by
  intro H hO hS hok hA hK;have base_of:∀ {b:Addr} {o:Obj},s₁.heap.get? b=some o->H b=none->(lV s₁.heap H).get? b=some o:=fun e n=>uU e n;have noA:∀ {b:Addr} {o:Obj} {es:Array DictEntry} {ep:Nat},s₁.heap.get? b=some o->o.data=.dict es ep->H b=none:=fun {b o es ep} e d=>by
   cases q:H b with
   | none=>rfl
   | some u=>have e':b=a:=hA b (by rw [q]; simp);subst e';rw [ha] at e; cases e;have d':Data.seq vs.toArray _=Data.dict es ep:=d;cases d'
  have nsK:∀ {b:Addr} {m:Str->Option Value},s₁.heap.Ns b m->(lV s₁.heap H).Ns b m:=fun {b m} ⟨o,es,ep,e,d,r⟩=>⟨o,es,ep,base_of e (noA e d),d,r⟩;have hKb:K.In (lV s₁.heap H):=fun b o e=>base_of (KX b o e) (by
   cases q:H b with
   | none=>rfl
   | some u=>have e':b=a:=hA b (by rw [q]; simp);subst e';rw [hK (by rw [q]; simp)] at e; cases e)
  have hM:Mod K mg (lV s₁.heap H):=⟨hKb,nsK hns,⟨mb,nsK hb,hbb⟩,let ⟨mc,h1,h2⟩:=hlim; ⟨mc,nsK h1,h2⟩⟩;have e0:Nn P w K mg (lV s₁.heap H) callerA [] s₁ H:=⟨rfl,hM,fun b o e=>yH e,YA (sP _ _),trivial,fun b hb=>absurd (show b ∈ ([]:List Addr) from hb) (by simp),hok,.of_eq hg⟩;refine codeAny_mono ((F _ hKb (nsK hns)).run callerA [] s₁ H ⟨[.ref a],[]⟩ [.ref a] [.ref a] _ _ hr e0 (hbind s₁ (.ref a)) (.cons rfl .nil) (hsp H hO hS)) fun r s' h=>?_;cases r with
  | error e=>exact (hCX H e s' h).elim
  | ok fl=>
   cases fl with
   | ret u=>
    obtain ⟨v,H',os,bare,un,hok',r',q⟩:=h;have q':v=.bl true:=q;subst q';obtain rfl:u=Value.bool true:=r';refine ⟨rfl,OldK.of_keep fun b o e=>?_,os,bare⟩;cases q:H b with
    | none=>exact un.keep b o e q (by intro z; exact absurd (show b ∈ ([]:List Addr) from z) (by simp)) (by simp)
    | some u=>
     rcases hO b with z | ⟨ob,xs,z⟩
     ·rw [q] at z; cases z
     ·have z2:=un.frzs b ob _ z;obtain ⟨e1,_⟩:=hok b _ z;obtain ⟨e2,_⟩:=hok' b _ z2;rw [e] at e1; cases e1;exact e2
   | _=>exact False.elim h
 cases hk:K.lookup a with
 | some o=>have e:=KX a o hk;rw [ha] at e;cases e;refine core (fun _=>none) (fun _=>.inl rfl) (.inr ⟨_,vs.toArray,_,hk,rfl,rfl,rfl,by rw [Z4,lenV]; exact hl,by simpa using rv⟩) (fun b u z=>by have z':(none:Option HO)=some u:=z; cases z') (fun b z=>absurd rfl z) fun z=>absurd rfl z
 | none=>
  refine core (fun b=>if b=a then some (.frz { cls:=.type "list",data:=.seq vs.toArray } (.lst (ns.map V.int))) else none) (fun b=>?_) (.inl (.inr ⟨{ cls:=.type "list",data:=.seq vs.toArray },Y1 rfl⟩)) (fun b u z=>?_) (fun b z=>?_) fun _=>hk
  ·by_cases hb:b=a
   ·exact .inr ⟨_,_,Y1 hb⟩
   ·exact .inl (Y0 hb)
  ·by_cases hb:b=a
   ·have z':=(Y1 hb).symm.trans z;cases z';subst hb;exact ⟨ha,by rw [Z2]; exact hl,vs,_,rv,ha⟩
   ·have z':=(Y0 hb).symm.trans z;cases z'
  ·by_cases hb:b=a
   ·exact hb
   ·exact absurd (Y0 hb) z
theorem y0 {l:PySem.W.OpenLaw} {n k:Nat} {q:Program} {loose:List Str} {XP:(Str->Option Value)->Heap->Prop} {YP:World->Heap->Prop} {d:DefRec} {K:Params->PySem.W.Frag} {CX:World->MZ} {sp:World->Sp} {x:Str}
 (hn:l.most=some n) (hn2:n<=sizeLine) (hdf:d.params.defaults=[]) (hr:JU k callerA)
 (hY:∀ (w:World) (h:Heap),YP w h->(K w.params).In h)
 (F:∀ (w:World) (mg:Str->Option Value) (fa:Addr) (h:Heap),(K w.params).In h->h.Ns mainGlobals mg->mg d.name=some (.ref fa) ->
  ∃ fd:FuncData,(∀ (s:Shared) (u:Value),BindsTo s fd ⟨[u],[]⟩ [(x,u)]) /\
   ∀ base:Heap,(K w.params).In base->base.Ns mainGlobals mg->Ju l.prog w (K w.params) mg base (CX w) k fa fd [x] (sp w))
 (hsp:∀ (w:World) (H:Hp) (a:Addr) (ns:List Int),ns.length<=n->yZ H->J0 (K w.params) H a (ns.map V.int)->sp w [.ref a] H (fun v _=>v=.bl true) fun _ _ _=>False)
 (hCX:∀ (w:World) (H:Hp) (s:Shared) (e:Value) (s':Shared),CX w [] H s (fun _ _ _=>False) e s'->False) :
 PySem.W.WalkO q loose XP YP l.row.toRowW d [] (fun f vs=>PySem.call f vs):=by
 refine Att.nO hn hdf fun w s₀ s₁ mg mb fa o pm cd doc a vs ns G Y ho hd hcd hmg hobj hints hlen hg=>?_;have KX:=hY w _ Y;obtain ⟨fd,hb,hF⟩:=F w mg fa _ KX G.T.g hmg;exact vi KX G.T.g G.T.b G.T.builtins G.T.nolimit hg hobj hints (La hlen hn2) hr hF hb (fun H hO hS=>hsp w H a ns hlen hO hS) fun H e s'=>hCX w H s₁ e s'
def eI (s:Stmt):Arguments:=match s with
 | .FunctionDef _ a _ _ _ _ _ _ _ _=>a
 | _=>{ posonlyargs:=[],args:=[],vararg:=none,kwonlyargs:=[],kw_defaults:=[],kwarg:=none,defaults:=[] }
def bg (s:Stmt):List Stmt:=match s with
 | .FunctionDef _ _ b _ _ _ _ _ _ _=>b
 | _=>[]
def ag (s:Stmt):Scope:=match s with
 | .FunctionDef _ _ _ _ _ _ sc _ _ _=>sc
 | _=>{ kind:=.function,names:=[],isGenerator:=false,isCoroutine:=false }
abbrev JV:MZ:=fun _ _ _ _ _ _=>False
abbrev E0:XK:=fun _ _ _=>False
theorem Gs:pJ JV X E0:=fun _ _ _ _ _ _ _ h=>h.elim
structure J1 (K:PySem.W.Frag) (x qual:Str) (st:Stmt) (f:Addr) (fd:FuncData):Prop where
 ex:∃ (oc:Value) (od:Option Addr) (kV doc pm:Value) (an:Option Addr) (cdv ct:Value) (osl:Array (Option Value)),
  fd=PySem.W.fnOf x qual (eI st) (bg st) (ag st) .none kV doc pm an cdv ct/\K.lookup f=some ⟨oc,od,.func fd,osl⟩/\PySem.W.codeIn K cdv qual=true
 kp:PySem.W.keepIn K (.ref f)=true
section
variable {P:Program} {w:World} {K:PySem.W.Frag} {mg:Str->Option Value} {base:Heap}
theorem J1.ok {x qual:Str} {st:Stmt} {f:Addr} {fd:FuncData} {N ps:List Str} {k:Nat} {sp:Sp} (F:J1 K x qual st f fd) (S:Jm N ps (ag st)) (len:∀ vs H Q E,sp vs H Q E->vs.length=ps.length)
 (hbody:∀ (cdv:Value) (A:Around) (outer:List Env) (s:Shared) (H:Hp) (vs:List V) (Q:VK) (E:XK),JU k (A.deeper (envOfC qual (ag st) s.heap.objs.size f cdv))->sp vs H Q E ->
  ∃ t,K2 (jc JV P w K mg base N qual (ag st) f cdv A outer s H E).Nl (bg st) t/\t { nx:=fun _ H'=>Q .non H',rt:=Q } (start N vs) H):Ju P w K mg base JV (k+1) f fd ps sp:=by
 obtain ⟨oc,od,kV,doc,pm,an,cdv,ct,osl,rfl,lk,hcd⟩:=F.ex;refine Gg lk hcd S len fun A outer s H vs Q E hr hsp=>?_;obtain ⟨t,h,q⟩:=hbody cdv A outer s H vs Q E hr hsp;exact ⟨t,h.Nl,q⟩
theorem J1.binds {x qual:Str} {st:Stmt} {f:Addr} {fd:FuncData} {ps:List Str} (F:J1 K x qual st f fd)
 (h:∀ (kV doc pm:Value) (an:Option Addr) (cdv ct:Value) (us:List Value),us.length=ps.length->bindArgs (PySem.W.fnOf x qual (eI st) (bg st) (ag st) .none kV doc pm an cdv ct) ⟨us,[]⟩=pure (ps.zip us)):Binds K fd ps []:=by
 obtain ⟨oc,od,kV,doc,pm,an,cdv,ct,osl,rfl,lk,hcd⟩:=F.ex;exact .all (h kV doc pm an cdv ct)
theorem vj {x qual:Str} {st:Stmt} {f:Addr} {oc:Value} {od an:Option Addr} {osl:Array (Option Value)} {kV doc pm cdv ct:Value} (l:K.lookup f=some ⟨oc,od,.func (PySem.W.fnOf x qual (eI st) (bg st) (ag st) .none kV doc pm an cdv ct),osl⟩)
 (c:PySem.W.codeIn K cdv qual=true) (k:PySem.W.keepIn K (.ref f)=true):J1 K x qual st f (PySem.W.fnOf x qual (eI st) (bg st) (ag st) .none kV doc pm an cdv ct):=⟨⟨oc,od,kV,doc,pm,an,cdv,ct,osl,rfl,l,c⟩,k⟩
end
section
variable {X:Cx}
theorem pv (i:Nat) {x:Str} {pos:Pos} (hN:X.N[i]?=some x:=by rfl) (hv:O6 X.env.scope x:=by first | exact Or.inl rfl | exact Or.inr (Or.inl rfl) | exact Or.inr (Or.inr rfl)) (hd:(x == ("__debug__":Str))=false:=by decide)
 (hcd:(x == ("__classdict__":Str))=false:=by decide):PE X (.Name x pos) (aS i):=CK hN hv hd hcd
end
theorem iF {A B:Prop} (h:B):if false=true then A else B:=by rw [Y0 MR];exact h
theorem iG {A B:Prop} (h:A):if true=true then A else B:=by rw [Y1 rfl];exact h
def Jo (H H':Hp):Prop:=∀ b o,H b=some o->H' b=some o
theorem Jo.refl (H:Hp):Jo H H:=fun _ _ h=>h
theorem Jo.seq {K:PySem.W.Frag} {H H':Hp} {a:Addr} {xs:List V} (e:Jo H H') (h:J0 K H a xs):J0 K H' a xs:=by
 rcases h with (h | ⟨o,h⟩) | h
 ·exact .inl (.inl (e _ _ h))
 ·exact .inl (.inr ⟨o,e _ _ h⟩)
 ·exact .inr h
section
variable {κ:Type} [DecidableEq κ]
def eV (kvs:List (κ × V)) (k:κ):Option V:=(kvs.find? fun kv=>decide (kv.1=k)).map (·.2)
def dC (kvs:List (κ × V)) (k:κ) (v:V):List (κ × V):=
 if (kvs.any fun kv=>decide (kv.1=k))=true then kvs.map (fun kv=>if kv.1=k then (kv.1,v) else kv) else kvs++[(k,v)]
theorem fN {p:κ × V} {r:List (κ × V)} {k:κ} (e:p.1=k):eV (p::r) k=some p.2:=by simp [eV,Mt,e]
theorem fO {p:κ × V} {r:List (κ × V)} {k:κ} (e:¬ p.1=k):eV (p::r) k=eV r k:=by simp [eV,Mt,e]
theorem jf (k:κ):∀ kvs:List (κ × V),(kvs.any fun kv=>decide (kv.1=k))=(eV kvs k).isSome
 | []=>rfl
 | p::r=>by
  rw [List.any_cons];by_cases e:p.1=k
  ·simp only [fN e,decide_eq_true e,Bool.true_or,Option.isSome_some]
  ·rw [fO e,Y2 e,Bool.false_or]; exact jf k r
theorem hX (kvs:List (κ × V)) (k:κ) (v:V):(dC kvs k v).length<=kvs.length+1:=by
 unfold dC;split
 ·rw [Z2]; omega
 ·rw [LD,M8,List.length_nil]; omega
theorem J8.Me (r:J8 o u):o.isSome=u.isSome:=by
 cases o with
 | none=>cases u with
  | none=>rfl
  | some _=>exact (show False from r).elim
 | some _=>cases u with
  | none=>exact (show False from r).elim
  | some _=>rfl
theorem KV.val {kvs:List (κ × V)} {vs:List (κ × Value)} (r:KV kvs vs) (k:κ):J8 (eV kvs k) (valueAt vs k):=by
 unfold KV at r
 induction r with
 | nil=>exact True.intro
 | @cons p q ps qs h t ih=>
  obtain ⟨h1,h2⟩:=h;by_cases e:p.1=k
  ·have e':q.1=k:=h1.symm.trans e;have b:valueAt (q::qs) k=some q.2:=by simp [valueAt,Mt,e']
   rw [fN e,b]; exact h2
  ·have e':¬ q.1=k:=fun z=>e (h1.trans z);have b:valueAt (q::qs) k=valueAt qs k:=by simp [valueAt,Mt,e']
   rw [fO e,b]; exact ih
theorem KV.any (r:KV kvs vs) (k:κ):(kvs.any fun kv=>decide (kv.1=k))=vs.any fun kv=>decide (kv.1=k):=by
 unfold KV at r
 induction r with
 | nil=>rfl
 | cons h t ih=>rw [List.any_cons,List.any_cons,ih,h.1]
theorem KV.Oq (r:KV kvs vs) (k:κ) {y:V} {u:Value} (ry:RelV y u) :
 KV (kvs.map fun kv=>if kv.1=k then (kv.1,y) else kv) (vs.map fun kv=>if kv.1=k then (kv.1,u) else kv):=by
 unfold KV at r ⊢
 induction r with
 | nil=>exact .nil
 | @cons p q ps qs h t ih=>
  rw [Z6,Z6];refine .cons ?_ ih;obtain ⟨h1,h2⟩:=h;by_cases e:p.1=k
  ·rw [Y1 e,Y1 (h1.symm.trans e)]; exact ⟨h1,ry⟩
  ·rw [Y0 e,Y0 (fun z=>e (h1.trans z))]; exact ⟨h1,h2⟩
theorem KV.put (r:KV kvs vs) (k:κ) {y:V} {u:Value} (ry:RelV y u):KV (dC kvs k y) (stored vs k u):=by
 unfold dC stored;rw [r.any k];by_cases e:(vs.any fun kv=>decide (kv.1=k))=true
 ·rw [Y1 e,Y1 e]; exact r.Oq k ry
 ·rw [Y0 e,Y0 e]; exact Paired.snoc r ⟨rfl,ry⟩
theorem KV.length (r:KV kvs vs):kvs.length=vs.length:=YM r
end
theorem vk (r:RelV (kV k) u):(aJ P w).is k u=true:=by
 cases k with
 | inl i=>obtain ⟨t,e⟩:=(show ∃ t,u=Value.int i t from r); subst e; exact nF P w i t
 | inr x=>obtain ⟨t,e⟩:=(show ∃ t,u=Value.str x t from r); subst e; exact nG P w x t
theorem gG:∀ {ks:List Key} {us:List Value},Vals (ks.map kV) us->ItemsAre (aJ P w) ks us
 | [],_,r=>by rw [Yl] at r; cases r; exact .nil
 | k::ks,_,r=>by
  rw [Z6] at r;cases r with
  | cons h t=>exact .cons (vk h) (gG t)
abbrev LZ (H:Hp):List (List Key × V)->List (List Key × Addr × Value)->Prop:=Paired fun p q=>p.1=q.1/\H q.2.1=some (.tup (p.1.map kV))/\RelV p.2 q.2.2
theorem LZ.val {H:Hp} {kvs:List (List Key × V)} {xs:List (List Key × Addr × Value)} (r:LZ H kvs xs) (k:List Key):J8 (eV kvs k) ((atKey xs k).map (·.2)):=by
 induction r with
 | nil=>exact True.intro
 | @cons p q ps qs h t ih=>
  obtain ⟨h1,_,h2⟩:=h;by_cases e:p.1=k
  ·have e':q.1=k:=h1.symm.trans e;have b:atKey (q::qs) k=some q.2:=by simp [atKey,Mt,e']
   rw [fN e,b]; exact h2
  ·have e':¬ q.1=k:=fun z=>e (h1.trans z);have b:atKey (q::qs) k=atKey qs k:=by simp [atKey,Mt,e']
   rw [fO e,b]; exact ih
theorem LZ.Oq (r:LZ H kvs xs) (k:List Key) {y:V} {u:Value} (ry:RelV y u) :
 LZ H (kvs.map fun kv=>if kv.1=k then (kv.1,y) else kv) (xs.map (putAt k u)):=by
 induction r with
 | nil=>exact .nil
 | @cons p q ps qs h t ih=>
  rw [Z6,Z6];refine .cons ?_ ih;obtain ⟨h1,h2,h3⟩:=h;unfold putAt;by_cases e:p.1=k
  ·rw [Y1 e,Y1 (h1.symm.trans e)]; exact ⟨h1,h2,ry⟩
  ·rw [Y0 e,Y0 (fun z=>e (h1.trans z))]; exact ⟨h1,h2,h3⟩
theorem LZ.put (r:LZ H kvs xs) (k:List Key) {b:Addr} {y:V} {u:Value} (hb:H b=some (.tup (k.map kV))) (ry:RelV y u) :
 LZ H (dC kvs k y) (storedH xs k b u):=by
 have e:(kvs.any fun kv=>decide (kv.1=k))=(atKey xs k).isSome:=by rw [jf,(r.val k).Me,Option.isSome_map]
 unfold dC storedH;rw [e];by_cases q:(atKey xs k).isSome=true
 ·rw [Y1 q,Y1 q]; exact r.Oq k ry
 ·rw [Y0 q,Y0 q]; exact Paired.snoc r ⟨rfl,hb,ry⟩
theorem LZ.keeps (r:LZ H kvs xs) (ht:∀ b ys,H b=some (.tup ys)->H' b=some (.tup ys)):LZ H' kvs xs:=
 Paired.Of r fun _ _ z=>⟨z.1,ht _ _ z.2.1,z.2.2⟩
theorem B1 (ok:Ky P w H h) (e:Rd H a u):Jr P w H h a u:=e.ok ok
theorem vm (ok:Ky P w H h) (e:Rd H a (.dK kvs)):kvs.length<=sizeLine/\(a == sysModules)=false/\∃ vs,KV kvs vs/\h.DictOf (aJ P w) a vs:=
 show Jr P w H h a (.dK kvs) from B1 ok e
theorem Gu (ok:Ky P w H h) (e:H a=some (.dK kvs)):kvs.length<=sizeLine/\(a == sysModules)=false/\∃ vs,KV kvs vs/\h.DictOf (aJ P w) a vs:=vm ok (.inl e)
theorem jg (ok:Ky P w H h) (e:H a=some (.tup (ks.map kV))):(tupleKind (aJ P w)).is h ks a:=by obtain ⟨_,its,r,o,h1,h2,n,h3⟩:=(show Jr P w H h a (.tup (ks.map kV)) from ok a _ e);exact ⟨o,its.toArray,n,h1,h2,h3,by simpa using gG r⟩
theorem vo (ok:Ky P w H h) (e:Rd H a (.dT kvs)):kvs.length<=sizeLine/\(a == sysModules)=false /\
 ∃ xs,LZ H kvs xs/\h.DictOfH (tupleKind (aJ P w)) a xs:=by
 obtain ⟨z,y,xs,r,o,es,ep,h1,h2,h3,h4,h5⟩:=(show Jr P w H h a (.dT kvs) from B1 ok e);refine ⟨z,y,xs,r,o,es,ep,h1,h2,h3,h4,fun x hx=>?_,h5⟩;have all:∀ {l:List (List Key × V)} {m:List (List Key × Addr × Value)},LZ H l m->∀ x ∈ m,(tupleKind (aJ P w)).is h x.1 x.2.1:=by
  intro l m q
  induction q with
  | nil=>intro x hx; exact nomatch hx
  | @cons p q ps qs hq t ih=>
   intro x hx;rcases JS.mp hx with e | hx
   ·subst e;exact jg ok (by rw [<- hq.1]; exact hq.2.1)
   ·exact ih x hx
 exact all r x hx
theorem qZ (ok:Ky P w H h) (e:H a=some (.dT kvs)):kvs.length<=sizeLine/\(a == sysModules)=false /\
 ∃ xs,LZ H kvs xs/\h.DictOfH (tupleKind (aJ P w)) a xs:=vo ok (.inl e)
def Dq (H:Hp) (a:Addr) (y:V) (r:Option V):Prop:=
 (∃ kvs k,Rd H a (.dK kvs)/\y=kV k/\r=eV kvs k)∨∃ kvs k b,Rd H a (.dT kvs)/\y=.ref b/\H b=some (.tup (k.map kV))/\r=eV kvs k
def MJ (H:Hp) (a:Addr) (y v:V) (H':Hp):Prop:=
 (∃ kvs k,H a=some (.dK kvs)/\y=kV k/\kvs.length < sizeLine/\H'=upd H a (.dK (dC kvs k v))) ∨
 ∃ kvs k b,H a=some (.dT kvs)/\y=.ref b/\H b=some (.tup (k.map kV))/\kvs.length < sizeLine/\H'=upd H a (.dT (dC kvs k v))
theorem MJ.t {H:Hp} {a b:Addr} {kvs:List (List Key × V)} {k:List Key} {v:V} (e:H a=some (.dT kvs)) (eb:H b=some (.tup (k.map kV))) (hl:kvs.length < sizeLine) :
 MJ H a (.ref b) v (upd H a (.dT (dC kvs k v))):=.inr ⟨kvs,k,b,e,rfl,eb,hl,rfl⟩
theorem Inv.big (I:Inv X pins σ H s):sysModules < s.heap.objs.size:=by have h:mainGlobals < s.heap.objs.size:=(I.mod.glob.keeps I.bk).lt;exact Nat.lt_trans (by decide) h
theorem tm (hu:A.units+1 < cLine) (I:Inv X pins σ H s) (g:Dq H a y (some v)) (ry:RelV y u) (h:∀ w' s',Inv X pins σ H s'->RelV v w'->Q w' s') :
 wpAny (model X.prog X.w) A (getItem (.ref a) u) Q E s:=by
 rcases g with ⟨kvs,k,e,ey,l⟩ | ⟨kvs,k,b,e,ey,eb,l⟩
 ·subst ey;obtain ⟨z,hd,vs,rel,dd⟩:=vm I.hok e;obtain ⟨w',hw,rw'⟩:=J8.some_of (v:=v) (o:=valueAt vs k) (by rw [l]; exact rel.val k);exact wpAny_getItem_of (vk ry) dd.mapOf hw (h w' _ (I.tok _) rw')
 ·subst ey;cases (show u=Value.ref b from ry);obtain ⟨z,hd,xs,rel,dd⟩:=vo I.hok e;obtain ⟨w',hw,rw'⟩:=J8.some_of (v:=v) (o:=(atKey xs k).map (·.2)) (by rw [l]; exact rel.val k);obtain ⟨p,hp,hp2⟩:=Option.map_eq_some_iff.mp hw;refine wpAny_getItem_heap (tupleKind_room_in1 hu) (jg I.hok eb) dd hp ?_;rw [hp2];exact h w' _ (I.tok _) rw'
theorem fP (I:Inv X pins σ H s) (mu:OY (H a)) (hs:Heap.SameBut a s.heap h') (he:∃ q,h'.get? a=some q) (new:Jr X.prog X.w (upd H a ob) h' a ob) :
 Inv X pins σ (upd H a ob) { s with heap:=h',toks:=t' }:=
 I.write (x:=a) (e:=a) mu (.inl rfl) (fun b q hb z=>(hs.2 b hb).trans z) he new
theorem Dr (z:kvs.length<=sizeLine) (hd:(a == sysModules)=false) (rel:KV kvs vs) (dd:h'.DictOf (aJ P w) a vs) :
 Jr P w H' h' a (.dK kvs):=⟨z,hd,vs,rel,dd⟩
theorem kM (hu:A.units+1 < cLine) (I:Inv X pins σ H s) (g:MJ H a y v H') (ry:RelV y u) (rv:RelV v r) (h:∀ s',Inv X pins σ H' s'->Q () s') :
 wpAny (model X.prog X.w) A (setItem (.ref a) u r) Q E s:=by
 rcases g with ⟨kvs,k,e,ey,l,eH⟩ | ⟨kvs,k,b,e,ey,eb,l,eH⟩
 ·subst ey eH;obtain ⟨z,hd,vs,rel,dd⟩:=Gu I.hok e;have hz:vs.length<=sizeLine:=by rw [<- rel.length]; exact z
  have hl:(dC kvs k v).length<=sizeLine:=by have:=hX kvs k v; omega
  refine wpAny_setItem_pairs (hsz:=hz) (vk ry) dd fun h' dd' hs=>h _ ?_;have he:∃ q,h'.get? a=some q:=let ⟨q,_,_,hq,_⟩:=dd'; ⟨q,hq⟩;exact fP I (by rw [e]; exact True.intro) hs he (Dr hl hd (rel.put k rv) dd')
 ·subst ey eH;cases (show u=Value.ref b from ry);obtain ⟨z,hd,xs,rel,dd⟩:=qZ I.hok e;have hz:xs.length<=sizeLine:=by rw [<- YM rel]; exact z
  have hl:(dC kvs k v).length<=sizeLine:=by have:=hX kvs k v; omega
  refine wpAny_setItem_heap (hsz:=hz) (tupleKind_room_in1 hu) (jg I.hok eb) dd fun h' dd' hs=>h _ ?_;obtain ⟨q,es,ep,hq,h2,h3,h4,_,h5⟩:=dd';refine fP I (by rw [e]; exact True.intro) hs ⟨q,hq⟩ ⟨hl,hd,_,(rel.put k eb rv).keeps fun c ys ec=>?_,q,es,ep,hq,h2,h3,h4,h5⟩;rw [ar (BS ec e (fun z=>nomatch z))];exact ec
theorem nP (I:Inv X pins σ H s) (g:Dq H a y o):s.TypeIs (.ref a) "dict":=by
 rcases g with ⟨kvs,k,e,_,_⟩ | ⟨kvs,k,b,e,_,_,_⟩
 ·obtain ⟨_,_,vs,_,dd⟩:=vm I.hok e;exact dd.typeIs
 ·obtain ⟨_,_,xs,_,dd⟩:=vo I.hok e;exact dd.typeIs
theorem vp (h:Heap) (hb:sysModules < h.objs.size):Jr P w H (h.push { cls:=.type "dict",data:=.dict #[] }) h.objs.size (.dK []):=
 ⟨K0 _,beq_eq_false_iff_ne.mpr (YI (Kn hb)),[],.nil,Heap.DictOf.new h⟩
theorem nQ (h:Heap) (hb:sysModules < h.objs.size):Jr P w H (h.push { cls:=.type "dict",data:=.dict #[] }) h.objs.size (.dT []):=
 ⟨K0 _,beq_eq_false_iff_ne.mpr (YI (Kn hb)),[],.nil,_,#[],0,Kv _ rfl,⟨rfl,rfl,rfl⟩,rfl,rfl,List.nodup_nil⟩
def vq:TE:=fun _ H Q=>∀ p,H p=none->Q (.ref p) (upd H p (.dK []))
def vt:TE:=fun _ H Q=>∀ p,H p=none->Q (.ref p) (upd H p (.dT []))
theorem vv:PE X (.Dict [] [] pos) vq:=fun pins s σ H Q I h=>wpAny_Dict_empty ⟨.ref s.heap.objs.size,_,I.laid (a:=s.heap.objs.size) (o:=.dK []) (t':=s.toks) (fun _ _ q=>Z7 _ q) (JI _) (vp s.heap I.big),rfl,h _ (I.hok.fresh (JI _))⟩
theorem vw:PE X (.Dict [] [] pos) vt:=fun pins s σ H Q I h=>wpAny_Dict_empty ⟨.ref s.heap.objs.size,_,I.laid (a:=s.heap.objs.size) (o:=.dT []) (t':=s.toks) (fun _ _ q=>Z7 _ q) (JI _) (nQ s.heap I.big),rfl,h _ (I.hok.fresh (JI _))⟩
def vx:List (TE × TE)->St->Hp->(List (V × V)->Hp->Prop)->Prop
 | [],_,H,Q=>Q [] H
 | (tk,tv)::r,σ,H,Q=>tk σ H fun x H1=>tv σ H1 fun y H2=>vx r σ H2 fun ps H3=>Q ((x,y)::ps) H3
abbrev VV:List (V × V)->List (Value × Value)->Prop:=Paired fun p q=>RelV p.1 q.1/\RelV p.2 q.2
def OE (X:Cx) (pos:Pos) (keys:List (Option Expr)) (values:List Expr) (trs:List (TE × TE)):Prop:=
 ∀ (pins:List (Addr × Obj)) (s:Shared) (σ:St) (H:Hp) (Q:List (V × V)->Hp->Prop),Inv X pins σ H s->vx trs σ H Q ->
  wpAny (model X.prog X.w) X.A (evalPairs (pairTrees keys values X.env pos)) (fun vs s'=>∃ ps H',Inv X pins σ H' s'/\VV ps vs/\Q ps H') X.xe s
theorem q9:OE X pos [] [] []:=fun pins s σ H Q I h=>pairTrees_nil_walk ⟨[],H,I,.nil,h⟩
theorem nR (hk:PE X k tk) (hv:PE X v tv) (hr:OE X pos ks vs trs) :
 OE X pos (some k::ks) (v::vs) ((tk,tv)::trs):=fun pins s σ H Q I h=>
 pairTrees_cons_walk (Jw (hk pins s σ H _ I h) fun u s1 ⟨x,H1,I1,rx,q1⟩=>Jw (hv pins s1 σ H1 _ I1 q1) fun w2 s2 ⟨y,H2,I2,ry,q2⟩=>Jw (hr pins s2 σ H2 _ I2 q2) fun ws s3 ⟨ps,H3,I3,rel,q3⟩=>⟨(x,y)::ps,H3,I3,.cons ⟨rx,ry⟩ rel,q3⟩)
def NA (X:Cx) (pins:List (Addr × Obj)) (b:Addr):Prop:=
 b ≠ X.env.locals/\b ∉ X.fs/\(b ∈ X.ex∨X.s₀.heap.objs.size<=b)/\(∀ x c,X.env.cells.lookup x=some c->c ≠ b)/\∀ p ∈ X.pn++pins,p.1 ≠ b
def bu (its:List Value) (n:Nat):Obj:={ cls:=.type "list",data:=.seq its.toArray n }
inductive Ng (X:Cx) (pins:List (Addr × Obj)) (l:Addr) (Q:St->Hp->List V->Prop) (s':Shared):Prop
 | mk:∀ σ' H' acc its n,Inv X (pins++[(l,bu its n)]) σ' H' s'->Vals acc its->acc.length<=sizeLine->Q σ' H' acc->Ng X pins l Q s'
abbrev TB:=St->Hp->List V->(St->Hp->List V->Prop)->Prop
def PB (X:Cx) (m:Value->Sem Unit) (tb:TB):Prop:=
 ∀ (pins:List (Addr × Obj)) (s:Shared) (σ:St) (H:Hp) (l:Addr) (acc:List V) (its:List Value) (n:Nat) (Q:St->Hp->List V->Prop),Inv X (pins++[(l,bu its n)]) σ H s->NA X pins l->Vals acc its->acc.length<=sizeLine->tb σ H acc Q ->
  wpAny (model X.prog X.w) X.A (m (.ref l)) (fun _ s'=>Ng X pins l Q s') X.xe s
def kN (te:TE):TB:=fun σ H acc Q=>te σ H fun y H1=>acc.length < sizeLine/\Q σ H1 (acc++[y])
theorem Inv.N1 (I:Inv X (pins++[(l,bu its n)]) σ H s) (hl:NA X pins l)
 (sb:Heap.SameBut l s.heap h') (e:h'.get? l=some (bu its' n')):Inv X (pins++[(l,bu its' n')]) σ H { s with heap:=h',toks:=t' }:=by
 obtain ⟨p1,p2,p3,p4,p5⟩:=I.pin (l,bu its n) (by simp);have I0:Inv X pins σ H s:=I.KH;have I1:Inv X pins σ H { s with heap:=h',toks:=t' }:=I0.turned (it:=l) (fun b o hb q=>(sb.2 b hb).trans q) p2 hl.1 hl.2.2.1 hl.2.2.2.1 hl.2.2.2.2;refine I1.KG fun p hp=>?_;rcases Kk.mp hp with hp | hp
 ·exact I1.pin p (MX _ hp)
 ·obtain rfl:p=(l,bu its' n'):=by simpa using hp
  exact ⟨e,p2,hl.1,hl.2.1,fun v z=>by cases z⟩
theorem za (he:PE X elt te):PB X (fun a=>eval elt X.env >>= fun x=>call (.builtin "list.append") [a,x] >>= fun _=>pure ()) (kN te):=by
 intro pins s σ H l acc its n Q I hl rv hz h;refine Jk (Jw (he _ s σ H _ I h) fun u s1 ⟨y,H1,I1,r1,hz1,q1⟩=>?_);obtain ⟨p1,_⟩:=I1.pin (l,bu its n) (by simp);refine Jk (wpAny_list_append_plain (items:=its.toArray) ⟨n,p1⟩ (fun h' ⟨n',e'⟩ sb=>Jq ?_) ?_)
 ·have e2:h'.get? l=some (bu (its++[u]) n'):=by rw [e']; simp [bu]
  exact ⟨σ,H1,acc++[y],its++[u],n',I1.N1 (t':=s1.toks) hl sb e2,rv.append (.cons r1 .nil),by rw [LD]; exact hz1,q1⟩
 ·have:=rv.length;simp; lia
def Nr (X:Cx) (ifs:List Expr) (tt:TT):Prop:=
 ∀ (pins:List (Addr × Obj)) (s:Shared) (σ:St) (H:Hp) (Q:Bool->Hp->Prop),Inv X pins σ H s->tt σ H Q ->
  wpAny (model X.prog X.w) X.A (forIn ifs true fun c r=>if r=true then do let ok <- isTrue c X.env (eval c X.env); pure (ForInStep.yield ok) else pure (ForInStep.yield r)) (TP X pins σ Q) X.xe s
def Gv:TT:=fun _ H Q=>Q true H
theorem zb:Nr X [] Gv:=fun pins s σ H Q I h=>wpAny_tests_nil ⟨H,I,h⟩
theorem zc (h:PT X c tt):Nr X [c] tt:=fun pins s σ H Q I hq=>wpAny_tests_one (h pins s σ H Q I hq)
theorem Ds {α:Type} {a b c d:List α} {p:α} (h:p ∈ (a++b)++c):p ∈ d++((a++c)++b):=by
 simp only [Kk] at h ⊢;rcases h with (h | h) | h
 ·exact .inr (.inl (.inl h))
 ·exact .inr (.inr h)
 ·exact .inr (.inl (.inr h))
theorem Dt {α:Type} {a b c d:List α} {p:α} (h:p ∈ a++c):p ∈ d++((a++b)++c):=by
 simp only [Kk] at h ⊢;rcases h with h | h
 ·exact .inr (.inl (.inl h))
 ·exact .inr (.inr h)
def Nq (g:TG) (tt:TT) (tb:TB) (J:It):TB:=fun σ H acc Q=>∃ W:Nat->Nat->St->Hp->List V->Prop,(∃ m,W 0 m σ H acc)/\∀ i m σ H acc,W i m σ H acc ->
 (J.stop i H/\Q σ H acc)∨(J.go i H/\∃ N:St->Hp->List V->Prop,(∀ σ' H' acc',N σ' H' acc'->∃ m',m' < m/\W (i+1) m' σ' H' acc') /\
  ∀ x H',J.yld i H x H'->g x σ H' fun σ2 H2=>tt σ2 H2 fun b H3=>if b=true then tb σ2 H3 acc N else N σ2 H3 acc)
def B2 (tg iter:Expr) (ifs:List Expr) (env:Env) (m:Sem Unit) (c:Code) (it:Value):Sem PySem.Fin:=do
 standAt iter.pos
 match <- pyNext it with
 | none=>pure (.done .next)
 | some v=>
  letOwnedTupleGo tg it v
  assign tg env v
  let mut ok:=true
  for c in ifs do
   if ok then ok <- isTrue c env (eval c env)
  if ok then m
  again c
inductive Pn (X:Cx) (pins:List (Addr × Obj)) (l:Addr) (fp:List Addr) (tn:Nat->Heap->Prop) (W:Nat->Nat->St->Hp->List V->Prop) (k:Nat) (s':Shared):Prop
 | mk:∀ i σ' H' acc' its' n',Inv X (pins++[(l,bu its' n')]) σ' H' s'->Vals acc' its'->acc'.length<=sizeLine->tn i s'.heap->(∀ b ∈ fp,H' b=none)->W i k σ' H' acc'->Pn X pins l fp tn W k s'
theorem vy {tg iter:Expr} {ifs:List Expr} {g:TG} {tt:TT} {tb:TB} {m:Value->Sem Unit} {c:Value->Value->Code} (hx:X.xe=fun _ _=>False) (hcalm:X.calm=true) (hg:PG X tg g) (ht:Nr X ifs tt) (hb:PB X m tb)
 (hq:∀ it acc,(c it acc).quiet=true) (hA:∀ it acc,X.A.under (c it acc)=X.A) (hd:∀ it acc,∃ f,(model X.prog X.w).den (c it acc)=(B2 tg iter ifs X.env (m acc) (c it acc) it).onRaise f)
 {pins:List (Addr × Obj)} {s:Shared} {σ:St} {H:Hp} {l:Addr} {acc:List V} {its:List Value} {n:Nat} {Q:St->Hp->List V->Prop} {it:Addr} {fp:List Addr} {tn:Nat->Heap->Prop} {J:It}
 (I:Inv X (pins++[(l,bu its n)]) σ H s) (hl:NA X pins l) (rv:Vals acc its) (hz:acc.length<=sizeLine) (T:Turn X.prog X.w X.K tg J fp it tn) (st:tn 0 s.heap) (hf:∀ b ∈ fp,fq X (pins++[(l,bu its n)]) H b)
 (h:Nq g tt tb J σ H acc Q):codeAny (model X.prog X.w) X.A (c (.ref it) (.ref l)) (fun r s'=>r=.ok .next/\Ng X pins l Q s') s:=by
 obtain ⟨W,⟨m0,w0⟩,turn⟩:=h;have hlf:l ∉ fp:=fun z=>(hf l z).2.2.2.2.2 (l,bu its n) (by simp) rfl;have fpS:∀ b ∈ fp,NA X pins b:=fun b hb=>by
  obtain ⟨f0,f1,f2,f3,f4,f5⟩:=hf b hb;exact ⟨f1,f2,f3,f4,fun p hp=>f5 p (by rcases Kk.mp hp with z | z <;> simp [z])⟩
 have stat:∀ {H':Hp} {its':List Value} {n':Nat},(∀ b ∈ fp,H' b=none)->∀ b ∈ fp,fq X (pins++[(l,bu its' n')]) H' b:=fun {H' its' n'} hn b hb=>by
  obtain ⟨f1,f2,f3,f4,f5⟩:=fpS b hb;refine ⟨hn b hb,f1,f2,f3,f4,fun p hp=>?_⟩;rcases Kk.mp hp with z | z
  ·exact f5 p (by simp [z])
  ·rcases Kk.mp z with z | z
   ·exact f5 p (by simp [z])
   ·obtain rfl:p=(l,bu its' n'):=by simpa using z
    exact fun e=>hlf (by rw [show l=b from e]; exact hb)
 refine codeAny_loop (hq _ _) (fun k s'=>Pn X pins l fp tn W k s') ?_ m0
  ⟨0,σ,H,acc,its,n,I,rv,hz,st,fun b hb=>(hf b hb).1,w0⟩
 rintro k s3 ⟨i,σ3,H3,acc3,its3,n3,I3,rv3,hz3,st3,fr3,w3⟩;rw [hA];obtain ⟨f,hf⟩:=hd (.ref it) (.ref l);rw [hf];refine wpAny_onRaise (wpAny_mono (E:=fun _ _=>False) ?_ (fun _ _ q=>q) fun _ _ z=>z.elim);unfold B2;refine Jk (wpAny_standAt (Jk ?_));have hxe:∀ {α:Type} {t:Sem α} {Q':α->Shared->Prop} {s':Shared},wpAny (model X.prog X.w) X.A t Q' X.xe s'->wpAny (model X.prog X.w) X.A t Q' (fun _ _=>False) s':=fun h=>by rw [hx] at h; exact h
 rcases turn i k σ3 H3 acc3 w3 with ⟨stop,qn⟩ | ⟨go,N,hN,step⟩
 ·refine Jw (T.done X rfl rfl rfl hcalm i _ s3 σ3 H3 _ I3 (stat fr3) st3 stop) fun r s4 ⟨hr,I4⟩=>?_;subst hr;exact Jq ⟨rfl,σ3,H3,acc3,its3,n3,I4,rv3,hz3,qn⟩
 ·refine Jw (T.item X rfl rfl rfl hcalm i _ s3 σ3 H3 _ I3 (stat fr3) st3 go) fun r s4 ⟨u,hr,h4⟩=>?_;subst hr;refine Jk (Jw h4 fun _ s5 ⟨x,H5,I5,r5,y5,st5,fr5⟩=>?_);have ob:=T.obj _ _ st5;have I5':Inv X ((pins++fz fp s5.heap)++[(l,bu its3 n3)]) σ3 H5 s5:=by have J5:=I5.pinned (stat fr5) ob;refine J5.KG fun p hp=>J5.pin p ?_;exact Ds hp
  have hlp:NA X (pins++fz fp s5.heap) l:=by
   obtain ⟨f1,f2,f3,f4,f5⟩:=hl;refine ⟨f1,f2,f3,f4,fun p hp=>?_⟩;simp only [Kk] at hp;rcases hp with z | z | z
   ·exact f5 p (by simp [z])
   ·exact f5 p (by simp [z])
   ·exact fun e=>hlf (e ▸ (kF z).1)
  refine Jk (Jw (hxe (hg _ s5 σ3 H5 x u _ I5' r5 (step x H5 y5))) fun _ s6 ⟨σ6,H6,I6,q6⟩=>?_);refine Jk (Jw (hxe (ht _ s6 σ6 H6 _ I6 q6)) fun ok s7 ⟨H7,I7,q7⟩=>?_);have again:∀ {s8:Shared} {σ8:St} {H8:Hp} {acc8:List V} {its8:List Value} {n8:Nat},Inv X ((pins++fz fp s5.heap)++[(l,bu its8 n8)]) σ8 H8 s8->Vals acc8 its8->acc8.length<=sizeLine->N σ8 H8 acc8 ->
   ∃ m,m < k/\Pn X pins l fp tn W m s8:=fun {s8 σ8 H8 acc8 its8 n8} I8 rv8 hz8 n8'=>by
   obtain ⟨m',hm,w8⟩:=hN σ8 H8 acc8 n8';have pinOf:∀ b o,b ∈ fp->s5.heap.get? b=some o->s8.heap.get? b=some o/\H8 b=none:=fun b o hb e=>by
    have z:=I8.pin (b,o) (by simp only [Kk]; exact .inr (.inl (.inr (fA hb e))));exact ⟨z.1,z.2.1⟩
   refine ⟨m',hm,i+1,σ8,H8,acc8,its8,n8,I8.KG fun p hp=>I8.pin p ?_,rv8,hz8,T.keep _ _ _ st5 fun b hb o e=>(pinOf b o hb e).1,fun b hb=>?_,w8⟩
   ·exact Dt hp
   ·obtain ⟨o,e,d⟩:=ob b hb;exact (pinOf b o hb e).2
  cases ok with
  | false=>refine Jk (Jq (Jq ?_));exact ⟨rfl,again I7 rv3 hz3 q7⟩
  | true=>refine Jk (Jw (hxe (hb _ s7 σ6 H7 l acc3 its3 n3 N I7 hlp rv3 hz3 q7)) fun _ s8 ⟨σ8,H8,acc8,its8,n8,I8,rv8,hz8,q8⟩=>Jq ?_);exact ⟨rfl,again I8 rv8 hz8 q8⟩
def cU (cells:List (Str × Addr)):List (Str × NameKind)->List (Str × Addr)->List (Str × Addr)
 | [],cs=>cs
 | (n,k)::r,cs=>cU cells r (if k == .free then (match cells.lookup n with | some c=>(n,c)::cs | none=>cs) else cs)
theorem cH:∀ {ns:List (Str × NameKind)} {cs:List (Str × Addr)},(∀ y d,cs.lookup y=some d->cells.lookup y=some d)->(cU cells ns cs).lookup x=some c->cells.lookup x=some c
 | [],cs,h,e=>h x c e
 | (n,k)::r,cs,h,e=>by
  unfold cU at e;refine cH (ns:=r) (cs:=_) ?_ e;intro y d hy;split at hy
  ·cases q:cells.lookup n with
   | none=>rw [q] at hy; exact h y d hy
   | some c'=>
    rw [q] at hy;simp only [Ys] at hy;split at hy
    ·rename_i heq;have e1:y=n:=by simpa using heq
     cases hy;rw [e1]; exact q
    ·exact h y d hy
  ·exact h y d hy
theorem jh:∀ {ns:List (Str × NameKind)} {cs:List (Str × Addr)},(∃ c,cs.lookup x=some c)->∃ c,(cU cells ns cs).lookup x=some c
 | [],cs,h=>h
 | (n,k)::r,cs,h=>by
  unfold cU;refine jh (ns:=r) ?_;split
  ·cases q:cells.lookup n with
   | none=>exact h
   | some c'=>
    simp only [Ys];split
    ·exact ⟨_,rfl⟩
    ·exact h
  ·exact h
theorem gH (hc:cells.lookup x=some c):∀ {ns:List (Str × NameKind)} {cs:List (Str × Addr)},(x,NameKind.free) ∈ ns->∃ c,(cU cells ns cs).lookup x=some c
 | [],cs,h=>by cases h
 | (n,k)::r,cs,h=>by
  unfold cU;rcases JS.mp h with e | h
  ·cases e;refine jh ?_;rw [hc];simp
  ·exact gH hc h
theorem kr (h:∀ y ∈ scope.names,y.2=.free->∃ c,env.cells.lookup y.1=some c):closureFor scope env=pure (cU env.cells scope.names []):=by
 have go:∀ (ns:List (Str × NameKind)) (cs:List (Str × Addr)),(∀ y ∈ ns,y.2=.free->∃ c,env.cells.lookup y.1=some c) ->
  (forIn ns cs fun (x:Str × NameKind) r=>match x with | (name,kind)=>if (kind == .free)=true then do let a <- cellOf env name; pure (ForInStep.yield ((name,a)::r)) else pure (ForInStep.yield r):Sem _)=pure (cU env.cells ns cs):=by
  intro ns
  induction ns with
  | nil=>intro cs _; rfl
  | cons x r ih=>
   intro cs hh;obtain ⟨n,k⟩:=x;rw [List.forIn_cons];by_cases hk:(k == NameKind.free)=true
   ·have hk':k=.free:=by simpa using hk
    obtain ⟨c,hc⟩:=hh (n,k) Li hk';have e1:cellOf env n=pure c:=by unfold cellOf; rw [show env.cells.lookup n=some c from hc]
    show (if (k == NameKind.free)=true then _ else _) >>= _=_;rw [Y1 hk,e1];refine Eq.trans (ih ((n,c)::cs) fun y hy=>hh y (Z8 _ hy)) ?_
    conv=>rhs; unfold cU
    rw [Y1 hk,show env.cells.lookup n=some c from hc]
   ·show (if (k == NameKind.free)=true then _ else _) >>= _=_;rw [Y0 hk];refine Eq.trans (ih cs fun y hy=>hh y (Z8 _ hy)) ?_
    conv=>rhs; unfold cU
    rw [Y0 hk]
 unfold closureFor;have:=go scope.names [] h;refine Eq.trans (Y9 (fun m=>m >>= fun cs=>pure cs) this) rfl
def aD (X:Cx) (scope:Scope) (ts:List Str) (ix:List Nat) (C:Addr) (s2:Shared) (H2:Hp) (fp:List Addr):Cx where
 prog:=X.prog
 w:=X.w
 K:=X.K
 mg:=X.mg
 base:=X.base
 A:=X.A
 N:=ts++ix.map fun j=>X.N.getD j Str.empty
 s₀:=s2
 H₀:=H2
 env:=compEnvC scope (cU X.env.cells scope.names []) C X.env
 outer:=X.stack
 stack:=X.stack
 ex:=fp
 fn:=fun _=>false
 calm:=X.calm
 pn:=[]
 xe:=fun _ _=>False
def cst (nt:Nat) (ix:List Nat) (σ:St):St:=List.replicate nt none++ix.map fun j=>σ.getD j none
structure JZ (X:Cx) (scope:Scope) (ts:List Str) (ix:List Nat):Prop where
 kind:scope.kind=.function
 nocell:(scope.names.all fun y=>y.2 != .cell)=true
 names:(scope.names.all fun y=>y.2 != .local || scope.names.lookup y.1 == some .local)=true
 free:(scope.names.all fun y=>y.2 != .free || (X.env.kindOf y.1 == some .cell || X.env.kindOf y.1 == some .free))=true
 caps:(ix.all fun j=>decide (j < X.N.length) && (scope.names.lookup (X.N.getD j Str.empty) == some .free))=true
theorem bT {env:Env}:∀ {names:List (Str × NameKind)} {x:Str},names.lookup x=some .free ->
 (names.map fun (n,k)=>if (k == NameKind.free && env.scope.kind == .function && env.kindOf n == some .cell) then (n,NameKind.cell) else (n,k)).lookup x=some .cell ∨
 (names.map fun (n,k)=>if (k == NameKind.free && env.scope.kind == .function && env.kindOf n == some .cell) then (n,NameKind.cell) else (n,k)).lookup x=some .free
 | [],_,h=>by simp at h
 | (n,k)::r,x,h=>by
  have ih:=@bT env r x;rw [Z6];show List.lookup x ((if (k == NameKind.free && env.scope.kind == .function && env.kindOf n == some .cell)=true then (n,NameKind.cell) else (n,k))::_)=_∨List.lookup x ((if (k == NameKind.free && env.scope.kind == .function && env.kindOf n == some .cell)=true then (n,NameKind.cell) else (n,k))::_)=_;cases hx:x == n with
  | true=>
   simp only [Ys,hx] at h;cases h;split <;> simp [Ys,hx]
  | false=>
   simp only [Ys,hx] at h;split <;> (simp only [Ys,hx]; exact ih h)
theorem bU {env:Env}:∀ {names:List (Str × NameKind)} {x:Str},(∀ y ∈ names,y.2 ≠ .cell) ->
 ((names.map fun (n,k)=>if (k == NameKind.free && env.scope.kind == .function && env.kindOf n == some .cell) then (n,NameKind.cell) else (n,k)).lookup x=some .cell ∨
 (names.map fun (n,k)=>if (k == NameKind.free && env.scope.kind == .function && env.kindOf n == some .cell) then (n,NameKind.cell) else (n,k)).lookup x=some .free)->(x,NameKind.free) ∈ names
 | [],_,_,h=>by simp at h
 | (n,k)::r,x,hn,h=>by
  have ih:=@bU env r x fun y hy=>hn y (Z8 _ hy);have hk:=hn (n,k) Li;rw [Z6] at h;change List.lookup x ((if (k == NameKind.free && env.scope.kind == .function && env.kindOf n == some .cell)=true then (n,NameKind.cell) else (n,k))::_)=_∨List.lookup x ((if (k == NameKind.free && env.scope.kind == .function && env.kindOf n == some .cell)=true then (n,NameKind.cell) else (n,k))::_)=_ at h;cases hx:x == n with
  | true=>
   have e:x=n:=by simpa using hx
   subst e;have kf:k=.free:=by
    split at h
    ·rename_i hc;simp only [Lv,beq_iff_eq] at hc;exact hc.1.1
    ·simp only [Ys,hx] at h;rcases h with h | h
     ·cases h; exact absurd rfl hk
     ·cases h; rfl
   rw [kf]; exact Li
  | false=>
   refine Z8 _ (ih ?_);split at h <;> (simp only [Ys,hx] at h; exact h)
theorem ji {α:Type}:∀ {l:List (Str × α)} {x:Str} {a:α},l.lookup x=some a->(x,a) ∈ l:=fun h=>Yz h
theorem pO {l C:Addr} {fp:List Addr} {h4:Heap} {tk:Nat} (I:Inv X pins σ H s) (S:JZ X scope ts ix) (hcalm:X.calm=true)
 (hf:∀ b ∈ fp,fq X pins H b) (ho:∀ b ∈ fp,∃ o,s.heap.get? b=some o) (keep:∀ b o,s.heap.get? b=some o->h4.get? b=some o) (hl:h4.get? l=some (bu [] 0)) (hls:s.heap.objs.size<=l) (hC:s.heap.objs.size<=C) (hlC:l ≠ C)
 (ns:h4.Ns C fun _=>none):Inv (aD X scope ts ix C s H fp) ([]++[(l,bu [] 0)]) (cst ts.length ix σ) H { s with heap:=h4,toks:=tk }:=by
 have nocell:∀ y ∈ scope.names,y.2 ≠ .cell:=fun y hy=>by simpa using L0.mp S.nocell y hy
 have cl_in:∀ {x c},(cU X.env.cells scope.names []).lookup x=some c->X.env.cells.lookup x=some c:=fun {x c} e=>cH (fun y d z=>by simp at z) e;have fre:∀ y ∈ scope.names,y.2=.free->X.env.kindOf y.1=some .cell∨X.env.kindOf y.1=some .free:=fun y hy e=>by
  have:=L0.mp S.free y hy;simpa [e] using this
 have fpsz:∀ b ∈ fp,b < s.heap.objs.size:=fun b hb=>let ⟨o,e⟩:=ho b hb; JO e;have freshH:∀ b,s.heap.objs.size<=b->H b=none:=fun b hb=>I.hok.fresh hb;have ok':(aD X scope ts ix C s H fp).Ok:=by
  refine ⟨I.ok.mod,S.kind,I.ok.glob,I.ok.blt,hC,fun x y c h1 h2=>I.ok.inj x y c (cl_in h1) (cl_in h2),fun x hx=>?_,fun x c z=>(by cases z),I.ok.hd,I.ok.frames,.inl rfl,fun b hb=>⟨?_,fun x c e=>?_⟩,I.bs,La I.ok.bsz I.sz,fun b o e hb=>?_,fun b hb hs=>?_,I.stack,I.LU⟩
  ·have hm:=bU nocell hx;obtain ⟨c,hc⟩:=I.ok.has x (fre _ hm rfl);exact gH hc hm
  ·exact Kn (KL (fpsz b hb) hC)
  ·exact (hf b hb).2.2.2.2.1 x c (cl_in e)
  ·rcases (hf b hb).2.2.2.1 with z | z
   ·exact I.ok.noex b o e z
   ·exact absurd (KL (JO e) (La I.ok.bsz z)) (LL _)
  ·rcases JS.mp (I.KQ b hs) with z | z
   ·exact (hf b hb).2.1 z
   ·exact (hf b hb).2.2.1 z
 refine ⟨ok',rfl,I.bare,Un.kept keep,⟨_,ns,fun i x v e1 e2 e3=>?_⟩,fun x c e=>?_,freshH C hC,fun x c e=>I.freeC x c (cl_in e),fun p hp=>?_,I.hok.kept keep,?_⟩
 ·-- a captured name
  have e2':(List.replicate ts.length (none:Option V)++ix.map fun j=>σ.getD j none)[i]?=some (some v):=e2;have e1':(ts++ix.map fun j=>X.N.getD j Str.empty)[i]?=some x:=e1;by_cases hi:i < ts.length
  ·rw [Yo (by simpa using hi)] at e2';rw [List.getElem?_replicate] at e2';rw [Y1 hi] at e2';cases e2'
  ·rw [Yj (by simpa using hi),List.length_replicate,Kb] at e2';rw [Yj (by lia),Kb] at e1';cases hj:ix[i - ts.length]? with
   | none=>rw [hj] at e1'; cases e1'
   | some j=>
    rw [hj] at e1' e2';have e1'':X.N.getD j Str.empty=x:=KZ e1';have e2'':σ.getD j none=some v:=KZ e2';have hcap:=L0.mp S.caps j (Y5 hj);simp only [Lv,decide_eq_true_eq,beq_iff_eq] at hcap;obtain ⟨hjl,hfree⟩:=hcap;rw [e1''] at hfree;have eN:X.N[j]?=some x:=by rw [<- e1'']; simp [Z5,hjl]
    have eσ:σ[j]?=some (some v):=by
     rw [Z5] at e2'';cases q:σ[j]? with
     | none=>rw [q] at e2''; cases e2''
     | some z=>rw [q] at e2''; exact Y9 some e2''
    have hm:=ji hfree;have hk:=fre _ hm rfl;obtain ⟨m,hn,hlk⟩:=I.loc;obtain ⟨u,r,lk⟩:=hlk j x v eN eσ (hk.elim (fun z=>.inr (.inl z)) fun z=>.inr (.inr z));refine ⟨u,r,.inr ⟨bT hfree,?_⟩⟩;rcases lk with ⟨z,_⟩ | ⟨_,c,hc,cell⟩
    ·rcases hk with k | k <;> · rw [show X.env.kindOf x=some .local from z] at k; cases k
    ·obtain ⟨c',hc'⟩:=gH (cs:=[]) hc hm;have:c'=c:=KZ ((cl_in hc').symm.trans hc);subst this;obtain ⟨o,eo,d⟩:=cell;exact ⟨c',hc',o,keep _ _ eo,d⟩
 ·obtain ⟨v,o,eo,d⟩:=I.cell x c (cl_in e);exact ⟨v,o,keep _ _ eo,d⟩
 ·obtain rfl:p=(l,bu [] 0):=by simpa [aD] using hp
  refine ⟨hl,freshH l hls,hlC,fun z=>?_,fun v z=>by cases z⟩;rcases JS.mp (I.KQ l z) with e | e
  ·exact absurd (KL I.lt hls) (by rw [e]; exact LL _)
  ·exact I.Nm hls e
 ·show (List.replicate ts.length none++ix.map _).length=(ts++ix.map _).length;simp
theorem vz (I:Inv X pins σ H s) (hf:∀ b ∈ fp,fq X pins H b) (hls:s.heap.objs.size<=l) (hC:s.heap.objs.size<=C)
 (J:Inv (aD X scope ts ix C s H fp) ([]++[(l,bu its n)]) σ' H' s') (rv:Vals acc its) (hz:acc.length<=sizeLine) (sb:∀ b,b ≠ C->h'.get? b=s'.heap.get? b) :
 Inv X pins σ (upd H' l (.lst acc)) { s' with heap:=h' }:=by
 obtain ⟨p1,p2,p3,p4,p5⟩:=J.pin (l,bu its n) (by simp);have p1:s'.heap.get? l=some (bu its n):=p1;have p2:H' l=none:=p2;have p3:l ≠ C:=p3;have fC:H' C=none:=J.free;have Hl:H l=none:=I.hok.fresh hls;have old:∀ {b o},s.heap.get? b=some o->b ≠ C/\b ≠ l:=fun {b o} e=>⟨Kn (KL (JO e) hC),Kn (KL (JO e) hls)⟩;have B:Un (Mj X.stack) fp H H' s.heap s'.heap:=J.base;refine I.OD (s':={ s' with heap:=h' }) (ch:=fp) J.os ⟨fun b o e n hb hx=>?_,fun b o e n hb hx=>?_,fun b o e n hx=>?_,fun b o e hx=>?_,fun b xs e=>?_,fun b o xs e=>?_,fun b ps e=>?_⟩ (fun b u e=>?_) J.bare fun b hb=>?_
 ·exact (sb b (old e).1).trans (B.keep b o e n hb hx)
 ·obtain ⟨sl,q⟩:=B.slot b o e n hb hx;exact ⟨sl,(sb b (old e).1).trans q⟩
 ·rw [ar (old e).2]; exact B.free b o e n hx
 ·obtain ⟨o',q⟩:=B.there b o e hx;exact ⟨o',(sb b (old e).1).trans q⟩
 ·have q:=B.tups b xs e;rw [ar (av q p2)]; exact q
 ·have q:=B.frzs b o xs e;rw [ar (av q p2)]; exact q
 ·obtain ⟨m,q⟩:=B.tbls b ps e;exact ⟨m,by rw [ar (av q p2)]; exact q⟩
 ·by_cases hb:b=l
  ·subst hb;rw [aj] at e;cases e;exact ⟨hz,its,n,rv,(sb b p3).trans p1⟩
  ·rw [ar hb] at e;refine (J.hok b u e).Jp (fun c v hc q=>(sb c ?_).trans q) (fun c q=>by rw [ar (av q p2)]; exact q) fun c xs q=>by rw [ar (av q p2)]; exact q
   rcases hc with rfl | hc
   ·exact av e fC
   ·exact av hc fC
 ·obtain ⟨f0,f1,f2,f3,f4,f5⟩:=hf b hb;exact ⟨f3,f1,f4,f5⟩
theorem ku (hg:gens[d]?=some g) (ha:g.is_async=0)
 (h0:codeAny (model prog w) A (.compLoop (.ListComp elt gens scope pos) d it acc env) R s)
 (h:wpAny (model prog w) A (pyIter it) (fun it' s'=>codeAny (model prog w) A (.compLoop (.ListComp elt gens scope pos) d it' acc env) R s')
  (notedBy (model prog w) A env fun x s'=>R (.error x) s') s) :
 codeAny (model prog w) A (.compStart (.ListComp elt gens scope pos) d it acc env) R s:=by
 refine codeAny_of_tree ?_;show wpAny _ _ ((compStart (.ListComp elt gens scope pos) d it acc env).onRaise (fun x=>do noteFrame x env; standAt theWindowsPlace)) _ _ s;refine wpAny_notedAt ?_;have e:compStart (.ListComp elt gens scope pos) d it acc env=(do
  if (<- ask).params.followText "comprehension-iter-twice" then return <- again (.compLoop (.ListComp elt gens scope pos) d it acc env)
  rule "comprehension.iter-twice"
  standAt g.iter.pos
  again (.compLoop (.ListComp elt gens scope pos) d (<- pyIter it) acc env)):=by
  unfold compStart;have e1:((clausesOf (.ListComp elt gens scope pos))[d]?).elim false (fun x=>x.is_async != 0)=false:=by show (gens[d]?).elim false _=false;rw [hg];simp [ha]
  have e2:(clausesOf (.ListComp elt gens scope pos))[d]?=some g:=hg;rw [e1,e2];rfl
 rw [e];show wpAny _ _ (ask >>= _) _ _ s;refine Jk (wpAny_askSetting (wpAny_ite ?_));split
 ·first
   | exact Jk (Jq (Jq (And.intro rfl h0)))
   | exact Jq (And.intro rfl h0)
 ·first
   | exact Jk (Yy (Jk (wpAny_standAt (Jk (wpAny_mono h (fun it' s' h'=>Jq (And.intro rfl h')) fun _ _ x=>x)))))
   | (refine Jk (Yy ?_); show wpAny _ _ (standAt g.iter.pos >>= _) _ _ s; exact Jk (wpAny_standAt (Jk (wpAny_mono h (fun it' s' h'=>Jq (And.intro rfl h')) fun _ _ x=>x))))
def hZ (nt:Nat) (ix:List Nat) (wi:TI) (lp:It->TB):TE:=fun σ H Q=>wi σ H fun J H1=>lp J (cst nt ix σ) H1 [] fun _ H2 acc=>∀ l,H2 l=none->Q (.ref l) (upd H2 l (.lst acc))
def Pl (X:Cx) (scope:Scope) (ts:List Str) (ix:List Nat) (tg:Expr) (c:Env->Value->Value->Code) (lp:It->TB):Prop:=
 ∀ (C:Addr) (s2:Shared) (H2:Hp) (fp:List Addr) (pins:List (Addr × Obj)) (s:Shared) (σ:St) (H:Hp) (l:Addr) (acc:List V) (its:List Value) (n:Nat) (Q:St->Hp->List V->Prop) (it:Addr) (tn:Nat->Heap->Prop) (J:It) (fp':List Addr),
  Inv (aD X scope ts ix C s2 H2 fp) (pins++[(l,bu its n)]) σ H s->NA (aD X scope ts ix C s2 H2 fp) pins l->Vals acc its->acc.length<=sizeLine->Turn X.prog X.w X.K tg J fp' it tn->tn 0 s.heap->(∀ b ∈ fp',fq (aD X scope ts ix C s2 H2 fp) (pins++[(l,bu its n)]) H b) ->
  lp J σ H acc Q->codeAny (model X.prog X.w) X.A (c (aD X scope ts ix C s2 H2 fp).env (.ref it) (.ref l)) (fun r s'=>r=.ok .next/\Ng (aD X scope ts ix C s2 H2 fp) pins l Q s') s
def vA (X:Cx) (pins:List (Addr × Obj)) (σ:St) (Q:VK) (acc:Value) (C:Addr) (s':Shared):Prop:=
 ∃ l H',acc=.ref l/\(∃ m,s'.heap.Ns C m)/\H' C=none/\NA X pins C/\Q (.ref l) H'/\∀ h':Heap,(∀ b,b ≠ C->h'.get? b=s'.heap.get? b)->Inv X pins σ H' { s' with heap:=h' }
theorem tq (hc:X.calm=true) (S:JZ X scope ts ix) (hi:PI X tg iter wi)
 (hlp:Pl X scope ts ix tg (fun env it acc=>.compLoop (.ListComp elt (⟨tg,iter,ifs,0⟩::gs) scope pos) 0 it acc env) lp) (hs:∀ x,foldedSetIterable iter X.env x=pure x) (I:Inv X pins σ H s) (h:hZ ts.length ix wi lp σ H Q)
 (fin:∀ acc C s',vA X pins σ Q acc C s'->compPost (model X.prog X.w) X.A X.xe use Q' acc C (.ok .next) s') :
 wpAny (model X.prog X.w) X.A (comprehension (.ListComp elt (⟨tg,iter,ifs,0⟩::gs) scope pos) scope X.env ps (newList []) false (eval iter X.env) use) Q' X.xe s:=by
 have nocell:∀ y ∈ scope.names,y.2 ≠ .cell:=fun y hy=>by simpa using L0.mp S.nocell y hy
 have names:∀ y ∈ scope.names,y.2=.local->scope.names.lookup y.1=some .local:=fun y hy e=>by
  have:=L0.mp S.names y hy;simpa [e] using this
 have fre:∀ y ∈ scope.names,y.2=.free->∃ c,X.env.cells.lookup y.1=some c:=fun y hy e=>by
  have:=L0.mp S.free y hy;exact I.ok.has y.1 (by simpa [e] using this)
 refine wpAny_comprehension_free (g:=⟨tg,iter,ifs,0⟩) (gs:=gs) rfl hs (kr fre) S.kind names ?_;refine Jw (hi pins s σ H _ I h) fun xv s1 h1=>Jw h1 fun itv s2 h2=>?_;obtain ⟨it,fp,tn,J,H2,e,I2,T,st2,f2,q2⟩:=h2;subst e;refine Y6 (wpAny_newFunctionEnv nocell (by intro y hy; simp at hy) (fun h₁ hns₁ hsb₁=>?_) S.kind);dsimp only at hns₁ hsb₁ ⊢;generalize hH2:s2.heap.push { cls:=.type "list",dict:=none,data:=.seq ([]:List Value).toArray }=G2 at hns₁ hsb₁ ⊢;have hC:G2.objs.size=s2.heap.objs.size+1:=by rw [<- hH2,Heap.size_push]
 have hDC:s2.heap.objs.size ≠ G2.objs.size:=by rw [hC]; exact Kn (Nat.lt_succ_self _)
 have hCle:s2.heap.objs.size<=G2.objs.size:=by rw [hC]; exact Nat.le_succ _
 have below:∀ b,b < s2.heap.objs.size->b ≠ G2.objs.size:=fun b hb=>by rw [hC]; exact Kn (Nat.lt_succ_of_lt hb)
 have keep:∀ b o,s2.heap.get? b=some o->h₁.get? b=some o:=fun b o e=>hsb₁.extBut b o (below b (JO e)) (Z7 _ (hH2 ▸ Z7 _ e));have hl:h₁.get? s2.heap.objs.size=some (bu [] 0):=hsb₁.extBut _ _ hDC (Z7 _ (hH2 ▸ Kv _ rfl));have obf:∀ b ∈ fp,∃ o,s2.heap.get? b=some o:=fun b hb=>let ⟨o,e,_⟩:=T.obj _ _ st2 b hb; ⟨o,e⟩;have ns:h₁.Ns G2.objs.size fun _=>none:=by simpa using hns₁
 have I4:Inv (aD X scope ts ix G2.objs.size s2 H2 fp) ([]++[(s2.heap.objs.size,bu [] 0)]) (cst ts.length ix σ) H2 { s2 with heap:=h₁,toks:=s2.toks+([]:List (Str × Value)).length }:=
  pO I2 S hc f2 obf keep hl (JI _) hCle hDC ns
 have lS:NA (aD X scope ts ix G2.objs.size s2 H2 fp) [] s2.heap.objs.size:=by
  refine ⟨hDC,fun z=>?_,.inr (JI _),fun x c e z=>?_,fun p hp=>absurd hp (by simp [aD])⟩
  ·rcases JS.mp (I2.KQ _ z) with e | e
   ·exact absurd I2.lt (by rw [<- e]; exact LL _)
   ·exact I2.Nm (JI _) e
  ·obtain ⟨v,q⟩:=I2.cell x c (cH (fun y d z=>by simp at z) e);exact absurd q.lt (by rw [z]; exact LL _)
 have stn:tn 0 h₁:=T.keep _ _ _ st2 fun b _ o e=>keep b o e;have fp4:∀ b ∈ fp,fq (aD X scope ts ix G2.objs.size s2 H2 fp) ([]++[(s2.heap.objs.size,bu [] 0)]) H2 b:=fun b hb=>by
  obtain ⟨f0,f1,f2',f3,f4,f5⟩:=f2 b hb;obtain ⟨o,eo⟩:=obf b hb;refine ⟨f0,below b (JO eo),fun z=>?_,.inl hb,fun x c e=>f4 x c (cH (fun y d z=>by simp at z) e),fun p hp=>?_⟩
  ·rcases JS.mp (I2.KQ b z) with e | e
   ·exact f1 e
   ·exact f2' e
  ·obtain rfl:p=(s2.heap.objs.size,bu [] 0):=by simpa [aD] using hp
   exact Nat.ne_of_gt (JO eo)
 have run:∀ s3:Shared,s3={ s2 with heap:=h₁,toks:=s2.toks+([]:List (Str × Value)).length } ->
  codeAny (model X.prog X.w) X.A (.compLoop (.ListComp elt (⟨tg,iter,ifs,0⟩::gs) scope pos) 0 (.ref it) (.ref s2.heap.objs.size) (aD X scope ts ix G2.objs.size s2 H2 fp).env) (fun r s'=>compPost (model X.prog X.w) X.A X.xe use Q' (.ref s2.heap.objs.size) G2.objs.size r s') s3:=by
  rintro s3 rfl;refine codeAny_mono (hlp G2.objs.size s2 H2 fp [] _ _ H2 _ [] [] 0 _ it tn J fp I4 lS .nil (K0 _) T stn fp4 q2) fun r s' hr=>?_;obtain ⟨rfl,σ',H',acc,its,n,J',rv,hz,q⟩:=hr;have pl:=J'.pin (s2.heap.objs.size,bu its n) (by simp);refine fin _ _ _ ⟨_,upd H' s2.heap.objs.size (.lst acc),rfl,let ⟨m,hn,_⟩:=J'.loc; ⟨m,hn⟩,by rw [ar (YI hDC)]; exact J'.free,?_,q _ pl.2.1,fun h' sb=>vz I2 f2 (JI _) hCle J' rv hz sb⟩;refine ⟨fun e=>?_,I2.Nm hCle,.inr (La I2.sz hCle),fun x c e z=>?_,fun p hp z=>?_⟩
  ·exact absurd (KL I2.lt hCle) (by rw [e]; exact LL _)
  ·obtain ⟨v,q⟩:=I2.cell x c e;exact absurd (KL q.lt hCle) (by rw [z]; exact LL _)
  ·exact absurd (KL (JO (I2.pin p hp).1) hCle) (by rw [z]; exact LL _)
 exact ku (g:=⟨tg,iter,ifs,0⟩) rfl rfl (run _ rfl) (T.self _ 0 _ _ _ stn (run _ rfl))
theorem nS (hc:X.calm=true) (S:JZ X scope ts ix) (hi:PI X tg iter wi)
 (hlp:Pl X scope ts ix tg (fun env it acc=>.compLoop (.ListComp elt (⟨tg,iter,ifs,0⟩::gs) scope pos) 0 it acc env) lp) (hs:∀ x,foldedSetIterable iter X.env x=pure x:=by intro _; rfl) :
 PE X (.ListComp elt (⟨tg,iter,ifs,0⟩::gs) scope pos) (hZ ts.length ix wi lp):=by
 intro pins s σ H Q I h;rw [eval_ListComp];refine tq (use:=none) (Q:=Q) hc S hi hlp hs I h fun acc C s' ⟨l,H',e,⟨m,hn⟩,_,_,q,back⟩=>?_;subst e;exact ⟨m,hn,fun h' sb=>⟨.ref l,H',back h' fun b hb=>sb.2 b hb,rfl,q⟩⟩
theorem rb (hc:X.calm=true) (hg:∀ C s2 H2 fp,PG (aD X scope ts ix C s2 H2 fp) tg g) (ht:∀ C s2 H2 fp,Nr (aD X scope ts ix C s2 H2 fp) ifs tt) (he:∀ C s2 H2 fp,PE (aD X scope ts ix C s2 H2 fp) elt te) :
 Pl X scope ts ix tg (fun env it acc=>.compLoop (.ListComp elt [⟨tg,iter,ifs,0⟩] scope pos) 0 it acc env) (Nq g tt (kN te)):=by
 intro C s2 H2 fp pins s σ H l acc its n Q it tn J fp' I hl rv hz T st hf h;exact vy (X:=aD X scope ts ix C s2 H2 fp) (iter:=iter) (c:=fun it acc=>.compLoop (.ListComp elt [⟨tg,iter,ifs,0⟩] scope pos) 0 it acc (aD X scope ts ix C s2 H2 fp).env) rfl hc (hg C s2 H2 fp) (ht C s2 H2 fp) (za (he C s2 H2 fp))
  (fun _ _=>rfl) (fun _ _=>rfl) (fun it acc=>⟨_,rfl⟩) I hl rv hz T st hf h
set_option genInjectivity true in
inductive D where
 | non | bl (b:Bool) | int (i:Int) | str (x:Str) | tup (l:List D) | lst (l:List D)
mutual
def Rep (K:PySem.W.Frag) (H:Hp):D->V->Prop
 | .non,v=>v=.non
 | .bl b,v=>v=.bl b
 | .int i,v=>v=.int i
 | .str x,v=>v=.str x
 | .tup l,v=>∃ a xs,v=.ref a/\JW K H a xs/\Js K H l xs
 | .lst l,v=>∃ a xs,v=.ref a/\J0 K H a xs/\Js K H l xs
def Js (K:PySem.W.Frag) (H:Hp):List D->List V->Prop
 | [],xs=>xs=[]
 | d::ds,xs=>∃ x r,xs=x::r/\Rep K H d x/\Js K H ds r
end
mutual
def D.eq:D->D->Bool
 | .non,.non=>true
 | .bl a,.bl b=>a == b
 | .bl a,.int b=>(if a then 1 else 0) == b
 | .int a,.bl b=>a == (if b then 1 else 0)
 | .int a,.int b=>a == b
 | .str a,.str b=>a == b
 | .tup a,.tup b=>D.Mb a b
 | .lst a,.lst b=>D.Mb a b
 | _,_=>false
def D.Mb:List D->List D->Bool
 | [],[]=>true
 | a::r,b::t=>D.eq a b && D.Mb r t
 | _,_=>false
end
theorem D.e1 (a b:Bool):D.eq (.bl a) (.bl b)=(a == b):=rfl
theorem D.e2 (a b:Int):D.eq (.int a) (.int b)=(a == b):=rfl
theorem D.e3 (a b:Str):D.eq (.str a) (.str b)=(a == b):=rfl
theorem D.e4 (a b:List D):D.eq (.tup a) (.tup b)=D.Mb a b:=rfl
theorem D.e5 (a b:List D):D.eq (.lst a) (.lst b)=D.Mb a b:=rfl
theorem D.e6:D.Mb [] []=true:=rfl
theorem D.e7 (a b:D) (r t:List D):D.Mb (a::r) (b::t)=(D.eq a b && D.Mb r t):=rfl
theorem D.e8 (b:D) (t:List D):D.Mb [] (b::t)=false:=rfl
theorem D.e9 (b:D) (t:List D):D.Mb (b::t) []=false:=rfl
mutual
def D.depth:D->Nat
 | .tup l=>D.Jz l+1
 | .lst l=>D.Jz l+1
 | _=>0
def D.Jz:List D->Nat
 | []=>0
 | a::r=>max (D.depth a) (D.Jz r)
end
mutual
theorem D.Lm:∀ d:D,D.eq d d=true
 | .non=>rfl
 | .bl b=>by simp -iota [D.e1,D.e2,D.e3,D.e4,D.e5]
 | .int i=>by simp -iota [D.e1,D.e2,D.e3,D.e4,D.e5]
 | .str x=>by simp -iota [D.e1,D.e2,D.e3,D.e4,D.e5]
 | .tup l=>by simp -iota [D.e1,D.e2,D.e3,D.e4,D.e5,D.K4 l]
 | .lst l=>by simp -iota [D.e1,D.e2,D.e3,D.e4,D.e5,D.K4 l]
theorem D.K4:∀ l:List D,D.Mb l l=true
 | []=>rfl
 | a::r=>by simp -iota [D.e6,D.e7,D.e8,D.e9,D.Lm a,D.K4 r]
end
theorem Js.length {K:PySem.W.Frag} {H:Hp}:∀ {l:List D} {xs:List V},Js K H l xs->xs.length=l.length
 | [],xs,h=>by rw [Js] at h; subst h; rfl
 | d::ds,xs,h=>by
  rw [Js] at h;obtain ⟨x,r,rfl,_,t⟩:=h;simp -iota [Js.length t]
theorem Js.get {K:PySem.W.Frag} {H:Hp}:∀ {l:List D} {xs:List V} {i:Nat} {d:D},Js K H l xs->l[i]?=some d->∃ x,xs[i]?=some x/\Rep K H d x
 | [],xs,i,d,h,e=>by simp -iota at e
 | d'::ds,xs,0,d,h,e=>by
  rw [Js] at h;obtain ⟨x,r,rfl,p,_⟩:=h;simp -iota at e; subst e;exact ⟨x,rfl,p⟩
 | d'::ds,xs,i+1,d,h,e=>by
  rw [Js] at h;obtain ⟨x,r,rfl,_,t⟩:=h;obtain ⟨y,h1,h2⟩:=Js.get (i:=i) t (by simpa using e);exact ⟨y,by simpa using h1,h2⟩
theorem Js.nil {K:PySem.W.Frag} {H:Hp}:Js K H [] []:=by rw [Js]
theorem Js.cons {K:PySem.W.Frag} {H:Hp} {d:D} {ds:List D} {x:V} {xs:List V} (h:Rep K H d x) (t:Js K H ds xs):Js K H (d::ds) (x::xs):=by rw [Js]; exact ⟨x,xs,rfl,h,t⟩
def Du (K:PySem.W.Frag) (H H':Hp):Prop:=(∀ a xs,JW K H a xs->JW K H' a xs)/\∀ a xs,J0 K H a xs->J0 K H' a xs
theorem Jo.Jp {K:PySem.W.Frag} {H H':Hp} (s:Jo H H'):Du K H H':=by refine ⟨fun a xs h=>?_,fun a xs h=>s.seq h⟩;exact s _ _ h
mutual
theorem Rep.Jp {K:PySem.W.Frag} {H H':Hp} (s:Du K H H'):∀ {d:D} {v:V},Rep K H d v->Rep K H' d v
 | .non,v,h=>by rw [Rep] at h ⊢; exact h
 | .bl _,v,h=>by rw [Rep] at h ⊢; exact h
 | .int _,v,h=>by rw [Rep] at h ⊢; exact h
 | .str _,v,h=>by rw [Rep] at h ⊢; exact h
 | .tup l,v,h=>by
  rw [Rep] at h ⊢;obtain ⟨a,xs,e,p,q⟩:=h;exact ⟨a,xs,e,s.1 a xs p,Js.Jp s q⟩
 | .lst l,v,h=>by
  rw [Rep] at h ⊢;obtain ⟨a,xs,e,p,q⟩:=h;exact ⟨a,xs,e,s.2 a xs p,Js.Jp s q⟩
theorem Js.Jp {K:PySem.W.Frag} {H H':Hp} (s:Du K H H'):∀ {l:List D} {xs:List V},Js K H l xs->Js K H' l xs
 | [],xs,h=>by rw [Js] at h ⊢; exact h
 | d::ds,xs,h=>by
  rw [Js] at h;obtain ⟨x,r,rfl,p,q⟩:=h;exact .cons (Rep.Jp s p) (Js.Jp s q)
end
mutual
def D.imm:D->Bool
 | .tup l=>D.JA l
 | .lst _=>false
 | _=>true
def D.JA:List D->Bool
 | []=>true
 | a::r=>D.imm a && D.JA r
end
def aU (K:PySem.W.Frag) (H H':Hp):Prop:=∀ a xs,JW K H a xs->JW K H' a xs
mutual
theorem Rep.JF {K:PySem.W.Frag} {H H':Hp} (s:aU K H H'):∀ {d:D} {v:V},D.imm d=true->Rep K H d v->Rep K H' d v
 | .non,v,_,h=>by rw [Rep] at h ⊢; exact h
 | .bl _,v,_,h=>by rw [Rep] at h ⊢; exact h
 | .int _,v,_,h=>by rw [Rep] at h ⊢; exact h
 | .str _,v,_,h=>by rw [Rep] at h ⊢; exact h
 | .tup l,v,i,h=>by
  rw [Rep] at h ⊢;obtain ⟨a,xs,e,p,q⟩:=h;exact ⟨a,xs,e,s a xs p,Js.JF s (by simpa [D.imm] using i) q⟩
 | .lst l,v,i,h=>by simp -iota [D.imm] at i
theorem Js.JF {K:PySem.W.Frag} {H H':Hp} (s:aU K H H'):∀ {l:List D} {xs:List V},D.JA l=true->Js K H l xs->Js K H' l xs
 | [],xs,_,h=>by rw [Js] at h ⊢; exact h
 | d::ds,xs,i,h=>by
  rw [Js] at h;obtain ⟨x,r,rfl,p,q⟩:=h;simp -iota only [D.JA,Lv] at i;exact .cons (Rep.JF s i.1 p) (Js.JF s i.2 q)
end
theorem Inv.Kl (I:Inv X pins σ H s) {a:Addr} {xs ys:List V} (h:J0 X.K H a xs) (h':JW X.K H a ys):False:=by obtain ⟨its,_,⟨o,n,e,c,_⟩,_⟩:=I.list h;obtain ⟨its',_,⟨o',e',c',_⟩,_⟩:=I.tuple h';rw [e] at e'; cases e';rw [c] at c';exact absurd c' (by decide)
mutual
theorem Rep.inj (I:Inv X pins σ H s):∀ {d e:D} {v:V},Rep X.K H d v->Rep X.K H e v->d=e
 | .non,e,v,h,h'=>by rw [Rep] at h; subst h; cases e <;> rw [Rep] at h' <;> first | rfl | (obtain ⟨_,_,z,_⟩:=h'; cases z; done) | (cases h'; done)
 | .bl b,e,v,h,h'=>by rw [Rep] at h; subst h; cases e <;> rw [Rep] at h' <;> first | (cases h'; rfl) | (obtain ⟨_,_,z,_⟩:=h'; cases z; done) | (cases h'; done)
 | .int b,e,v,h,h'=>by rw [Rep] at h; subst h; cases e <;> rw [Rep] at h' <;> first | (cases h'; rfl) | (obtain ⟨_,_,z,_⟩:=h'; cases z; done) | (cases h'; done)
 | .str b,e,v,h,h'=>by rw [Rep] at h; subst h; cases e <;> rw [Rep] at h' <;> first | (cases h'; rfl) | (obtain ⟨_,_,z,_⟩:=h'; cases z; done) | (cases h'; done)
 | .tup l,e,v,h,h'=>by
  rw [Rep] at h;obtain ⟨a,xs,rfl,p,q⟩:=h;cases e <;> rw [Rep] at h'
  case tup m=>obtain ⟨b,ys,z,p',q'⟩:=h';cases z;have:=I.KO p p';subst this;rw [Js.inj I q q']
  case lst m=>obtain ⟨b,ys,z,p',q'⟩:=h';cases z;exact (I.Kl p' p).elim
  all_goals cases h'
 | .lst l,e,v,h,h'=>by
  rw [Rep] at h;obtain ⟨a,xs,rfl,p,q⟩:=h;cases e <;> rw [Rep] at h'
  case lst m=>obtain ⟨b,ys,z,p',q'⟩:=h';cases z;have:=I.KC p p';subst this;rw [Js.inj I q q']
  case tup m=>obtain ⟨b,ys,z,p',q'⟩:=h';cases z;exact (I.Kl p p').elim
  all_goals cases h'
theorem Js.inj (I:Inv X pins σ H s):∀ {l m:List D} {xs:List V},Js X.K H l xs->Js X.K H m xs->l=m
 | [],m,xs,h,h'=>by
  rw [Js] at h; subst h;cases m with
  | nil=>rfl
  | cons a r=>rw [Js] at h'; obtain ⟨_,_,z,_⟩:=h'; cases z
 | d::ds,m,xs,h,h'=>by
  rw [Js] at h;obtain ⟨x,r,rfl,p,q⟩:=h;cases m with
  | nil=>rw [Js] at h'; cases h'
  | cons a t=>rw [Js] at h';obtain ⟨_,_,z,p',q'⟩:=h';cases z;rw [Rep.inj I p p',Js.inj I q q']
end
def bV (l m:List D) (j:Nat):Bool:=match l[j]?,m[j]? with
 | some a,some b=>D.eq a b
 | _,_=>true
theorem eJ:∀ (l m:List D),((List.range (min l.length m.length)).all (bV l m) && l.length == m.length)=D.Mb l m
 | [],[]=>by simp -iota [D.e6,D.e7,D.e8,D.e9]
 | [],b::t=>by simp -iota [D.e6,D.e7,D.e8,D.e9]
 | a::r,[]=>by simp -iota [D.e6,D.e7,D.e8,D.e9]
 | a::r,b::t=>by
  rw [D.e7,<- eJ r t];have e1:min (a::r).length (b::t).length=min r.length t.length+1:=by simp -iota [Nat.succ_min_succ]
  rw [e1,List.range_succ_eq_map,List.all_cons,List.all_map];have e2:(bV (a::r) (b::t) ∘ Nat.succ)=bV r t:=by funext j; simp -iota [bV]
  rw [e2];have e3:bV (a::r) (b::t) 0=D.eq a b:=by simp [bV]
  rw [e3,Bool.and_assoc];congr 2;simp
theorem rg (h:l.length ≠ m.length):D.Mb l m=false:=by rw [<- eJ l m];simp -iota [h]
section
open PySem.SeqAt
theorem df:∀ {l:List D} {j:Nat} {d:D},l[j]?=some d->D.depth d<=D.Jz l
 | [],j,d,e=>by simp -iota at e
 | a::r,0,d,e=>by simp -iota at e; subst e; rw [D.Jz]; exact Nat.le_max_left _ _
 | a::r,j+1,d,e=>by rw [D.Jz]; exact La (df (l:=r) (j:=j) (by simpa using e)) (Nat.le_max_right _ _)
set_option maxHeartbeats 1000000 in
theorem pP (I:Inv X pins σ H s) {A:Around} {e:D} {y:V} {v:Value} (hu:A.units < cLine) (re:Rep X.K H e y) (rv:RelV y v) :
 EqAt A s Value.none v (D.eq .non e)/\RcAt A s Value.none v (D.eq .non e):=by
 cases e <;> rw [Rep] at re
 case non=>subst re;cases rv;exact ⟨EqAt.same _,RcAt.none_none⟩
 case bl c=>subst re;cases rv;exact ⟨EqAt.none_bool _,RcAt.none_bool _⟩
 case int c=>subst re;obtain ⟨t',rfl⟩:=rv;exact ⟨EqAt.none_int _ _,RcAt.none_int _ _⟩
 case str c=>subst re;obtain ⟨t',rfl⟩:=rv;exact ⟨EqAt.none_str _ _,RcAt.none_str _ _⟩
 case tup m=>obtain ⟨a,xs,rfl,p,q⟩:=re;cases rv;obtain ⟨its,r,pl,_⟩:=I.tuple p;exact ⟨EqAt.none_tuple  pl hu,RcAt.none_tuple  pl hu⟩
 case lst m=>obtain ⟨a,xs,rfl,p,q⟩:=re;cases rv;obtain ⟨its,r,pl,_⟩:=I.list p;exact ⟨EqAt.none_list  pl.isList hu,RcAt.none_list  pl.isList hu⟩
set_option maxHeartbeats 1000000 in
theorem tu (I:Inv X pins σ H s) {A:Around} {b:Bool} {e:D} {y:V} {v:Value} (hu:A.units < cLine) (re:Rep X.K H e y) (rv:RelV y v) :
 EqAt A s (.bool b) v (D.eq (.bl b) e)/\RcAt A s (.bool b) v (D.eq (.bl b) e):=by
 cases e <;> rw [Rep] at re
 case non=>subst re;cases rv;exact ⟨EqAt.bool_none _,RcAt.bool_none _⟩
 case bl c=>subst re;cases rv;exact ⟨EqAt.bool_bool _ _,RcAt.bool_bool _ _⟩
 case int c=>subst re;obtain ⟨t',rfl⟩:=rv;exact ⟨EqAt.bool_int _ _ _,RcAt.bool_int _ _ _⟩
 case str c=>subst re;obtain ⟨t',rfl⟩:=rv;exact ⟨EqAt.bool_str _ _ _,RcAt.bool_str _ _ _⟩
 case tup m=>obtain ⟨a,xs,rfl,p,q⟩:=re;cases rv;obtain ⟨its,r,pl,_⟩:=I.tuple p;exact ⟨EqAt.bool_tuple _ pl hu,RcAt.bool_tuple _ pl hu⟩
 case lst m=>obtain ⟨a,xs,rfl,p,q⟩:=re;cases rv;obtain ⟨its,r,pl,_⟩:=I.list p;exact ⟨EqAt.bool_list _ pl.isList hu,RcAt.bool_list _ pl.isList hu⟩
set_option maxHeartbeats 1000000 in
theorem pQ (I:Inv X pins σ H s) {A:Around} {b:Int} {e:D} {y:V} {t:Tok} {v:Value} (hu:A.units < cLine) (re:Rep X.K H e y) (rv:RelV y v) :
 EqAt A s (.int b t) v (D.eq (.int b) e)/\RcAt A s (.int b t) v (D.eq (.int b) e):=by
 cases e <;> rw [Rep] at re
 case non=>subst re;cases rv;exact ⟨EqAt.int_none _ _,RcAt.int_none _ _⟩
 case bl c=>subst re;cases rv;exact ⟨EqAt.int_bool _ _ _,RcAt.int_bool _ _ _⟩
 case int c=>subst re;obtain ⟨t',rfl⟩:=rv;exact ⟨EqAt.int_int _ _ _ _,RcAt.int_int _ _ _ _⟩
 case str c=>subst re;obtain ⟨t',rfl⟩:=rv;exact ⟨EqAt.int_str _ _ _ _,RcAt.int_str _ _ _ _⟩
 case tup m=>obtain ⟨a,xs,rfl,p,q⟩:=re;cases rv;obtain ⟨its,r,pl,_⟩:=I.tuple p;exact ⟨EqAt.int_tuple _ _ pl hu,RcAt.int_tuple _ _ pl hu⟩
 case lst m=>obtain ⟨a,xs,rfl,p,q⟩:=re;cases rv;obtain ⟨its,r,pl,_⟩:=I.list p;exact ⟨EqAt.int_list _ _ pl.isList hu,RcAt.int_list _ _ pl.isList hu⟩
set_option maxHeartbeats 1000000 in
theorem pR (I:Inv X pins σ H s) {A:Around} {b:Str} {e:D} {y:V} {t:Tok} {v:Value} (hu:A.units < cLine) (re:Rep X.K H e y) (rv:RelV y v) :
 EqAt A s (.str b t) v (D.eq (.str b) e)/\RcAt A s (.str b t) v (D.eq (.str b) e):=by
 cases e <;> rw [Rep] at re
 case non=>subst re;cases rv;exact ⟨EqAt.str_none _ _,RcAt.str_none _ _⟩
 case bl c=>subst re;cases rv;exact ⟨EqAt.str_bool _ _ _,RcAt.str_bool _ _ _⟩
 case int c=>subst re;obtain ⟨t',rfl⟩:=rv;exact ⟨EqAt.str_int _ _ _ _,RcAt.str_int _ _ _ _⟩
 case str c=>subst re;obtain ⟨t',rfl⟩:=rv;exact ⟨EqAt.str_str _ _ _ _,RcAt.str_str _ _ _ _⟩
 case tup m=>obtain ⟨a,xs,rfl,p,q⟩:=re;cases rv;obtain ⟨its,r,pl,_⟩:=I.tuple p;exact ⟨EqAt.str_tuple _ _ pl hu,RcAt.str_tuple _ _ pl hu⟩
 case lst m=>obtain ⟨a,xs,rfl,p,q⟩:=re;cases rv;obtain ⟨its,r,pl,_⟩:=I.list p;exact ⟨EqAt.str_list _ _ pl.isList hu,RcAt.str_list _ _ pl.isList hu⟩
set_option maxHeartbeats 4000000 in
theorem JG (I:Inv X pins σ H s):∀ (n:Nat) (A:Around) (d e:D) (x y:V) (u v:Value),D.depth d<=n->A.units+n < cLine->Rep X.K H d x->Rep X.K H e y->RelV x u->RelV y v->EqAt A s u v (D.eq d e)/\RcAt A s u v (D.eq d e):=by
 intro n
 induction n with
 | zero=>
  intro A d e x y u v hn hu rd re ru rv;have hu:A.units < cLine:=by omega
  cases d with
  | non=>rw [Rep] at rd; subst rd; cases ru; exact pP I hu re rv
  | bl b=>rw [Rep] at rd; subst rd; cases ru; exact tu I hu re rv
  | int i=>rw [Rep] at rd; subst rd; obtain ⟨t',rfl⟩:=ru; exact pQ I hu re rv
  | str i=>rw [Rep] at rd; subst rd; obtain ⟨t',rfl⟩:=ru; exact pR I hu re rv
  | tup l=>rw [D.depth] at hn; grind
  | lst l=>rw [D.depth] at hn; omega
 | succ n ih=>
  intro A d e x y u v hn hu rd re ru rv;have hu0:A.units < cLine:=by grind
  have hu1:A.in1.units+n < cLine:=by show A.units+1+n < cLine; lia
  have flat:D.depth d=0->EqAt A s u v (D.eq d e)/\RcAt A s u v (D.eq d e):=fun z=>ih A d e x y u v (by grind) (by lia) rd re ru rv;have items:∀ {l m:List D} {xs ys:List V} {its its':List Value},D.Jz l<=n->Js X.K H l xs->Js X.K H m ys->Vals xs its->Vals ys its' ->
   ∀ j (h1:j < its.toArray.size) (h2:j < its'.toArray.size),EqAt A.in1 s its.toArray[j] its'.toArray[j] (bV l m j):=by
   intro l m xs ys its its' hd rl rm r r' j h1 h2;have L1:=r.length; have L2:=r'.length; have L3:=rl.length; have L4:=rm.length;simp -iota only [Z4] at h1 h2;have j1:j < l.length:=by lia
   have j2:j < m.length:=by lia
   obtain ⟨x',hx',px⟩:=rl.get (i:=j) (d:=l[j]) (by simp -iota [j1]);obtain ⟨y',hy',py⟩:=rm.get (i:=j) (d:=m[j]) (by simp -iota [j2]);obtain ⟨u',hu',pu⟩:=r.get hx';obtain ⟨v',hv',pv'⟩:=r'.get hy';have e1:its.toArray[j]=u':=by have:=(Z9.mp hu').2; simpa using this
   have e2:its'.toArray[j]=v':=by have:=(Z9.mp hv').2; simpa using this
   have e3:bV l m j=D.eq l[j] m[j]:=by simp [bV,j1,j2]
   rw [e1,e2,e3];exact (ih A.in1 l[j] m[j] x' y' u' v' (La (df (l:=l) (j:=j) (by simp -iota [j1])) hd) hu1 px py pu pv').1
  cases d with
  | tup l=>
   have rd0:=rd;rw [Rep] at rd;obtain ⟨a,xs,rfl,p,q⟩:=rd;cases ru;obtain ⟨its,r,pl,_⟩:=I.tuple p;have hdl:D.Jz l<=n:=by rw [D.depth] at hn; lia
   have re0:=re;cases e <;> rw [Rep] at re
   case non=>subst re; cases rv; exact ⟨EqAt.tuple_none pl hu0,RcAt.tuple_none pl hu0⟩
   case bl b=>subst re; cases rv; exact ⟨EqAt.tuple_bool _ pl hu0,RcAt.tuple_bool _ pl hu0⟩
   case int b=>subst re; obtain ⟨t,rfl⟩:=rv; exact ⟨EqAt.tuple_int _ _ pl hu0,RcAt.tuple_int _ _ pl hu0⟩
   case str b=>subst re; obtain ⟨t,rfl⟩:=rv; exact ⟨EqAt.tuple_str _ _ pl hu0,RcAt.tuple_str _ _ pl hu0⟩
   case lst m=>obtain ⟨b,ys,rfl,p',q'⟩:=re;cases rv;obtain ⟨its',r',pl',_⟩:=I.list p';exact ⟨EqAt.tuple_list pl pl'.isList hu0,RcAt.tuple_list pl pl'.isList hu0⟩
   case tup m=>
    obtain ⟨b,ys,rfl,p',q'⟩:=re;cases rv;obtain ⟨its',r',pl',_⟩:=I.tuple p';have L1:=r.length; have L2:=r'.length; have L3:=q.length; have L4:=q'.length;have rc:RcAt A s (.ref a) (.ref b) (D.eq (.tup l) (.tup m)):=by have z:=RcAt.tuples (e:=bV l m) pl pl' hu0 (items hdl q q' r r');rw [D.e4,<- eJ l m];simp -iota only [Z4] at z;rw [<- L1,<- L2,L3,L4] at z;exact z
    refine ⟨?_,rc⟩;by_cases hab:a=b
    ·subst hab;rw [Rep.inj I rd0 re0,D.Lm];exact EqAt.same _
    ·exact .of_refs hab rc
  | lst l=>
   have rd0:=rd;rw [Rep] at rd;obtain ⟨a,xs,rfl,p,q⟩:=rd;cases ru;obtain ⟨its,r,pl,_⟩:=I.list p;have hdl:D.Jz l<=n:=by rw [D.depth] at hn; omega
   have re0:=re;cases e <;> rw [Rep] at re
   case non=>subst re; cases rv; exact ⟨EqAt.list_none pl.isList hu0,RcAt.list_none pl.isList hu0⟩
   case bl b=>subst re; cases rv; exact ⟨EqAt.list_bool _ pl.isList hu0,RcAt.list_bool _ pl.isList hu0⟩
   case int b=>subst re; obtain ⟨t,rfl⟩:=rv; exact ⟨EqAt.list_int _ _ pl.isList hu0,RcAt.list_int _ _ pl.isList hu0⟩
   case str b=>subst re; obtain ⟨t,rfl⟩:=rv; exact ⟨EqAt.list_str _ _ pl.isList hu0,RcAt.list_str _ _ pl.isList hu0⟩
   case tup m=>obtain ⟨b,ys,rfl,p',q'⟩:=re;cases rv;obtain ⟨its',r',pl',_⟩:=I.tuple p';exact ⟨EqAt.list_tuple pl.isList pl' hu0,RcAt.list_tuple pl.isList pl' hu0⟩
   case lst m=>
    obtain ⟨b,ys,rfl,p',q'⟩:=re;cases rv;obtain ⟨its',r',pl',_⟩:=I.list p';have L1:=r.length; have L2:=r'.length; have L3:=q.length; have L4:=q'.length;have rc:RcAt A s (.ref a) (.ref b) (D.eq (.lst l) (.lst m)):=by
     rw [D.e5];by_cases hl:l.length=m.length
     ·have z:=RcAt.lists (e:=bV l m) pl.isList pl'.isList (by simp; grind) hu0 (items hdl q q' r r');rw [<- eJ l m,hl];simp -iota only [Z4] at z;rw [<- L1,L3,hl] at z;simpa using z
     ·rw [rg hl];exact RcAt.lists_lengths pl.isList pl'.isList (by simp; grind) hu0
    refine ⟨?_,rc⟩;by_cases hab:a=b
    ·subst hab;rw [Rep.inj I rd0 re0,D.Lm];exact EqAt.same _
    ·exact .of_refs hab rc
  | _=>exact flat (by simp [D.depth])
end
def Dv (K:PySem.W.Frag) (n:Nat) (neg:Bool):R2:=fun x y H Q=>∃ d p xs l,y=.ref p/\(J0 K H p xs∨JW K H p xs)/\Rep K H d x/\Js K H l xs/\D.Jz l<=n/\Q (.bl (if neg then !(l.any fun e=>D.eq e d) else l.any fun e=>D.eq e d)) H
open Classical in
theorem nT (I:Inv X pins σ H s) {A:Around} {n:Nat} {d:D} {x:V} {u:Value} {l:List D} {xs:List V} {its:List Value} (hu:A.units+n < cLine) (rd:Rep X.K H d x) (ru:RelV x u) (rl:Js X.K H l xs) (hd:D.Jz l<=n) (r:Vals xs its) :
 ∃ e:Value->Bool,(∀ y ∈ its,SeqAt.EqAt A s y u (e y))/\its.any e=l.any fun e=>D.eq e d:=by
 refine ⟨fun y=>if h:∃ (j:Nat) (d':D),l[j]?=some d'/\its[j]?=some y then D.eq h.choose_spec.choose d else false,fun y hy=>?_,?_⟩
 all_goals
  have L1:=r.length;have L3:=rl.length
 ·obtain ⟨j,hj,rfl⟩:=List.mem_iff_getElem.mp hy;have hex:∃ (j':Nat) (d':D),l[j']?=some d'/\its[j']?=some its[j]:=⟨j,l[j]'(by lia),Z3 _,by simp -iota [hj]⟩;dsimp only;rw [dif_pos hex];have h1:=hex.choose_spec.choose_spec;obtain ⟨x',hx',px⟩:=rl.get h1.1;obtain ⟨u',hu',pu⟩:=r.get hx';rw [h1.2] at hu';cases hu';exact (JG I n A _ d x' x _ u (La (df h1.1) hd) hu px rd pu ru).1
 ·have key:∀ j (hj:j < its.length) (hl:j < l.length),(if h:∃ (j':Nat) (d':D),l[j']?=some d'/\its[j']?=some its[j] then D.eq h.choose_spec.choose d else false)=D.eq l[j] d:=by
   intro j hj hl;have hex:∃ (j':Nat) (d':D),l[j']?=some d'/\its[j']?=some its[j]:=⟨j,l[j],by simp -iota [hl],by simp -iota [hj]⟩;rw [dif_pos hex];have h1:=hex.choose_spec.choose_spec;obtain ⟨x',hx',px⟩:=rl.get h1.1;obtain ⟨u',hu',pu⟩:=r.get hx';rw [h1.2] at hu';cases hu';obtain ⟨x2,hx2,px2⟩:=rl.get (i:=j) (d:=l[j]) (by simp -iota [hl]);obtain ⟨u2,hu2,pu2⟩:=r.get hx2;have:u2=its[j]:=by have:=(Z9.mp hu2).2; exact this.symm
   subst this;have:x'=x2:=by have z:=JG I n A;exact RelV.inj pu pu2
   subst this;rw [Rep.inj I px px2]
  rw [Bool.eq_iff_iff,List.any_eq_true,List.any_eq_true];constructor
  ·rintro ⟨y,hy,hb⟩;obtain ⟨j,hj,rfl⟩:=List.mem_iff_getElem.mp hy;rw [key j hj (by omega)] at hb;exact ⟨_,YJ (by omega),hb⟩
  ·rintro ⟨dd,hdm,hb⟩;obtain ⟨j,hj,rfl⟩:=List.mem_iff_getElem.mp hdm;refine ⟨its[j]'(by lia),YJ _,?_⟩;rw [key j (by omega) hj];exact hb
theorem tz (hu:X.A.units+n+1 < cLine):JK X (compareOp .NotIn) (Dv X.K n true):=by
 intro pins s σ H x y v u Q I rx ry h;obtain ⟨d,p,xs,l,rfl,hq,rd,rl,hd,q⟩:=h;cases ry;have hu':X.A.in1.units+n < cLine:=by show X.A.units+1+n < cLine; omega
 rcases hq with hq | hq
 ·obtain ⟨its,r,pl,hz⟩:=I.list hq;obtain ⟨e,h1,h2⟩:=nT I hu' rd rx rl hd r;refine SeqAt.notIn_listAt e pl.isList (fun w hw=>h1 w (by simpa using hw)) ⟨.bl _,H,I,rfl,?_⟩;rw [show its.toArray.any e=its.any e by simp,h2];exact q
 ·obtain ⟨its,r,pl,hz⟩:=I.tuple hq;obtain ⟨e,h1,h2⟩:=nT I hu' rd rx rl hd r;refine SeqAt.notIn_tupleAt e pl (fun w hw=>h1 w (by simpa using hw)) ⟨.bl _,H,I,rfl,?_⟩;rw [show its.toArray.any e=its.any e by simp,h2];exact q
theorem h9 (ns:List Int):∀ j,j<=ns.length->preSum (fun i=>ns.getD i 0) j=(ns.take j).sum
 | 0,_=>by simp -iota [preSum]
 | j+1,h=>by
  rw [preSum,h9 ns j (by lia),List.take_add_one,List.sum_append];have e:ns[j]?=some (ns[j]'(by lia)):=Z3 _;simp -iota [e,Z5]
theorem tD (hc:X.calm=true):Jx X (.builtin "sum") (fun xs H Q=>∃ (p:Addr) (ns:List Int),xs=[.ref p]/\J0 X.K H p (ns.map V.int)/\Q (.int ns.sum) H):=by
 intro pins s σ H xs us Q I r h;obtain ⟨p,ns,rfl,hq,q⟩:=h;obtain ⟨u,rfl,rx⟩:=cG r;cases rx;obtain ⟨its,r',pl,hz⟩:=I.list hq;have hlen:=r'.length;rw [Z2] at hlen;have hlt:p < s.heap.objs.size:=by obtain ⟨_,_,e,_⟩:=pl; exact JO e
 refine call_sum_walkG (wpAny_pyIter_list pl.isList ⟨s.heap.objs.size,[s.heap.objs.size,p],[s.heap.objs.size],its.toArray.size,_,_,fun i=>ns.getD i 0,rfl,Walks.list (A:=X.A.in1) (show X.A.in1.handled=none from I.ok.hd hc) _ _ (Kn hlt) its.toArray,⟨⟨_,Kv _ rfl,rfl,rfl⟩,pl.isList.push _⟩,?_,?_,?_⟩)
 ·intro b hb;show b < (s.heap.push _).objs.size;rw [Heap.size_push];rcases JS.mp hb with rfl | hb
  ·exact Nat.lt_succ_self _
  ·obtain rfl:b=p:=by simpa using hb
   exact Nat.lt_succ_of_lt hlt
 ·intro i v hv;have hv':its[i]?=some v:=by simpa using hv
  have hi:i < its.length:=(Z9.mp hv').1;obtain ⟨u',hu',ru⟩:=r'.get (i:=i) (x:=V.int (ns[i]'(by lia))) (by simp);rw [hv'] at hu';cases hu';obtain ⟨t,rfl⟩:=ru;exact ⟨t,by simp -iota [Z5,Z3 (show i < ns.length by omega)]⟩
 ·intro h' tk t' kk;have e:preSum (fun i=>ns.getD i 0) its.toArray.size=ns.sum:=by rw [Z4,<- hlen,h9 ns _ (JI _),List.take_length]
  rw [e];refine ⟨.int ns.sum,H,I.kept (t':=tk) fun b o eo=>kk b o (fun hb=>?_) (Z7 _ eo),⟨t',rfl⟩,q⟩;obtain rfl:b=s.heap.objs.size:=by simpa using hb
  exact absurd (JO eo) (LL _)
def kw (t c:String):Bool:=t == c || (t == "bool" && c == "int")
def dG:List String:=["NoneType","bool","int","str","list","tuple"]
theorem eK (K:PySem.W.Frag):∀ t ∈ dG,∀ c ∈ ["bool","int","str","list","tuple"],PySem.W.kitOne K (.type t) (.type c)=some (kw t c):=by intro t ht c hc;simp -iota only [dG,JS,Yb,or_false] at ht hc;rcases ht with rfl | rfl | rfl | rfl | rfl | rfl <;> rcases hc with rfl | rfl | rfl | rfl | rfl <;> first | rfl | decide +kernel | (unfold PySem.W.kitOne; rfl)
end L2
namespace L2
open PySem.Spec PyProof.Rows
structure J7 (P:Program) (w:World) (K:PySem.W.Frag) (mg:Str->Option Value) (base:Heap) (x:Str) (k:Nat) (ps:List Str) (sp:Sp):Prop where
 ex:∃ (f:Addr) (fd:FuncData),Ju P w K mg base JV k f fd ps sp/\mg x=some (.ref f)/\PySem.W.keepIn K (.ref f)=true/\Binds K fd ps []
theorem vB (F:J7 X.prog X.w X.K X.mg X.base x k ps sp) (hr:JU k X.A) (hg:Gl X x) (ha:PA X (e::es) t) (hdb:(x == ("__debug__":Str))=false:=by decide) (he:starEach (e::es) X.env=(false,eval e X.env)::starEach es X.env:=by rfl)
 (hpl:(backTo pos (starEach es X.env)).any (·.1)=false:=by rfl):PE X (.Call (.Name x p) (e::es) [] pos) (hV sp [] E0 t):=by
 obtain ⟨f,fd,F,hm,hk,hb⟩:=F.ex;exact yR F hr hg hm hk hb .nil Gs ha hdb he hpl
def Gw (K:PySem.W.Frag):R2:=fun x y H Q=>match x,y with
 | .int i,.int j=>Q (.int (i+j)) H
 | .int i,.bl k=>Q (.int (i+b2i k)) H
 | .str i,.str j=>i.length+j.length<=sizeLine/\Q (.str (i++j)) H
 | .ref a,.ref b=>vc K (.ref a) (.ref b) H Q∨Gq (.ref a) (.ref b) H Q
 | _,_=>False
def toD:V->D
 | .non=>.non
 | .bl b=>.bl b
 | .int i=>.int i
 | .str x=>.str x
 | _=>.non
theorem iQ {K:PySem.W.Frag} {H:Hp} {x:V} (h:cg x=true):Rep K H (toD x) x:=by cases x <;> first | (simp [cg] at h; done) | (simp [toD,Rep])
theorem pS (hx:cg x=true) (hy:cg y=true):D.eq (toD x) (toD y)=PD x y:=by cases x <;> cases y <;> first | (simp [cg] at hx; done) | (simp [cg] at hy; done) | rfl
def l7 (K:PySem.W.Frag) (n:Nat) (neg:Bool):R2:=fun x y H Q=>match cg x && cg y with
 | true=>Q (.bl (if neg then !PD x y else PD x y)) H
 | false=>∃ d e,Rep K H d x/\Rep K H e y/\D.depth d<=n/\Q (.bl (if neg then !D.eq d e else D.eq d e)) H
def zd (K:PySem.W.Frag):R2:=fun x y H Q=>match x,y with
 | .str z,.int i=>z.length<=sizeLine/\∃ c,Ku z.cps.toList i=some c/\Q (.str ⟨#[c]⟩) H
 | .ref p,.int i=>∃ xs v,(J0 K H p xs∨JW K H p xs)/\Ku xs i=some v/\Q v H
 | _,_=>False
def B3:R2:=fun x y H Q=>match x,y with
 | .int i,.int j=>Lh i j/\Q (.int (i * j)) H
 | _,_=>False
def B4 (j:Int):Prop:=0 < j/\j.natAbs.log2 < 9000
def vC:R2:=fun x y H Q=>match x,y with
 | .int i,.int j=>0 < j/\Q (.int (i % j)) H
 | _,_=>False
def vD:R2:=fun x y H Q=>match x,y with
 | .int i,.int j=>Q (.int (i - j)) H
 | _,_=>False
def ic (p:Int->Int->Bool) (q:Str->Str->Bool):R2:=fun x y H Q=>match x,y with
 | .int i,.int j=>Q (.bl (p i j)) H
 | .str i,.str j=>Q (.bl (q i j)) H
 | _,_=>False
theorem iR:JK X (binaryOp .Add) (Gw X.K):=by
 intro pins s σ H x y v u Q I rx ry h;cases x with
 | int i=>
  cases y with
  | int j=>exact pC pins s σ H _ _ v u Q I rx ry ⟨_,_,rfl,rfl,h⟩
  | bl j=>exact sU pins s σ H _ _ v u Q I rx ry ⟨_,_,rfl,rfl,h⟩
  | _=>exact False.elim h
 | str i=>
  cases y with
  | str j=>exact pH pins s σ H _ _ v u Q I rx ry ⟨_,_,rfl,rfl,h.1,h.2⟩
  | _=>exact False.elim h
 | ref a=>
  cases y with
  | ref b=>
   rcases h with h | h
   ·exact yW pins s σ H _ _ v u Q I rx ry h
   ·exact Dp pins s σ H _ _ v u Q I rx ry h
  | _=>exact False.elim h
 | _=>exact False.elim h
theorem ze:JK X (binaryOp .Mult) B3:=by
 intro pins s σ H x y v u Q I rx ry h;unfold B3 at h;split at h
 ·exact Da pins s σ H _ _ v u Q I rx ry ⟨_,_,rfl,rfl,h.1,h.2⟩
 ·exact h.elim
theorem zg:JK X (binaryOp .Mod) vC:=by
 intro pins s σ H x y v u Q I rx ry h;unfold vC at h;split at h
 ·exact pE pins s σ H _ _ v u Q I rx ry ⟨_,_,rfl,rfl,h.1,h.2⟩
 ·exact h.elim
theorem zh:JK X (binaryOp .Sub) vD:=by
 intro pins s σ H x y v u Q I rx ry h;unfold vD at h;split at h
 ·exact pD pins s σ H _ _ v u Q I rx ry ⟨_,_,rfl,rfl,h⟩
 ·exact h.elim
theorem zi (hu:X.A.units+n < cLine) {pins:List (Addr × Obj)} {s:Shared} {σ:St} {H:Hp} {x y:V} {v u:Value} {Q:VK} (I:Inv X pins σ H s) (rx:RelV x v) (ry:RelV y u) (h:l7 X.K n neg x y H Q) :
 ∃ b,SeqAt.RcAt X.A s v u b/\Q (.bl (if neg then !b else b)) H:=by
 unfold l7 at h;cases e:cg x && cg y with
 | true=>
  rw [e] at h;rw [Lv] at e;have d0:D.depth (toD x)<=n:=by cases x <;> simp [toD,D.depth]
  have z:=(JG I n X.A (toD x) (toD y) x y v u d0 hu (iQ e.1) (iQ e.2) rx ry).2;rw [pS e.1 e.2] at z;exact ⟨_,z,h⟩
 | false=>rw [e] at h;obtain ⟨d,e,rd,re,hd,q⟩:=h;exact ⟨_,(JG I n X.A d e x y v u hd hu rd re rx ry).2,q⟩
theorem Dw (hu:X.A.units+n < cLine):JK X (compareOp .Eq) (l7 X.K n false):=by intro pins s σ H x y v u Q I rx ry h;obtain ⟨b,r,q⟩:=zi hu I rx ry h;exact r _ _ _ _ ⟨.bl b,H,I,rfl,q⟩
theorem zj {K:PySem.W.Frag} {x y:V} {H:Hp} {Q:VK} (h:zd K x y H Q):rIx K x y H Q:=by
 cases y with
 | int j=>
  cases x with
  | str z=>obtain ⟨h1,c,h2,q⟩:=h;exact .inr (.inr ⟨_,_,c,rfl,rfl,h1,h2,q⟩)
  | ref a=>
   obtain ⟨xs,w,h1 | h1,h2,q⟩:=h
   ·exact .inl ⟨_,xs,_,w,rfl,rfl,h1,h2,q⟩
   ·exact .inr (.inl ⟨_,xs,_,w,rfl,rfl,h1,h2,q⟩)
  | _=>exact False.elim h
 | _=>cases x <;> exact False.elim h
theorem Lp.imp (h:Lp X r) (i:∀ x y H Q,r' x y H Q->r x y H Q):Lp X r':=by
 unfold Lp at h ⊢
 intros
 apply h <;> first | assumption | (apply i; assumption)
theorem N9:Lp X (zd X.K):=Ol.imp fun _ _ _ _ h=>zj h
theorem rh (I:Inv X pins σ H s) {n:Nat} {A:Around} (hu:A.units+n < cLine) {l m:List D} {xs ys:List V} {its its':List Value} (hd:D.Jz l<=n) (rl:Js X.K H l xs) (rm:Js X.K H m ys) (r:Vals xs its) (r':Vals ys its') :
 ∀ j (h1:j < its.toArray.size) (h2:j < its'.toArray.size),SeqAt.EqAt A s its.toArray[j] its'.toArray[j] (bV l m j):=by
 intro j h1 h2;have L1:=r.length; have L2:=r'.length; have L3:=rl.length; have L4:=rm.length;simp only [Z4] at h1 h2;have j1:j < l.length:=by lia
 have j2:j < m.length:=by lia
 obtain ⟨x',hx',px⟩:=rl.get (i:=j) (d:=l[j]) (by simp [j1]);obtain ⟨y',hy',py⟩:=rm.get (i:=j) (d:=m[j]) (by simp [j2]);obtain ⟨u',hu',pu⟩:=r.get hx';obtain ⟨v',hv',pv'⟩:=r'.get hy';have e1:its.toArray[j]=u':=by have:=(Z9.mp hu').2; simpa using this
 have e2:its'.toArray[j]=v':=by have:=(Z9.mp hv').2; simpa using this
 have e3:bV l m j=D.eq l[j] m[j]:=by simp [bV,j1,j2]
 rw [e1,e2,e3];exact (JG I n A l[j] m[j] x' y' u' v' (La (df (l:=l) (j:=j) (by simp [j1])) hd) hu px py pu pv').1
set_option maxHeartbeats 4000000 in
theorem neD (I:Inv X pins σ H s) {n:Nat} {A:Around} {d e:D} {x y:V} {u v:Value} (hn:D.depth d<=n+1) (hu:A.units+(n+1) < cLine) (rd:Rep X.K H d x) (re:Rep X.K H e y) (ru:RelV x u) (rv:RelV y v):SeqAt.RcNeAt A s u v (!D.eq d e):=by
 have hu0:A.units < cLine:=by grind
 have hu1:A.in1.units+n < cLine:=by show A.units+1+n < cLine; lia
 cases d <;> rw [Rep] at rd
 case non=>
  subst rd;cases ru;cases e <;> rw [Rep] at re
  case non=>subst re;cases rv;exact SeqAt.RcNeAt.none_none
  case bl c=>subst re;cases rv;exact SeqAt.RcNeAt.none_bool _
  case int c=>subst re;obtain ⟨t',rfl⟩:=rv;exact SeqAt.RcNeAt.none_int _ _
  case str c=>subst re;obtain ⟨t',rfl⟩:=rv;exact SeqAt.RcNeAt.none_str _ _
  case tup m=>obtain ⟨b',ys,rfl,p',q'⟩:=re;cases rv;obtain ⟨its',r',pl',_⟩:=I.tuple p';exact SeqAt.RcNeAt.none_tuple  pl' hu0
  case lst m=>obtain ⟨b',ys,rfl,p',q'⟩:=re;cases rv;obtain ⟨its',r',pl',_⟩:=I.list p';exact SeqAt.RcNeAt.none_list  pl'.isList hu0
 case bl b=>
  subst rd;cases ru;cases e <;> rw [Rep] at re
  case non=>subst re;cases rv;exact SeqAt.RcNeAt.bool_none _
  case bl c=>subst re;cases rv;exact SeqAt.RcNeAt.bool_bool _ _
  case int c=>subst re;obtain ⟨t',rfl⟩:=rv;exact SeqAt.RcNeAt.bool_int _ _ _
  case str c=>subst re;obtain ⟨t',rfl⟩:=rv;exact SeqAt.RcNeAt.bool_str _ _ _
  case tup m=>obtain ⟨b',ys,rfl,p',q'⟩:=re;cases rv;obtain ⟨its',r',pl',_⟩:=I.tuple p';exact SeqAt.RcNeAt.bool_tuple _ pl' hu0
  case lst m=>obtain ⟨b',ys,rfl,p',q'⟩:=re;cases rv;obtain ⟨its',r',pl',_⟩:=I.list p';exact SeqAt.RcNeAt.bool_list _ pl'.isList hu0
 case int b=>
  subst rd;obtain ⟨t,rfl⟩:=ru;cases e <;> rw [Rep] at re
  case non=>subst re;cases rv;exact SeqAt.RcNeAt.int_none _ _
  case bl c=>subst re;cases rv;exact SeqAt.RcNeAt.int_bool _ _ _
  case int c=>subst re;obtain ⟨t',rfl⟩:=rv;exact SeqAt.RcNeAt.int_int _ _ _ _
  case str c=>subst re;obtain ⟨t',rfl⟩:=rv;exact SeqAt.RcNeAt.int_str _ _ _ _
  case tup m=>obtain ⟨b',ys,rfl,p',q'⟩:=re;cases rv;obtain ⟨its',r',pl',_⟩:=I.tuple p';exact SeqAt.RcNeAt.int_tuple _ _ pl' hu0
  case lst m=>obtain ⟨b',ys,rfl,p',q'⟩:=re;cases rv;obtain ⟨its',r',pl',_⟩:=I.list p';exact SeqAt.RcNeAt.int_list _ _ pl'.isList hu0
 case str b=>
  subst rd;obtain ⟨t,rfl⟩:=ru;cases e <;> rw [Rep] at re
  case non=>subst re;cases rv;exact SeqAt.RcNeAt.str_none _ _
  case bl c=>subst re;cases rv;exact SeqAt.RcNeAt.str_bool _ _ _
  case int c=>subst re;obtain ⟨t',rfl⟩:=rv;exact SeqAt.RcNeAt.str_int _ _ _ _
  case str c=>subst re;obtain ⟨t',rfl⟩:=rv;exact SeqAt.RcNeAt.str_str _ _ _ _
  case tup m=>obtain ⟨b',ys,rfl,p',q'⟩:=re;cases rv;obtain ⟨its',r',pl',_⟩:=I.tuple p';exact SeqAt.RcNeAt.str_tuple _ _ pl' hu0
  case lst m=>obtain ⟨b',ys,rfl,p',q'⟩:=re;cases rv;obtain ⟨its',r',pl',_⟩:=I.list p';exact SeqAt.RcNeAt.str_list _ _ pl'.isList hu0
 case tup l=>
  obtain ⟨a,xs,rfl,p,q⟩:=rd;cases ru;obtain ⟨its,r,pl,_⟩:=I.tuple p;cases e <;> rw [Rep] at re
  case non=>subst re;cases rv;exact SeqAt.RcNeAt.tuple_none  pl hu0
  case bl c=>subst re;cases rv;exact SeqAt.RcNeAt.tuple_bool _ pl hu0
  case int c=>subst re;obtain ⟨t',rfl⟩:=rv;exact SeqAt.RcNeAt.tuple_int _ _ pl hu0
  case str c=>subst re;obtain ⟨t',rfl⟩:=rv;exact SeqAt.RcNeAt.tuple_str _ _ pl hu0
  case tup m=>
   obtain ⟨b',ys,rfl,p',q'⟩:=re;cases rv;obtain ⟨its',r',pl',_⟩:=I.tuple p';have L1:=r.length; have L2:=r'.length; have L3:=q.length; have L4:=q'.length;have hdl:D.Jz l<=n:=by rw [D.depth] at hn; lia
   have it:=rh I hu1 hdl q q' r r';have z:=SeqAt.RcNeAt.tuples (e:=bV l m) pl pl' hu0 it;rw [D.e4,<- eJ l m];simp only [Z4] at z;rw [<- L1,<- L2,L3,L4] at z;exact z
  case lst m=>obtain ⟨b',ys,rfl,p',q'⟩:=re;cases rv;obtain ⟨its',r',pl',_⟩:=I.list p';exact SeqAt.RcNeAt.tuple_list  pl pl'.isList hu0
 case lst l=>
  obtain ⟨a,xs,rfl,p,q⟩:=rd;cases ru;obtain ⟨its,r,pl,_⟩:=I.list p;cases e <;> rw [Rep] at re
  case non=>subst re;cases rv;exact SeqAt.RcNeAt.list_none  pl.isList hu0
  case bl c=>subst re;cases rv;exact SeqAt.RcNeAt.list_bool _ pl.isList hu0
  case int c=>subst re;obtain ⟨t',rfl⟩:=rv;exact SeqAt.RcNeAt.list_int _ _ pl.isList hu0
  case str c=>subst re;obtain ⟨t',rfl⟩:=rv;exact SeqAt.RcNeAt.list_str _ _ pl.isList hu0
  case tup m=>obtain ⟨b',ys,rfl,p',q'⟩:=re;cases rv;obtain ⟨its',r',pl',_⟩:=I.tuple p';exact SeqAt.RcNeAt.list_tuple  pl.isList pl' hu0
  case lst m=>
   obtain ⟨b',ys,rfl,p',q'⟩:=re;cases rv;obtain ⟨its',r',pl',_⟩:=I.list p';have L1:=r.length; have L2:=r'.length; have L3:=q.length; have L4:=q'.length;have hdl:D.Jz l<=n:=by rw [D.depth] at hn; omega
   have it:=rh I hu1 hdl q q' r r';rw [D.e5];by_cases hl:l.length=m.length
   ·have z:=SeqAt.RcNeAt.lists (e:=bV l m) pl.isList pl'.isList (by simp; grind) hu0 it;rw [<- eJ l m,hl];simp only [Z4] at z;rw [<- L1,L3,hl] at z;simpa using z
   ·rw [rg hl];exact SeqAt.RcNeAt.lists_lengths pl.isList pl'.isList (by simp; grind) hu0
theorem Dx (hu:X.A.units+(n+1) < cLine):JK X (compareOp .NotEq) (l7 X.K (n+1) true):=by
 intro pins s σ H x y v u Q I rx ry h;unfold l7 at h;cases e:cg x && cg y with
 | true=>
  rw [e] at h;rw [Lv] at e;have d0:D.depth (toD x)<=n+1:=by cases x <;> simp [toD,D.depth]
  have z:=neD I (n:=n) (A:=X.A) d0 hu (iQ e.1) (iQ e.2) rx ry;rw [pS e.1 e.2] at z;exact z _ _ _ _ ⟨.bl _,H,I,rfl,h⟩
 | false=>rw [e] at h;obtain ⟨d,e,rd,re,hd,q⟩:=h;exact neD I (n:=n) (A:=X.A) hd hu rd re rx ry _ _ _ _ ⟨.bl _,H,I,rfl,q⟩
def Ob (x y:Str):Bool:=decide (x.cps.toList < y.cps.toList)
theorem vE:JK X (compareOp .Lt) (ic (fun i j=>decide (i < j)) Ob):=by
 intro pins s σ H x y v u Q I rx ry h;unfold ic at h;split at h
 ·exact Gb pins s σ H _ _ v u Q I rx ry ⟨_,_,rfl,rfl,h⟩
 ·obtain ⟨t,rfl⟩:=rx; obtain ⟨t',rfl⟩:=ry;exact PySem.P.lt_str ⟨.bl _,H,I,rfl,h⟩
 ·exact h.elim
theorem Dy:JK X (compareOp .LtE) (ic (fun i j=>decide (i<=j)) (fun x y=>!Ob y x)):=by
 intro pins s σ H x y v u Q I rx ry h;unfold ic at h;split at h
 ·exact Gc pins s σ H _ _ v u Q I rx ry ⟨_,_,rfl,rfl,h⟩
 ·obtain ⟨t,rfl⟩:=rx; obtain ⟨t',rfl⟩:=ry;exact PySem.P.le_str ⟨.bl _,H,I,rfl,h⟩
 ·exact h.elim
theorem Dz:JK X (compareOp .Gt) (ic (fun i j=>decide (j < i)) (fun x y=>Ob y x)):=by
 intro pins s σ H x y v u Q I rx ry h;unfold ic at h;split at h
 ·exact Ge pins s σ H _ _ v u Q I rx ry ⟨_,_,rfl,rfl,h⟩
 ·obtain ⟨t,rfl⟩:=rx; obtain ⟨t',rfl⟩:=ry;exact PySem.P.gt_str ⟨.bl _,H,I,rfl,h⟩
 ·exact h.elim
def B5:List Str->Str->Nat
 | [],_=>0
 | y::r,x=>if x == y then 0 else B5 r x+1
def bM (N:List Str):List (Str × NameKind)->List Nat
 | []=>[]
 | (n,k)::r=>if k == .free then B5 N n::bM N r else bM N r
theorem vF (hc:X.calm=true) (S:JZ X scope [x] (bM X.N scope.names)) (hi:PI X (.Name x px) iter wi) (hx:scope.names.lookup x=some .local) (hN:([x]++(bM X.N scope.names).map fun j=>X.N.getD j Str.empty).Nodup)
 (ht:∀ C s2 H2 fp,Nr (aD X scope [x] (bM X.N scope.names) C s2 H2 fp) ifs tt) (he:∀ C s2 H2 fp,PE (aD X scope [x] (bM X.N scope.names) C s2 H2 fp) elt te)
 (hs:∀ x,foldedSetIterable iter X.env x=pure x:=by intro _; rfl) :
 PE X (.ListComp elt [⟨.Name x px,iter,ifs,0⟩] scope pos) (hZ 1 (bM X.N scope.names) wi (Nq (dE 0) tt (kN te))):=
 nS (ts:=[x]) hc S hi (rb hc (fun C s2 H2 fp=>iO (i:=0) hN rfl (.inl (lookup_relabel_local hx)) (.inr (lookup_relabel_local hx))) ht he) hs
def Oz (p:Addr) (H H':Hp):Prop:=∀ b o,b ≠ p->H b=some o->H' b=some o
def OZ (z:Str):It:=⟨fun i _=>i < z.cps.size,fun i H x H'=>H'=H/\∃ c,z.cps.toList[i]?=some c/\x=.str ⟨#[c]⟩,fun i _=>z.cps.size<=i⟩
theorem nU {P:Program} {w:World} {K:PySem.W.Frag} {tg:Expr} (z:Str) (it:Addr) (T:String) (tk0:Tok) (hT:T="str_ascii_iterator"∨T="str_iterator"):Turn P w K tg (OZ z) [it] it (fun i h=>h.IsStrIter it T z tk0 i) where
 mem:=by simp
 obj:=fun i h st b hb=>by
  have e:b=it:=by simpa using hb
  subst e;obtain ⟨o,e,c,d⟩:=st;exact ⟨o,e,fun v z=>by rw [d] at z; cases z⟩
 keep:=fun i h h' ⟨o,e,r⟩ k=>⟨o,k it (by simp) o e,r⟩
 item:=by
  intro X hP hw hK hc i pins s σ H E I hf st hg;subst hP hw hK;obtain ⟨f0,f1,f2,f3,f4,f5⟩:=hf it (by simp);have hi:i < z.cps.size:=hg;have hx:z.cps[i]?=some z.cps[i]:=by simp [hi]
  have fin:∀ h',h'.IsStrIter it T z tk0 (i+1)->Heap.SameBut it s.heap h'->∃ u,some (Value.str ⟨#[z.cps[i]]⟩ s.toks)=some u /\
   wpAny (model X.prog X.w) X.A (letOwnedTupleGo tg (.ref it) u) (fun _ s2=>YP X pins σ H i (OZ z) (fun i h=>h.IsStrIter it T z tk0 i) [it] u s2) E { s with heap:=h',toks:=s.toks+1 }:=fun h' st' sb=>by
   have I1:Inv X pins σ H { s with heap:=h',toks:=s.toks+1 }:=I.turned (fun b o hb e=>(sb.2 b hb).trans e) f0 f1 f3 f4 f5;obtain ⟨o,e,c,d⟩:=id st';refine ⟨_,rfl,ja (s:={ s with heap:=h',toks:=s.toks+1 }) e c d (by rcases hT with rfl | rfl <;> decide) ⟨.str ⟨#[z.cps[i]]⟩,H,I1,⟨s.toks,rfl⟩,⟨rfl,_,by simp [hi],rfl⟩,st',fun b hb=>(hf b hb).1⟩⟩
  rcases hT with rfl | rfl
  ·exact wpAny_pyNext_ascii_item st hx fin
  ·exact wpAny_pyNext_wide_item st hx fin
 done:=by
  intro X hP hw hK hc i pins s σ H E I hf st hg;subst hP hw hK;obtain ⟨f0,f1,f2,f3,f4,f5⟩:=hf it (by simp);have hx:z.cps[i]?=none:=by have:z.cps.size<=i:=hg;simp [this]
  rcases hT with rfl | rfl
  ·exact wpAny_pyNext_ascii_end (I.ok.hd hc) st hx fun h' eb=>⟨rfl,I.turned (t':=s.toks) (fun b o hb e=>eb b o hb e) f0 f1 f3 f4 f5⟩
  ·exact wpAny_pyNext_wide_end (I.ok.hd hc) st hx fun h' eb=>⟨rfl,I.turned (t':=s.toks) (fun b o hb e=>eb b o hb e) f0 f1 f3 f4 f5⟩
 self:=fun _ _ _ _ _ st h=>by
  rcases hT with rfl | rfl
  ·exact wpAny_pyIter_striter_ascii st h
  ·exact wpAny_pyIter_striter_wide st h
def zk (K:PySem.W.Frag) (tl:TE):TI:=fun σ H R=>tl σ H fun x H1=>match x with
 | .str z=>R (OZ z) H1
 | .ref a=>((∃ xs,J0 K H1 a xs)/\R (Py K a) H1)∨((∃ xs,JW K H1 a xs)/\R (Pc K a) H1)
 | _=>False
theorem DA {l:Expr} {tl:TE} (hl:PE X l tl):PI X tg l (zk X.K tl):=by
 intro pins s σ H R I h;refine Jw (hl pins s σ H _ I h) fun v s1 ⟨x,H1,I1,r1,q1⟩=>?_
 try dsimp only at q1
 split at q1
 ·rename_i z;obtain ⟨t,rfl⟩:=r1;have fp:∀ b ∈ [s1.heap.objs.size],fq X pins H1 b:=fun b hb=>by
   obtain rfl:b=s1.heap.objs.size:=by simpa using hb
   exact I1.Ll (JI _) (I1.hok.fresh (JI _))
  cases ha:z.cps.all (· < 128)
  ·exact wpAny_pyIter_wide ha ⟨s1.heap.objs.size,[s1.heap.objs.size],_,_,H1,rfl,I1.kept (t':=s1.toks) fun b o e=>Z7 _ e,nU z _ "str_iterator" t (.inr rfl),⟨_,Kv _ rfl,rfl,rfl⟩,fp,q1⟩
  ·exact wpAny_pyIter_ascii ha ⟨s1.heap.objs.size,[s1.heap.objs.size],_,_,H1,rfl,I1.kept (t':=s1.toks) fun b o e=>Z7 _ e,nU z _ "str_ascii_iterator" t (.inl rfl),⟨_,Kv _ rfl,rfl,rfl⟩,fp,q1⟩
 ·rename_i a;cases r1;rcases q1 with ⟨⟨xs,hq⟩,q⟩ | ⟨⟨xs,hq⟩,q⟩
  ·obtain ⟨its,rv,p,hz⟩:=I1.list hq;refine wpAny_pyIter_list p.isList ⟨s1.heap.objs.size,[s1.heap.objs.size],_,_,H1,rfl,I1.kept (t':=s1.toks) fun b o e=>Z7 _ e,sR a _,⟨_,Kv _ rfl,rfl,rfl⟩,fun b hb=>?_,q⟩;obtain rfl:b=s1.heap.objs.size:=by simpa using hb
   exact I1.Ll (JI _) (I1.hok.fresh (JI _))
  ·obtain ⟨its,rv,p,hz⟩:=I1.tuple hq;refine wpAny_pyIter_tuple (show s1.heap.IsTuple a its.toArray from p) ⟨s1.heap.objs.size,[s1.heap.objs.size],_,_,H1,rfl,I1.kept (t':=s1.toks) fun b o e=>Z7 _ e,pA a _,⟨_,Kv _ rfl,rfl,rfl⟩,fun b hb=>?_,q⟩;obtain rfl:b=s1.heap.objs.size:=by simpa using hb
   exact I1.Ll (JI _) (I1.hok.fresh (JI _))
 ·exact q1.elim
def tE (K:PySem.W.Frag) (xs:List V) (H:Hp) (Q:VK):Prop:=∃ x n,xs=[x]/\Gf K x H n/\Q (.int (n:Nat)) H
def TyK (K:PySem.W.Frag) (H:Hp):V->String->Prop
 | .non,T=>T="NoneType"
 | .bl _,T=>T="bool"
 | .int _,T=>T="int"
 | .str _,T=>T="str"
 | .ref p,T=>(T="tuple"/\∃ xs,JW K H p xs)∨(T="list"/\∃ xs,J0 K H p xs)
 | _,_=>False
def vG (K:PySem.W.Frag) (xs:List V) (H:Hp) (Q:VK):Prop:=∃ x c T,xs=[x,.ty c]/\TyK K H x T/\c ∈ ["bool","int","str","list","tuple"]/\Q (.bl (kw T c)) H
def DB (K:PySem.W.Frag) (xs:List V) (H:Hp) (Q:VK):Prop:=∃ (p:Addr) (ns:List Int),xs=[.ref p]/\J0 K H p (ns.map V.int)/\Q (.int ns.sum) H
def l8 (K:PySem.W.Frag) (xs:List V) (H:Hp) (Q:VK):Prop:=∃ p ys,xs=[.ref p]/\((J0 K H p ys/\∀ l,H l=none->Q (.ref l) (upd H l (.tup ys)))∨(JW K H p ys/\Q (.ref p) H))
def B6 (xs:List V) (H:Hp) (Q:VK):Prop:=(∃ i,xs=[.int i]/\Q (.int i) H)∨∃ k,xs=[.bl k]/\Q (.int (if k then 1 else 0)) H
def DC:R2:=fun x y H Q=>y=.non/\Q (.bl (decide (x=.non))) H
def vH:R2:=fun x y H Q=>y=.non/\Q (.bl (!decide (x=.non))) H
theorem tF:Jx X (.builtin "len") (tE X.K):=u7
theorem pU:Jx X (.builtin "isinstance") (vG X.K):=by
 intro pins s σ H xs us Q I r h;obtain ⟨x,c,T,rfl,hk,hc,q⟩:=h;obtain ⟨u,u',rfl,rx,ry⟩:=qV r;cases ry;have fin:∀ tk,EP X pins σ Q (.bool (kw T c)) { s with toks:=tk }:=fun tk=>⟨.bl _,H,I.tok _,rfl,q⟩;cases x with
 | non=>cases hk; exact eF I rx (.non:Ki X.K H .non _) (eK X.K _ (by simp [dG]) c hc) fin
 | bl b=>cases hk; exact eF I rx (.bl b:Ki X.K H (.bl b) _) (eK X.K _ (by simp [dG]) c hc) fin
 | int i=>cases hk; exact eF I rx (.int i:Ki X.K H (.int i) _) (eK X.K _ (by simp [dG]) c hc) fin
 | str i=>cases hk; exact eF I rx (.str i:Ki X.K H (.str i) _) (eK X.K _ (by simp [dG]) c hc) fin
 | ref a=>
  cases rx;rcases hk with ⟨rfl,xs,hq⟩ | ⟨rfl,xs,hq⟩
  ·obtain ⟨its,_,⟨o,h1,h2,_⟩,_⟩:=I.tuple hq;exact Yf PySem.W.kitx_tuple I.Lr ⟨o,h1,h2⟩ (eK X.K _ (by simp [dG]) c hc) (fun z=>nomatch z) fin
  ·obtain ⟨its,_,⟨o,n,h1,h2,_⟩,_⟩:=I.list hq;exact Yf PySem.W.kitx_list I.Lr ⟨o,h1,h2⟩ (eK X.K _ (by simp [dG]) c hc) (fun z=>nomatch z) fin
 | _=>exact hk.elim
theorem tG (hc:X.calm=true):Jx X (.builtin "sum") (DB X.K):=tD hc
theorem nV:Jx X (.type "tuple") (l8 X.K):=ko
theorem tH:Jx X (.type "int") B6:=sX
theorem rj:JK X (compareOp .Is) DC:=lY
theorem nW:JK X (compareOp .IsNot) vH:=iP
section
variable {K:PySem.W.Frag} {A B:Prop}
theorem DD (hz:z.length<=sizeLine) (h:Q (.int z.length) H):tE K [.str z] H Q:=⟨_,_,rfl,⟨hz,rfl⟩,h⟩
theorem zl (hp:JW K H p xs) (h:Q (.int xs.length) H):tE K [.ref p] H Q:=⟨_,_,rfl,.inr ⟨xs,hp,rfl⟩,h⟩
end
structure KT (K:PySem.W.Frag):Prop where
section
variable {K:PySem.W.Frag}
theorem DE (kt:KT K) (hu:X.A.units+n < cLine) (hK:X.K=K:=by rfl):JK X (compareOp .Eq) (l7 K n false):=hK ▸ Dw hu
theorem DF (kt:KT K) (hu:X.A.units+(n+1) < cLine) (hK:X.K=K:=by rfl):JK X (compareOp .NotEq) (l7 K (n+1) true):=hK ▸ Dx hu
theorem tI (kt:KT K) (hK:X.K=K:=by rfl):Jx X (.builtin "len") (tE K):=hK ▸ tF
theorem tJ (kt:KT K) (hc:X.calm=true) (hK:X.K=K:=by rfl):Jx X (.builtin "sum") (DB K):=hK ▸ tG hc
theorem tK (kt:KT K) (hK:X.K=K:=by rfl):Jx X (.builtin "isinstance") (vG K):=hK ▸ pU
theorem nX (kt:KT K) (hK:X.K=K:=by rfl):Jx X (.type "tuple") (l8 K):=hK ▸ nV
theorem zm (kt:KT K) (hl:PE X l tl) (hK:X.K=K:=by rfl):PI X tg l (zk K tl):=hK ▸ DA hl
theorem rn (kt:KT K) (hc:X.calm=true) (h:Nc X es t)
 (hn:(assignEach es X.env).length=n:=by rfl) (hst:(assignEach es X.env).findIdx? (·.1)=none:=by rfl) (hK:X.K=K:=by rfl):PG X (.Tuple es k pos) (pj K n t):=hK ▸ C0 hc h hn hst
end
def Pg:List Str->Bool
 | []=>true
 | a::r=>!(r.any fun b=>a == b) && Pg r
theorem b9:∀ {l:List Str},Pg l=true->l.Nodup
 | [],_=>List.nodup_nil
 | a::r,h=>by
  simp only [Pg,Lv,Bool.not_eq_true',List.any_eq_false] at h;exact List.nodup_cons.mpr ⟨fun hm=>h.1 a hm (by simp),b9 h.2⟩
end L2
namespace My
open L2
theorem un4 (r:JU k A) (h:n<=150:=by decide):A.units+n < cLine:=by have:=r.un; lia
theorem un5 (r:JU k A) (h:n<=150:=by decide):A.units+n+1 < cLine:=by have:=r.un; lia
theorem ie (H:Hp) (l:Addr) (o:HO):∃ H',upd H l o=H'/\Oz l H H'/\H' l=some o:=⟨_,rfl,fun b u hb e=>by rw [ar hb]; exact e,aj⟩
theorem aF (s:Jo H H'):aU K H H':=(Jo.Jp s).1
end My
namespace L2
open PySem.Spec PyProof.Rows
theorem Inv.KY {t':Nat} {ch:List Addr} (I:Inv X pins σ H s) (k:∀ b o,b ∉ ch->s.heap.get? b=some o->h'.get? b=some o) (hf:∀ b ∈ ch,fq X pins H b):Inv X pins σ H { s with heap:=h',toks:=t' }:=by
 have nit:∀ b u,H b=some u->b ∉ ch:=fun b u e z=>by rw [(hf b z).1] at e; cases e
 refine I.step (g':=s.gens) (d':=s.drawn) (ch:=ch) (fun b hb=>?_) (fun b o _ _ hc e _=>k b o hc e) (fun b o _ _ hc e _=>⟨o.slots,k b o hc e⟩) (fun _ _ _ _ n=>n)
  (fun b o hc e=>⟨o,k b o hc e⟩) (fun _ _ e=>e) (fun _ _ _ e=>e) (fun b ps e=>⟨#[],by rw [e]; simp⟩) (fun m hm=>?_) (fun b u e=>?_) I.bare
 ·obtain ⟨f0,f1,f2,f3,f4,f5⟩:=hf b hb;exact ⟨f3,f1,f4,f5⟩
 ·obtain ⟨o,es,ep,ho,r⟩:=hm;exact ⟨o,es,ep,k _ o (fun z=>(hf _ z).2.1 rfl) ho,r⟩
 ·refine (I.hok b u e).Jp (fun c v hc q=>k c v ?_ q) (fun _ q=>q) fun _ _ q=>q;rcases hc with z | z
  ·rw [z]; exact nit b u e
  ·exact nit c _ z
def Pp (K:PySem.W.Frag) (a b:Addr):It:=
 ⟨fun i H=>∃ xs ys x y,J0 K H a xs/\J0 K H b ys/\xs[i]?=some x/\ys[i]?=some y,
  fun i H x H'=>∃ T u v,H T=none/\H'=upd H T (.tup [u,v])/\x=.ref T/\(∀ xs,J0 K H a xs->xs[i]?=some u)/\∀ ys,J0 K H b ys->ys[i]?=some v,
  fun i H=>∃ xs ys,J0 K H a xs/\J0 K H b ys/\(xs.length<=i∨ys.length<=i)⟩
structure OP (z TI TO i1 i2 a b:Addr) (i:Nat) (h:Heap):Prop where
 hz:IsZip h z TI TO .none
 hTI:IsPair h TI (.ref i1) (.ref i2)
 hTO:∃ a b,IsPair h TO a b
 h1:h.IsListIter i1 a i
 h2:h.IsListIter i2 b i
theorem vI {P:Program} {w:World} {K:PySem.W.Frag} {es:List Expr} {k:Nat} {pos:Pos} {a b z TI TO i1 i2:Addr} (D:ZipApart z TI TO i1 i2 a b):Turn P w K (.Tuple es k pos) (Pp K a b) [z,TI,TO,i1,i2] z (OP z TI TO i1 i2 a b) where
 mem:=by simp
 obj:=fun i h st c hc=>by
  simp only [JS,Yb,or_false] at hc;rcases hc with rfl | rfl | rfl | rfl | rfl
  ·exact ⟨_,st.hz,fun v z=>by cases z⟩
  ·exact ⟨_,st.hTI,fun v z=>by cases z⟩
  ·obtain ⟨_,_,e⟩:=st.hTO;exact ⟨_,e,fun v z=>by cases z⟩
  ·obtain ⟨o,e,c,d⟩:=st.h1;exact ⟨o,e,fun v z=>by rw [d] at z; cases z⟩
  ·obtain ⟨o,e,c,d⟩:=st.h2;exact ⟨o,e,fun v z=>by rw [d] at z; cases z⟩
 keep:=fun i h h' st kk=>by
  obtain ⟨x,y,e⟩:=st.hTO;exact ⟨kk z (by simp) _ st.hz,kk TI (by simp) _ st.hTI,⟨x,y,kk TO (by simp) _ e⟩,st.h1.at fun o e=>kk i1 (by simp) o e,st.h2.at fun o e=>kk i2 (by simp) o e⟩
 item:=by
  intro X hP hw hK hc i pins s σ H E I hf st hg;subst hP hw hK;obtain ⟨xs,ys,x,y,hx,hy,ex,ey⟩:=hg;obtain ⟨its,rv,p,hz⟩:=I.list hx;obtain ⟨its',rv',p',hz'⟩:=I.list hy;obtain ⟨u,hu,ru⟩:=rv.get ex;obtain ⟨v,hv,rv2⟩:=rv'.get ey;obtain ⟨ta,tb,hTO⟩:=st.hTO;refine wpAny_pyNext_zip_item D st.hz st.hTI hTO st.h1 st.h2 p.isList p'.isList (x:=u) (y:=v) (by simpa using hu) (by simpa using hv) fun h' a1 a2 a3 a4 a5 a6 hk=>?_;refine ⟨_,rfl,wpAny_letOwnedTupleGo_zip (s:={ s with heap:=h' }) a1 fun h2 hz2 sb=>?_⟩;have fresh:H s.heap.objs.size=none:=I.hok.fresh (JI _);have lt:∀ c ∈ [z,TI,TO,i1,i2],c < s.heap.objs.size:=fun c hc=>by
   simp only [JS,Yb,or_false] at hc;rcases hc with rfl | rfl | rfl | rfl | rfl
   ·exact JO st.hz
   ·exact JO st.hTI
   ·exact JO hTO
   ·obtain ⟨o,e,_⟩:=st.h1; exact JO e
   ·obtain ⟨o,e,_⟩:=st.h2; exact JO e
  have nz:s.heap.objs.size ≠ z:=Nat.ne_of_gt (lt z (by simp));have I1:Inv X pins σ H { s with heap:=h2,toks:=s.toks }:=I.KY (ch:=[z,TI,TO,i1,i2]) (fun c o hc e=>by
   simp only [JS,Yb,or_false,not_or] at hc;exact (sb.2 c hc.1).trans (hk c o hc.1 hc.2.2.1 hc.2.2.2.1 hc.2.2.2.2 e)) hf
  have sz:h2.get? s.heap.objs.size=some { cls:=.type "tuple",data:=.seq #[u,v] }:=(sb.2 _ nz).trans a5;have I2:Inv X pins σ (upd H s.heap.objs.size (.tup [x,y])) { s with heap:=h2,toks:=s.toks }:=by
   refine I.step (g':=s.gens) (d':=s.drawn) (t':=s.toks) (h':=h2) (ch:=[z,TI,TO,i1,i2]) (fun c hc=>?_) (fun c o _ _ hc e _=>?_) (fun c o _ _ hc e _=>?_) (fun c o hc e n=>?_) (fun c o hc e=>?_) (fun c xs e=>?_) (fun c o xs e=>?_) (fun c ps e=>?_) (fun m hm=>?_) (fun c o e=>?_) I.bare
   ·obtain ⟨f0,f1,f2,f3,f4,f5⟩:=hf c hc;exact ⟨f3,f1,f4,f5⟩
   all_goals first
    | (have hc':=hc
       simp only [JS,Yb,or_false,not_or] at hc';have kk:=(sb.2 c hc'.1).trans (hk c o hc'.1 hc'.2.2.1 hc'.2.2.2.1 hc'.2.2.2.2 e)
       first
        | exact kk
        | exact ⟨o.slots,kk⟩
        | exact ⟨o,kk⟩
        | (rw [ar (Kn (JO e))]; exact n))
    | (rw [ar (av e fresh)]; exact e)
    | exact ⟨#[],by rw [ar (av e fresh),e]; simp⟩
    | skip
   ·obtain ⟨o,es,ep,ho,r⟩:=hm;have nL:X.env.locals ∉ [z,TI,TO,i1,i2]:=fun q=>(hf _ q).2.1 rfl;simp only [JS,Yb,or_false,not_or] at nL;exact ⟨o,es,ep,(sb.2 _ nL.1).trans (hk _ o nL.1 nL.2.2.1 nL.2.2.2.1 nL.2.2.2.2 ho),r⟩
   ·by_cases hcs:c=s.heap.objs.size
    ·subst hcs;rw [aj] at e;cases e;exact ⟨by show 2<=sizeLine; decide,[u,v],.cons ru (.cons rv2 .nil),⟨_,sz,rfl,_,rfl⟩⟩
    ·rw [ar hcs] at e;have q:=I1.hok c o e;exact q.Jp (fun _ _ _ q=>q) (fun b q=>by rw [ar (av q fresh)]; exact q) fun b xs q=>by rw [ar (av q fresh)]; exact q
  refine ⟨.ref s.heap.objs.size,_,I2,rfl,⟨_,x,y,fresh,rfl,rfl,fun zs hzs=>by rw [I.KC hzs hx]; exact ex,fun zs hzs=>by rw [I.KC hzs hy]; exact ey⟩,
   ⟨hz2,(sb.2 _ D.TIz).trans (hk _ _ D.TIz D.TITO D.TIi1 D.TIi2 st.hTI),⟨_,_,(sb.2 _ D.TOz).trans a2⟩,a3.at fun o e=>(sb.2 _ D.i1z).trans e,a4.at fun o e=>(sb.2 _ D.i2z).trans e⟩,fun c hc=>?_⟩
  rw [ar (Kn (lt c hc))];exact (hf c hc).1
 done:=by
  intro X hP hw hK hc i pins s σ H E I hf st hg;subst hP hw hK;obtain ⟨xs,ys,hx,hy,hl⟩:=hg;obtain ⟨its,rv,p,hz⟩:=I.list hx;obtain ⟨its',rv',p',hz'⟩:=I.list hy;have l1:=rv.length;have l2:=rv'.length;obtain ⟨ta,tb,hTO⟩:=st.hTO;refine wpAny_pyNext_zip_end (I.ok.hd hc) D st.hz st.hTI hTO st.h1 st.h2 p.isList p'.isList (by rcases hl with hl | hl; exact .inl (by simp; lia); exact .inr (by simp; lia)) fun h' hk=>⟨rfl,?_⟩;exact I.KY (t':=s.toks) (ch:=[z,TI,TO,i1,i2]) (fun c o hc e=>by
   simp only [JS,Yb,or_false,not_or] at hc;exact hk c o hc.1 hc.2.2.1 hc.2.2.2.1 hc.2.2.2.2 e) hf
 self:=fun _ _ _ _ _ st h=>wpAny_pyIter_zip st.hz h
def l9 (r r' r'':R2) (ta tb tc td:TE):TT:=fun σ H Q=>ta σ H fun x H1=>tb σ H1 fun y H2=>r x y H2 fun z H3=>∃ k,z=.bl k /\
 (if k=true then tc σ H3 fun w H4=>r' y w H4 fun z' H5=>∃ k',z'=.bl k'/\(if k'=true then td σ H5 fun u H6=>r'' w u H6 fun z2 H7=>∃ k2,z2=.bl k2/\Q k2 H7 else Q false H5) else Q false H3)
theorem tL (ho:JK X (compareOp op) r) (ho':JK X (compareOp op') r') (ho'':JK X (compareOp op'') r'') (ha:PE X a ta) (hb:PE X b tb) (hc:PE X c tc) (hd:PE X d td)
 (hm:lastMarks [op,op',op''] [b,c,d]=false:=by with_unfolding_all rfl):PT X (.Compare a [op,op',op''] [b,c,d] pos) (l9 r r' r'' ta tb tc td):=by
 intro pins s σ H Q I h;refine isTrue_chain (Jw (ha pins s σ H _ I h) fun v s1 ⟨x,H1,I1,r1,q1⟩=>test_link (Jw (hb pins s1 σ H1 _ I1 q1) fun u s2 ⟨y,H2,I2,r2,q2⟩=>Jw (ho pins s2 σ H2 x y v u _ I2 r1 r2 q2) fun d1 s3 ⟨z,H3,I3,r3,k,e,q3⟩=>?_)) hm
 subst e;cases r3;refine Ya ?_;cases k with
 | false=>exact ite_ff ⟨H3,I3,q3⟩
 | true=>
  refine ite_tt (test_link (Jw (hc pins s3 σ H3 _ I3 q3) fun w' s4 ⟨z',H4,I4,r4,q4⟩=>Jw (ho' pins s4 σ H4 y z' u w' _ I4 r2 r4 q4) fun d' s5 ⟨z2,H5,I5,r5,k2,e2,q5⟩=>?_));subst e2;cases r5;refine Ya ?_;cases k2 with
  | false=>exact ite_ff ⟨H5,I5,q5⟩
  | true=>refine ite_tt (test_last (Jw (hd pins s5 σ H5 _ I5 q5) fun w2 s6 ⟨z3,H6,I6,r6,q6⟩=>Jw (ho'' pins s6 σ H6 z' z3 w' w2 _ I6 r4 r6 q6) fun d2 s7 ⟨z4,H7,I7,r7,k3,e3,q7⟩=>?_));subst e3;cases r7;exact Ya ⟨H7,I7,q7⟩
theorem tM (h1:l1 < n) (h2:l2 < n):ZipApart (n+4) (n+2) (n+3) n (n+1) l1 l2:=by
 have e:∀ a b:Nat,(a < b∨b < a)->a ≠ b:=fun a b h=>by grind
 constructor <;> refine e _ _ ?_ <;> lia
def Gx (K:PySem.W.Frag) (ta:TA):TI:=fun σ H R=>ta σ H fun vs H1=>∃ a b,vs=[.ref a,.ref b]/\(∃ xs,J0 K H1 a xs)/\(∃ ys,J0 K H1 b ys)/\R (Pp K a b) H1
section
variable {K:PySem.W.Frag}
theorem DG (kt:KT K) (hg:Gl X "zip") (hm:X.mg "zip"=none) (ha:PA X [a,b] ta) (hs:starEach [a,b] X.env=[(false,eval a X.env),(false,eval b X.env)]:=by rfl) (hs2:starEach [b] X.env=[(false,eval b X.env)]:=by rfl) (hK:X.K=K:=by rfl) :
 PI X (.Tuple es k tq0) (.Call (.Name "zip" p) [a,b] [] pos) (Gx K ta):=by
 subst hK;intro pins s σ H R I h;refine Call_ (cM I hg hm boot_zip (Yd (Jw (ha pos pins s σ H _ I h) fun us s1 ⟨vs,H1,I1,r1,q1⟩=>?_) (by rw [hs,hs2]) (by rw [hs2]; rfl)));obtain ⟨l1,l2,rfl,⟨xs,hx⟩,⟨ys,hy⟩,q⟩:=q1;obtain ⟨u,u',rfl,rx,ry⟩:=qV r1;cases rx;cases ry;obtain ⟨its,rv,pl,hz⟩:=I1.list hx;obtain ⟨its',rv',pl',hz'⟩:=I1.list hy;have lt1:l1 < s1.heap.objs.size:=by obtain ⟨_,_,e,_⟩:=pl; exact JO e
 have lt2:l2 < s1.heap.objs.size:=by obtain ⟨_,_,e,_⟩:=pl'; exact JO e
 refine call_zip_2 pl.isList pl'.isList fun h' c1 c2 c3 c4 c5 c6 c7=>?_;have I2:Inv X pins σ H1 { s1 with heap:=h' }:=I1.kept (t':=s1.toks) c7;have D:ZipApart (s1.heap.objs.size+4) (s1.heap.objs.size+2) (s1.heap.objs.size+3) s1.heap.objs.size (s1.heap.objs.size+1) l1 l2:=tM lt1 lt2;refine wpAny_pyIter_zip (s:={ s1 with heap:=h' }) c1 ?_;refine ⟨s1.heap.objs.size+4,_,_,_,H1,rfl,I2,vI D,⟨c1,c2,⟨_,_,c3⟩,c4,c5⟩,fun b hb=>?_,q⟩;have hb':s1.heap.objs.size<=b:=by simp only [JS,Yb,or_false] at hb;rcases hb with e | e | e | e | e <;> rw [e] <;> first | exact JI _ | exact MV _ _
 exact I1.Ll hb' (I1.hok.fresh hb')
theorem jj:∀ {ys:List Str} {its:List Value},Vals (ys.map V.str) its->StrsAre its ys
 | [],_,h=>by
  rw [Yl] at h;cases h;exact .nil
 | y::r,_,h=>by
  rw [Z6] at h;cases h with
  | cons p q=>obtain ⟨t,rfl⟩:=p;exact .cons y t (jj q)
def B7 (K:PySem.W.Frag):V->List V->Hp->VK->Prop:=fun x vs H Q=>∃ (z:Str) (l:Addr) (ys:List Str),x=.str z/\vs=[.ref l]/\J0 K H l (ys.map V.str)/\(ys.map (·.length)).sum+ys.length * z.length<=16777216/\Q (.str (Txt.join z ys)) H
theorem zo (kt:KT K) (hK:X.K=K:=by rfl):NY X "str.join" (B7 K):=by subst hK;intro pins s σ H x vs v us Q I rx rv h;obtain ⟨z,l,ys,rfl,rfl,hq,hz,q⟩:=h;obtain ⟨t,rfl⟩:=rx;obtain ⟨u,rfl,ru⟩:=cG rv;cases ru;obtain ⟨its,r,pl,_⟩:=I.list hq;exact join_list pl.isList (by simpa using jj r) hz fun t' k=>⟨.str _,H,I.tok _,⟨_,rfl⟩,q⟩
end
theorem pV:∀ l:List Str,(Txt.join Str.empty l).cps.toList=(l.map (·.cps.toList)).flatten:=by
 intro l;show (Builtin.Str.glued Str.empty l).cps.toList=_;rw [StrLaws.glued_eq_join]
 induction l with
 | nil=>rfl
 | cons x r ih=>
  cases r with
  | nil=>show x.cps.toList=_; simp
  | cons y t=>show (x++Str.empty++Str.join Str.empty (y::t)).cps.toList=_;rw [Z6,MQ,<- ih];show (x.cps++#[]++(Str.join Str.empty (y::t)).cps).toList=_;simp
end L2
set_option maxHeartbeats 1000000
namespace L2
open PySem.Spec PyProof.Rows
section
variable {K:PySem.W.Frag}
def Gy (K:PySem.W.Frag) (xs:List V) (H:Hp) (Q:VK):Prop:=∃ (p:Addr) (bs:List Bool),xs=[.ref p]/\J0 K H p (bs.map V.bl)/\Q (.bl (bs.all id)) H
theorem tN (bs:List Bool):(List.range bs.length).all (fun i=>bs.getD i true)=bs.all id:=by
 rw [Bool.eq_iff_iff,L0,L0];constructor
 ·intro h b hb;obtain ⟨i,hi,rfl⟩:=List.mem_iff_getElem.mp hb;have:=h i (List.mem_range.mpr hi);simpa [Z5,Z3 hi] using this
 ·intro h i hi;have hi':=List.mem_range.mp hi;have:=h bs[i] (YJ hi');simpa [Z5,Z3 hi'] using this
theorem tO (kt:KT K) (hc:X.calm=true) (hK:X.K=K:=by rfl):Jx X (.builtin "all") (Gy K):=by
 subst hK;intro pins s σ H xs us Q I r h;obtain ⟨p,bs,rfl,hq,q⟩:=h;obtain ⟨u,rfl,rx⟩:=cG r;cases rx;obtain ⟨its,r',pl,hz⟩:=I.list hq;have hlen:=r'.length;rw [Z2] at hlen;have hlt:p < s.heap.objs.size:=by obtain ⟨_,_,e,_⟩:=pl; exact JO e
 refine call_all_walk (wpAny_pyIter_list pl.isList ⟨s.heap.objs.size,[s.heap.objs.size,p],[s.heap.objs.size],its.toArray.size,_,_,fun i=>bs.getD i true,rfl,Walks.list (A:=X.A.in1) (show X.A.in1.handled=none from I.ok.hd hc) _ _ (Kn hlt) its.toArray,⟨⟨_,Kv _ rfl,rfl,rfl⟩,pl.isList.push _⟩,?_,?_⟩)
 ·intro i v s' Q' E' hv hQ';have hv':its[i]?=some v:=by simpa using hv
  have hi:i < its.length:=(Z9.mp hv').1;obtain ⟨u',hu',ru⟩:=r'.get (i:=i) (x:=V.bl (bs[i]'(by omega))) (by simp);rw [hv'] at hu';cases hu';cases ru;refine Ya ?_;simpa [Z5,Z3 (show i < bs.length by omega)] using hQ'
 ·intro h' tk kk;rw [Z4,<- hlen,tN];refine ⟨.bl _,H,I.kept (t':=tk) fun b o eo=>kk b o (fun hb=>?_) (Z7 _ eo),rfl,q⟩;obtain rfl:b=s.heap.objs.size:=by simpa using hb
  exact absurd (JO eo) (LL _)
def dH (z:Str):List V:=z.cps.toList.map fun c=>V.str ⟨#[c]⟩
theorem pW (h:ItemsOf (SignAt z) acc z.cps.size):Vals (dH z) acc.toList:=by
 obtain ⟨h1,h2⟩:=h;have go:∀ (cs:List Nat) (vs:List Value),cs.length=vs.length->(∀ (j:Nat) (v:Value),vs[j]?=some v->∃ c u,cs[j]?=some c/\v=.str ⟨#[c]⟩ u)->Vals (cs.map fun c=>V.str ⟨#[c]⟩) vs:=by
  intro cs
  induction cs with
  | nil=>
   intro vs hl _;cases vs with
   | nil=>exact .nil
   | cons v r=>simp at hl
  | cons c r ih=>
   intro vs hl hv;cases vs with
   | nil=>simp at hl
   | cons v t=>obtain ⟨c',u,e1,e2⟩:=hv 0 v rfl;simp at e1;subst e1;refine .cons ⟨u,e2⟩ (ih t (by simpa using hl) fun j v' hj=>?_);simpa using hv (j+1) v' (by simpa using hj)
 refine go z.cps.toList acc.toList (by simp [h1]) fun j v hj=>?_;obtain ⟨c,u,e1,e2⟩:=h2 j v (by simpa using hj);exact ⟨c,u,by simpa using e1,e2⟩
def B8 (xs:List V) (H:Hp) (Q:VK):Prop:=∃ z,xs=[.str z]/\z.length<=sizeLine/\∀ l,H l=none->Q (.ref l) (upd H l (.tup (dH z)))
theorem tP (hc:X.calm=true):Jx X (.type "tuple") B8:=by
 intro pins s σ H xs us Q I r h;obtain ⟨z,rfl,hz,q⟩:=h;obtain ⟨u,rfl,t,rfl⟩:=cG r;refine call_tuple_str (I.ok.hd hc) z t (hsz:=hz) fun h' tk acc kp hI=>?_;have rv:=pW hI;have I1:Inv X pins σ H { s with heap:=h',toks:=tk }:=I.kept kp;have I2:Inv X pins σ (upd H h'.objs.size (.tup (dH z))) { s with heap:=h'.push { cls:=.type "tuple",data:=.seq acc },toks:=tk }:=by
  refine I1.laid (t':=tk) (fun b o e=>Z7 _ e) (JI _) (show Jr X.prog X.w _ _ _ (.tup (dH z)) from ⟨?_,acc.toList,rv,?_⟩)
  ·unfold dH;rw [Z2,Array.length_toList];exact hz
  ·simpa using IsTup.new h' acc
 exact ⟨.ref h'.objs.size,_,I2,rfl,q _ (I1.hok.fresh (JI _))⟩
def Gz:V->Option Int->Option Int->Hp->VK->Prop:=fun x lo hi H Q=>∃ z,x=.str z/\z.length<=sizeLine/\Q (.str (Txt.slice z lo hi)) H
theorem rA (h:IsPart v o):∃ q:Option (Int × Tok),v=partValue q/\q.map (·.1)=o:=by
 cases h with
 | none=>exact ⟨none,rfl,rfl⟩
 | int i t=>exact ⟨some (i,t),rfl,rfl⟩
theorem Oj:M5 X Gz:=by intro pins s σ H x v vl vu lo hi sl Q I rx hs pl pu h;obtain ⟨z,rfl,hz,q⟩:=h;obtain ⟨t,rfl⟩:=rx;obtain ⟨a,rfl,ea⟩:=rA pl;obtain ⟨b,rfl,eb⟩:=rA pu;refine ⟨"str",_,PySem.F.slot_str_getitem.lookup,typeIs_str _ _ _,?_⟩;refine wpAny_getItem_str_slice (l:=a) (u:=b) (st:=none) hs rfl ?_;subst ea eb;exact post_val_or_str ⟨La (Txt.slice_le z _ _) hz,fun t' k=>⟨.str _,H,I.tok _,⟨t',rfl⟩,q⟩⟩
end
section
variable {K:PySem.W.Frag}
def me:R2:=fun x y H Q=>∃ i j,x=.str i/\y=.str j/\Q (.bl (!(!(Builtin.Str.occurrences j i 0 j.length 1).isEmpty))) H
theorem tQ:JK X (compareOp .NotIn) me:=l6
theorem vJ (h:Q (.bl (!decide (c ∈ j.cps.toList))) H):me (.str ⟨#[c]⟩) (.str j) H Q:=⟨_,_,rfl,rfl,by rw [StrLaws.found_one]; exact h⟩
end
theorem Inv.Ny {t':Nat} {ch:List Addr} {u v:Value} {x y:V} (I:Inv X pins σ H s) (kk:∀ b o,b ∉ ch->s.heap.get? b=some o->h'.get? b=some o) (hf:∀ b ∈ ch,fq X pins H b)
 (sz:h'.get? s.heap.objs.size=some { cls:=.type "tuple",data:=.seq #[u,v] }) (ru:RelV x u) (rv:RelV y v):Inv X pins σ (upd H s.heap.objs.size (.tup [x,y])) { s with heap:=h',toks:=t' }:=by
 have fresh:H s.heap.objs.size=none:=I.hok.fresh (JI _);have I1:Inv X pins σ H { s with heap:=h',toks:=t' }:=I.KY kk hf;refine I.step (g':=s.gens) (d':=s.drawn) (t':=t') (h':=h') (ch:=ch) (fun c hc=>?_) (fun c o _ _ hc e _=>kk c o hc e) (fun c o _ _ hc e _=>⟨o.slots,kk c o hc e⟩) (fun c o hc e n=>?_) (fun c o hc e=>⟨o,kk c o hc e⟩) (fun c xs e=>?_) (fun c o xs e=>?_) (fun c ps e=>?_) (fun m hm=>?_) (fun c o e=>?_) I.bare
 ·obtain ⟨f0,f1,f2,f3,f4,f5⟩:=hf c hc;exact ⟨f3,f1,f4,f5⟩
 ·rw [ar (Kn (JO e))]; exact n
 ·rw [ar (av e fresh)]; exact e
 ·rw [ar (av e fresh)]; exact e
 ·exact ⟨#[],by rw [ar (av e fresh),e]; simp⟩
 ·obtain ⟨o,es,ep,ho,r⟩:=hm;exact ⟨o,es,ep,kk _ o (fun q=>(hf _ q).2.1 rfl) ho,r⟩
 ·by_cases hcs:c=s.heap.objs.size
  ·subst hcs;rw [aj] at e;cases e;exact ⟨by show 2<=sizeLine; decide,[u,v],.cons ru (.cons rv .nil),⟨_,sz,rfl,_,rfl⟩⟩
  ·rw [ar hcs] at e;exact (I1.hok c o e).Jp (fun _ _ _ q=>q) (fun b q=>by rw [ar (av q fresh)]; exact q) fun b xs q=>by rw [ar (av q fresh)]; exact q
abbrev NK:=Option (List Int)
def Lb:NK->Int
 | none=>4238894112
 | some ks=>reduceHash (Builtin.Tuple.tupleHashOf (ks.map hashInt))
def Kt (P:Program) (w:World) (h:Heap):NK->Value->Prop
 | none,u=>u=.none
 | some ks,u=>∃ b,u=.ref b/\IsTupleKey (aJ P w) h (ks.map Sum.inl) b
def nY (x:NK × Value × Value):DictEntry:=⟨Lb x.1,x.2.1,x.2.2⟩
theorem tkh (ks:List Int):tupleKeyHash (aJ P w) (ks.map Sum.inl)=Lb (some ks):=by unfold tupleKeyHash Lb;rw [KP];rfl
theorem tR (q:Q 4238894112 { s with toks:=s.toks+1 }):wpAny (model P w) A (pyHash .none) Q E s:=by have ty:s.TypeIs .none "NoneType":=rfl;unfold pyHash pyHashByItsType;refine Jk ?_;rw [cRoomFor,Y0 (show ¬ [Value.none].any Value.onHeap=true from MR)];refine Jq (Jk (wpAny_specialOf ty PySem.F.slot_NoneType_hash.lookup ?_));rw [Y0 (show ¬ (some (Value.builtin "NoneType.__hash__") == some Value.none)=true by rw [beq_builtin_none]; exact MR)];refine Jk (wpAny_specialOf ty PySem.F.slot_NoneType_hash.lookup ?_);show wpAny _ _ (callSpecialIfBoundUnlessNone? .none "__hash__" _ >>= _) Q E s;refine Jk (wpAny_callSpecialIfBoundUnlessNone?_slot ty PySem.F.slot_NoneType_hash (Y7 PySem.F.slot_NoneType_hash ty PySem.F.entry_NoneType_hash (show wpAny _ _ (do ret (<- mkInt 4238894112)) _ _ s from wpAny_ret_mkInt ?_) (PySem.F.args_NoneType_hash_1 _)));show wpAny _ _ (if (decide (-(2:Int) ^ 63<=4238894112) && decide ((4238894112:Int) < 2 ^ 63))=true then _ else _) Q E _;rw [Y1 (by decide)];exact Jq q
theorem Kt.inj (a:Kt P w h k u) (b:Kt P w h l u):k=l:=by
 cases k with
 | none=>
  cases l with
  | none=>rfl
  | some ls=>obtain ⟨_,z,_⟩:=b; rw [show u=.none from a] at z; cases z
 | some ks=>
  obtain ⟨p,rfl,a⟩:=a;cases l with
  | none=>cases (show Value.ref p=.none from b)
  | some ls=>obtain ⟨q,z,b⟩:=b;cases z;have:=a.inj b;rw [(List.map_inj_right fun _ _ z=>Sum.inl.inj z).mp this]
theorem Kt.hash (hu:A.units < cLine) (a:Kt P w s.heap k u) (q:∀ n,Q (Lb k) { s with toks:=s.toks+n }):wpAny (model P w) A (pyHash u) Q E s:=by
 cases k with
 | none=>cases (show u=.none from a); exact tR (q 1)
 | some ks=>obtain ⟨b,rfl,a⟩:=a;exact wpAny_pyHash_tuple hu a (by rw [tkh]; exact q _)
theorem IsTupleKey.tup {K:Type} [DecidableEq K] {knd:KeyKind P w K} {h:Heap} {ks:List K} {b:Addr} (a:IsTupleKey knd h ks b):∃ its,h.IsTuple b its:=by obtain ⟨o,its,n,h1,h2,h3,_⟩:=a;exact ⟨its,o,h1,h2,n,h3⟩
theorem Kt.eq (hu:A.units < cLine) (a:Kt P w s.heap k u) (b:Kt P w s.heap l v) (q:Q (decide (k=l)) s):wpAny (model P w) A (eqBool u v) Q E s:=by
 cases k with
 | none=>
  cases (show u=.none from a);cases l with
  | none=>cases (show v=.none from b);exact SeqAt.EqAt.same _ _ _ _ _ (by simpa using q)
  | some ls=>obtain ⟨p,rfl,b⟩:=b;obtain ⟨its,b⟩:=IsTupleKey.tup b;exact SeqAt.EqAt.none_tuple b hu _ _ _ _ (by simpa using q)
 | some ks=>
  obtain ⟨p,rfl,a⟩:=a;cases l with
  | none=>cases (show v=.none from b);obtain ⟨its,a⟩:=IsTupleKey.tup a;exact SeqAt.EqAt.tuple_none a hu _ _ _ _ (by simpa using q)
  | some ls=>
   obtain ⟨r,rfl,b⟩:=b;refine wpAny_eqBool_tuple hu a b ?_;have e:decide (ks.map (Sum.inl:Int->Key)=ls.map Sum.inl)=decide ((some ks:NK)=some ls):=by
    by_cases z:ks=ls
    ·subst z; simp
    ·rw [Y2 (fun y=>z (KZ y)),Y2 (fun y=>z ((List.map_inj_right fun _ _ z=>Sum.inl.inj z).mp y))]
   rw [e];exact q
theorem Kt.quiet (a:Kt P w s.heap k u) (q:Q true s):wpAny (model P w) A (eqIsQuiet 8 u) Q E s:=by
 cases k with
 | none=>cases (show u=.none from a); unfold eqIsQuiet; exact Jq q
 | some ks=>obtain ⟨b,rfl,a⟩:=a; exact wpAny_eqIsQuiet_tuple a q
theorem Kt.keeps {es ep} (a:Kt P w h k u) (ho:h.get? d=some o) (hd:o.data=.dict es ep) (hs:Heap.SameBut d h h'):Kt P w h' k u:=by
 cases k with
 | none=>exact a
 | some ks=>obtain ⟨b,rfl,a⟩:=a; exact ⟨b,rfl,a.keeps ho hd hs⟩
section
variable {s:Shared}
structure K7 (P:Program) (w:World) (h:Heap) (d:Addr) (xs:List (NK × Value × Value)) (o:Obj) (es:Array DictEntry) (ep:Nat):Prop where
 ho:h.get? d=some o
 hx:o.ExactDict
 hd:o.data=.dict es ep
 he:es.toList=xs.map nY
 ks:∀ x ∈ xs,Kt P w h x.1 x.2.1
 nd:(xs.map (·.1)).Nodup
theorem K7.at (N:K7 P w h d xs o es ep) (j:Nat):es[j]?=(xs[j]?).map nY:=by rw [<- YH,N.he,Kb]
theorem K7.size (N:K7 P w h d xs o es ep):es.size=xs.length:=by rw [<- Array.length_toList,N.he,Z2]
theorem K7.uniq (N:K7 P w h d xs o es ep) {i j:Nat} {k:NK} {p q:Value × Value} (a:xs[i]?=some (k,p)) (b:xs[j]?=some (k,q)):i=j:=by
 have a':(xs.map (·.1))[i]?=some k:=by rw [Kb,a]; rfl
 have b':(xs.map (·.1))[j]?=some k:=by rw [Kb,b]; rfl
 exact (List.getElem?_inj (Z9.mp a').1 N.nd).mp (a'.trans b'.symm)
theorem nZ {u:Value} {k:NK} {st:List Value} {Q:Bool->Shared->Prop} (hk:Kt P w s.heap k u) (hst:∀ v ∈ st,∃ l,Kt P w s.heap l v) (q:Q false s):wpAny (model P w) A (tableMayTell u st) Q E s:=by
 unfold tableMayTell;split
 ·exact Jq q
 ·refine Jk (hk.quiet ?_);rw [Y0 (by decide)];refine Jk (wpAny_forIn_list _ (fun aX r s'=>s'=s/\r=(none,())/\∀ v ∈ aX,∃ l,Kt P w s.heap l v) _ ?_ ?_ _ _ ⟨rfl,rfl,hst⟩)
  ·rintro x aX r s' ⟨rfl,rfl,hr⟩;obtain ⟨l,hl⟩:=hr x Li;refine Jk (hl.quiet ?_);rw [Y0 (by decide)];exact Jq ⟨rfl,rfl,fun v hv=>hr v (Z8 _ hv)⟩
  ·rintro r s' ⟨rfl,rfl,_⟩;exact Jq q
def OK (es:Array DictEntry) (c:Int) (i:Nat):Bool:=(es[i]?.map (·.hash)) == some c
def IA (xs:List (NK × Value × Value)) (k:NK) (i:Nat):Prop:=∀ j p,j < i->xs[j]? ≠ some (k,p)
def JN (es:Array DictEntry) (xs:List (NK × Value × Value)) (k:NK) (aX:List Nat) (hit:Option Nat):Prop:=∃ i,aX=(List.range' i (es.size - i)).filter (OK es (Lb k))/\i<=es.size/\((hit=none/\IA xs k i)∨∃ j p,hit=some j/\j < i/\xs[j]?=some (k,p))
theorem K7.has (N:K7 P w s.heap d xs o es ep) {j:Nat} {p:Value × Value} (h:xs[j]?=some (k,p)):OK es (Lb k) j=true:=by unfold OK;rw [N.at j,h];simp [nY]
theorem JN.start (N:K7 P w s.heap d xs o es ep):JN es xs k (placesWithHash es.size (fun i=>es[i]?.map (·.hash)) (Lb k)) none:=by refine ⟨0,?_,K0 _,.inl ⟨rfl,fun j p h=>absurd h (Nat.not_lt_zero _)⟩⟩;rw [placesWithHash,List.range_eq_range',Nat.sub_zero];rfl
theorem JN.turn (N:K7 P w s.heap d xs o es ep) {x:Nat} {aX:List Nat} {hit:Option Nat} (S:JN es xs k (x::aX) hit):∃ k' u v,xs[x]?=some (k',u,v)/\es[x]?=some ⟨Lb k',u,v⟩/\Lb k'=Lb k/\Kt P w s.heap k' u /\
 (k'=k->hit=none/\JN es xs k aX (some x))/\(k' ≠ k->JN es xs k aX hit):=by
 obtain ⟨i,hr,hi,hH⟩:=S;obtain ⟨a1,a2,a3,a4,a5⟩:=filter_range'_cons _ _ _ _ _ hr.symm;have hlt:x < es.size:=by omega
 have hlx:x < xs.length:=by rw [<- N.size]; exact hlt
 obtain ⟨⟨k',u,v⟩,hx⟩:∃ y,xs[x]?=some y:=⟨_,Z3 hlx⟩;have ex:es[x]?=some ⟨Lb k',u,v⟩:=by rw [N.at x,hx]; rfl
 have hh:Lb k'=Lb k:=by unfold OK at a3;rw [ex] at a3;simpa using a3
 have rst:aX=(List.range' (x+1) (es.size - (x+1))).filter (OK es (Lb k)):=by rw [a5]; congr 2; omega
 have skip:∀ j p,i<=j->j < x->xs[j]? ≠ some (k,p):=fun j p z1 z2 z3=>by
  have:=a4 j z1 z2;rw [N.has z3] at this;cases this
 have ks:Kt P w s.heap k' u:=N.ks _ (Y5 hx);refine ⟨k',u,v,hx,ex,hh,ks,fun z=>?_,fun z=>?_⟩
 ·subst z;refine ⟨?_,x+1,rst,hlt,.inr ⟨x,_,rfl,Nat.lt_succ_self x,hx⟩⟩;rcases hH with ⟨h0,_⟩ | ⟨j,p,_,hj,hp⟩
  ·exact h0
  ·exact absurd (N.uniq hp hx) (by omega)
 ·refine ⟨x+1,rst,hlt,?_⟩;rcases hH with ⟨h0,h1⟩ | ⟨j,p,h0,hj,hp⟩
  ·refine .inl ⟨h0,fun j p hj hp=>?_⟩;by_cases c1:j < i
   ·exact h1 j p c1 hp
   ·by_cases c2:j < x
    ·exact skip j p (by omega) c2 hp
    ·have:j=x:=by omega
     subst this;rw [hx] at hp;injection hp with hp;injection hp with hp;exact z hp
  ·exact .inr ⟨j,p,h0,by omega,hp⟩
theorem JN.fin (N:K7 P w s.heap d xs o es ep) {hit:Option Nat} (S:JN es xs k [] hit):(hit=none/\∀ (j:Nat) (p:Value × Value),xs[j]? ≠ some (k,p))∨∃ (j:Nat) (p:Value × Value),hit=some j/\xs[j]?=some (k,p):=by
 obtain ⟨i,hr,hi,hH⟩:=S;rcases hH with ⟨h0,h1⟩ | ⟨j,p,h0,hj,hp⟩
 ·refine .inl ⟨h0,fun j p hp=>?_⟩;by_cases c:j < i
  ·exact h1 j p c hp
  ·have hjl:j < es.size:=by rw [N.size]; exact (Z9.mp hp).1
   have:=List.filter_eq_nil_iff.mp hr.symm j (List.mem_range'_1.mpr ⟨by omega,by omega⟩);exact this (N.has hp)
 ·exact .inr ⟨j,p,h0,hp⟩
theorem B9 {u:Value} {Q:Option Nat->Shared->Prop} (hu:A.units < cLine) (hk:Kt P w s.heap k u) (N:K7 P w s.heap d xs o es ep)
 (hno:(∀ (j:Nat) (p:Value × Value),xs[j]? ≠ some (k,p))->Q none s) (hyes:∀ (j:Nat) (p:Value × Value),xs[j]?=some (k,p)->Q (some j) s):wpAny (model P w) A (dictFind d u (Lb k)) Q E s:=by
 have fin:∀ {hit:Option Nat},JN es xs k [] hit->Q hit s:=fun {hit} S=>by
  rcases JN.fin N S with ⟨e,h⟩ | ⟨j,p,e,h⟩
  ·rw [e]; exact hno h
  ·rw [e]; exact hyes j p h
 have st0:=JN.start (k:=k) N;have hst:∀ v ∈ (placesWithHash es.size (fun i=>es[i]?.map (·.hash)) (Lb k)).filterMap (fun i=>es[i]?.map (·.key)),∃ l,Kt P w s.heap l v:=fun v hv=>by
  obtain ⟨i,_,hi⟩:=List.mem_filterMap.mp hv;rw [N.at i] at hi;cases e:xs[i]? with
  | none=>rw [e] at hi; cases hi
  | some x=>rw [e] at hi;cases hi;exact ⟨x.1,N.ks x (Y5 e)⟩
 have any0:∀ b,u=.ref b->¬ (es.any fun e=>e.key == Value.ref b && e.hash != Lb k)=true:=fun b eb hc=>by
  rw [<- Array.any_toList,List.any_eq_true] at hc;obtain ⟨e,he,hc⟩:=hc;rw [N.he] at he;obtain ⟨x,hx,rfl⟩:=Ke.mp he;simp only [nY,Lv,beq_iff_eq,bne_iff_ne,ne_eq] at hc;have:=N.ks x hx;rw [hc.1,<- eb] at this;exact hc.2 (by rw [this.inj hk])
 have turn:∀ {x:Nat} {aX:List Nat} {hit:Option Nat},JN es xs k (x::aX) hit->∃ k' v y,xs[x]?=some (k',v,y)/\es[x]?=some ⟨Lb k',v,y⟩/\(Lb k' == Lb k)=true/\Kt P w s.heap k' v/\(k'=k->hit=none/\JN es xs k aX (some x))/\(k' ≠ k->JN es xs k aX hit):=fun {x aX hit} S=>by
  obtain ⟨k',v,y,a1,a2,a3,a4,a5,a6⟩:=JN.turn N S;exact ⟨k',v,y,a1,a2,by rw [a3]; simp,a4,a5,a6⟩
 unfold dictFind
 try with_reducible refine Yh ?_
 refine Jk (Yv N.ho N.hd ?_);generalize Lb k=c at hst st0 any0 turn ⊢;have plain:wpAny (model P w) A (dictWalkPlain d u c es (placesWithHash es.size (fun i=>es[i]?.map (·.hash)) c)) Q E s:=by
  unfold dictWalkPlain;refine Jk (wpAny_forIn_list _ (fun aX b s'=>s'=s/\b=(none,())/\JN es xs k aX none) _ ?_ ?_ _ _ ⟨rfl,rfl,st0⟩)
  ·rintro x aX b s' ⟨rfl,rfl,S⟩;obtain ⟨k',v,y,hx,ex,hh,ks,t1,t2⟩:=turn S;rw [ex];dsimp only;rw [Y1 hh];refine Jk (Yk N.ho N.hd (Jk (ks.eq hu hk (Jk (Yk N.ho N.hd ?_)))));show wpAny _ _ (if (ep != ep)=true then _ else _) _ E _;rw [Y0 (by simp)];by_cases c:k'=k
   ·rw [decide_eq_true c];subst c;exact Jk (Yy (Jq (Jq (hyes x _ hx))))
   ·rw [Y2 c];exact Jk (Yy (Jq ⟨rfl,rfl,t2 c⟩))
  ·rintro b s' ⟨rfl,rfl,S⟩;exact Jq (fin S)
 have hk0:=hk;have shape:u=.none∨∃ b,u=.ref b:=by
  cases k with
  | none=>exact .inl hk
  | some ks=>obtain ⟨b,e,_⟩:=hk; exact .inr ⟨b,e⟩
 rcases shape with rfl | ⟨b,rfl⟩
 ·show wpAny _ _ (if (Value.none::List.filterMap _ _).all carriedByValue=true then _ else _) Q E s;split
  ·exact plain
  by_cases one:(((placesWithHash es.size (fun i=>es[i]?.map (·.hash)) c).filterMap (fun i=>es[i]?.map (·.key))) == [Value.none])=true <;>
  (first | rw [Y1 one] | rw [Y0 one]) <;> (first | refine Jk (Jq ?_) | refine Jk (nZ hk0 hst ?_)) <;> (
   show wpAny _ _ (if (false && decide _)=true then _ else _) Q E s;rw [Y0 (by simp)];refine Jk (wpAny_forIn_list _ (fun aX b s'=>s'=s/\∃ hit,b=(none,hit)/\JN es xs k aX hit) _ ?_ ?_ _ _ ⟨rfl,none,rfl,st0⟩)
   ·rintro x aX b s' ⟨rfl,hit,rfl,S⟩;obtain ⟨k',v,y,hx,ex,hh,ks,t1,t2⟩:=turn S;rw [ex];dsimp only;rw [Y1 hh];refine Jk (Yk N.ho N.hd (Jk (ks.eq hu hk0 (Jk (Yk N.ho N.hd ?_)))));show wpAny _ _ (if (ep != ep)=true then _ else _) _ E _;rw [Y0 (by simp)];by_cases cc:k'=k
    ·rw [decide_eq_true cc];obtain ⟨z1,z2⟩:=t1 cc;subst z1;subst cc
     first | rw [Y1 rfl] | skip
     simp only [Option.isSome_none,Lk,if_false]
     first | refine Jk (Jq ?_) | skip
     refine Jk (Yy ?_);split
     ·exact Jq (Jq (hyes x _ hx))
     ·exact Jq ⟨rfl,some x,rfl,z2⟩
    ·rw [Y2 cc];simp only [Lk,if_false];refine Jk (Yy ?_)
     first | rw [Y0 (by simp)] | skip
     first
      | exact Jq ⟨rfl,hit,rfl,t2 cc⟩
      | exact Jk (Jq (Jq ⟨rfl,hit,rfl,t2 cc⟩))
   ·rintro b s' ⟨rfl,hit,rfl,S⟩;exact Jq (fin S))
 ·dsimp only;rw [Y0 (by simp [carriedByValue]),Y0 (any0 b rfl)];by_cases one:(((placesWithHash es.size (fun i=>es[i]?.map (·.hash)) c).filterMap (fun i=>es[i]?.map (·.key))) == [Value.ref b])=true <;>
  (first | rw [Y1 one] | rw [Y0 one]) <;> (first | refine Jk (Jq ?_) | refine Jk (nZ hk0 hst ?_)) <;> (
   show wpAny _ _ (if (false && decide _)=true then _ else _) Q E s;rw [Y0 (by simp)];refine Jk (wpAny_forIn_list _ (fun aX b s'=>s'=s/\∃ hit,b=(none,hit)/\JN es xs k aX hit) _ ?_ ?_ _ _ ⟨rfl,none,rfl,st0⟩)
   ·rintro x aX b s' ⟨rfl,hit,rfl,S⟩;obtain ⟨k',v,y,hx,ex,hh,ks,t1,t2⟩:=turn S;rw [ex];dsimp only;rw [Y1 hh];refine Jk (Yk N.ho N.hd (Jk (ks.eq hu hk0 (Jk (Yk N.ho N.hd ?_)))));show wpAny _ _ (if (ep != ep)=true then _ else _) _ E _;rw [Y0 (by simp)];by_cases cc:k'=k
    ·rw [decide_eq_true cc];obtain ⟨z1,z2⟩:=t1 cc;subst z1;subst cc
     first | rw [Y1 rfl] | skip
     simp only [Option.isSome_none,Lk,if_false]
     first | refine Jk (Jq ?_) | skip
     refine Jk (Yy ?_);split
     ·exact Jq (Jq (hyes x _ hx))
     ·exact Jq ⟨rfl,some x,rfl,z2⟩
    ·rw [Y2 cc];simp only [Lk,if_false];refine Jk (Yy ?_)
     first | rw [Y0 (by simp)] | skip
     first
      | exact Jq ⟨rfl,hit,rfl,t2 cc⟩
      | exact Jk (Jq (Jq ⟨rfl,hit,rfl,t2 cc⟩))
   ·rintro b s' ⟨rfl,hit,rfl,S⟩;exact Jq (fin S))
end
section
variable {s:Shared}
def eW (xs:List (NK × Value × Value)) (k:NK):Option Value:=(xs.find? fun x=>decide (x.1=k)).map (·.2.2)
theorem kO (nd:(xs.map (·.1)).Nodup):∀ {j:Nat} {p:Value × Value},xs[j]?=some (k,p)->eW xs k=some p.2:=by
 induction xs with
 | nil=>intro j p h; simp at h
 | cons x r ih=>
  intro j p h;rw [Z6,List.nodup_cons] at nd;cases j with
  | zero=>simp only [List.getElem?_cons_zero,Option.some.injEq] at h;subst h;simp [eW]
  | succ j=>simp only [List.getElem?_cons_succ] at h;have hm:k ∈ r.map (·.1):=Ke.mpr ⟨(k,p),Y5 h,rfl⟩;have hne:¬ x.1=k:=fun e=>nd.1 (e ▸ hm);have:=ih nd.2 h;simpa [eW,Mt,hne] using this
theorem tS (h:∀ (j:Nat) (p:Value × Value),xs[j]? ≠ some (k,p)):eW xs k=none:=by
 have:(xs.find? fun x=>decide (x.1=k))=none:=by rw [List.find?_eq_none];intro x hx hk;obtain ⟨j,hj⟩:=List.mem_iff_getElem?.mp hx;exact h j x.2 (by rw [hj,<- of_decide_eq_true hk])
 simp [eW,this]
theorem vK (hu:A.units < cLine) (hk:Kt P w s.heap k u) (N:K7 P w s.heap d xs o es ep) (q:∀ n,Q (eW xs k) { s with toks:=s.toks+n }):wpAny (model P w) A (dictGet d u) Q E s:=by
 unfold dictGet
 try with_reducible refine Yh ?_
 refine Jk (hk.hash hu fun n=>Jk (B9 (s:={ s with toks:=s.toks+n }) hu hk (N:=⟨N.ho,N.hx,N.hd,N.he,N.ks,N.nd⟩) (fun h=>?_) fun j p h=>?_))
 ·have:=q n;rw [tS h] at this;exact Jq this
 ·have:=q n;rw [kO N.nd h] at this;refine Jk (Yv (s:={ s with toks:=s.toks+n }) N.ho N.hd ?_);rw [N.at j,h];exact Jq this
theorem K7.ty (N:K7 P w s.heap d xs o es ep):s.TypeIs (.ref d) "dict":=⟨o,N.ho,N.hx.1⟩
theorem vL (hu:A.units+1 < cLine) (hk:Kt P w s.heap k u) (N:K7 P w s.heap d xs o es ep) (hv:eW xs k=some v) (q:∀ n,Q v { s with toks:=s.toks+n }):wpAny (model P w) A (getItem (.ref d) u) Q E s:=by
 unfold getItem
 try with_reducible refine Yh ?_
 refine Jk (wpAny_sequenceKey N.ty (by decide) (Jk (Yc (name:=Str.ofString "__getitem__") N.ty slot_dict_getitem (Y7 slot_dict_getitem N.ty entry_dict_getitem ?_ (args_dict_getitem _ _)))));show wpAny _ _ (dictGet d u >>= _) _ _ s;refine Jk (vK (A:=A.in1) hu hk N fun n=>?_);rw [hv];exact Jq ⟨v,rfl,Jq (q n)⟩
theorem GA (hu:A.units < cLine) (hk:Kt P w s.heap k u) (N:K7 P w s.heap d xs o es ep) (hv:eW xs k=none) (hz:xs.length < sizeLine)
 (q:∀ n h',(∃ o' es' ep',K7 P w h' d (xs++[(k,u,v)]) o' es' ep')->Heap.SameBut d s.heap h'->Q () { s with heap:=h',toks:=s.toks+n }):wpAny (model P w) A (dictSet d u v) Q E s:=by
 unfold dictSet
 try with_reducible refine Yh ?_
 refine Jk (hk.hash hu fun n=>?_);unfold dictSetHashed
 try with_reducible refine Yh ?_
 refine Jk (B9 (s:={ s with toks:=s.toks+n }) hu hk (N:=⟨N.ho,N.hx,N.hd,N.he,N.ks,N.nd⟩) (fun h=>?_) fun j p h=>?_)
 ·refine Jk (Yy (wpAny_updateDictKeys (hz:=by rw [N.size]; omega) (s:={ s with toks:=s.toks+n }) N.ho N.hd (q n _ ⟨_,_,ep+1,⟨Heap.get?_update_self _ N.ho (Obj.isFreed_of_dict (Obj.data_mapDictKeys N.hd _)),N.hx.mapDictKeys _,Obj.data_mapDictKeys N.hd _,?_,?_,?_⟩⟩ (Ym ..))))
  ·simp [N.he,nY]
  ·intro x hx;rcases Kk.mp hx with hx | hx
   ·exact (N.ks x hx).keeps N.ho N.hd (Ym ..)
   ·rw [Lg] at hx;subst hx;exact hk.keeps N.ho N.hd (Ym ..)
  ·rw [LW,List.nodup_append];refine ⟨N.nd,by simp,fun x hx y hy e=>?_⟩;simp only [Z6,Yl,Lg] at hy;subst hy;subst e;obtain ⟨z,hz,e⟩:=Ke.mp hx;obtain ⟨j,hj⟩:=List.mem_iff_getElem?.mp hz;exact h j z.2 (by rw [hj,<- e])
 ·rw [kO N.nd h] at hv;cases hv
theorem vM (hu:A.units+1 < cLine) (hk:Kt P w s.heap k u) (N:K7 P w s.heap d xs o es ep) (hv:eW xs k=none) (hz:xs.length < sizeLine)
 (q:∀ n h',(∃ o' es' ep',K7 P w h' d (xs++[(k,u,v)]) o' es' ep')->Heap.SameBut d s.heap h'->Q () { s with heap:=h',toks:=s.toks+n }):wpAny (model P w) A (setItem (.ref d) u v) Q E s:=by
 unfold setItem
 try with_reducible refine Yh ?_
 refine Jk (wpAny_sequenceKey N.ty (by decide) (Jk (Yc (name:=Str.ofString "__setitem__") N.ty slot_dict_setitem (Y7 slot_dict_setitem N.ty entry_dict_setitem ?_ (args_dict_setitem _ _ _)))));show wpAny _ _ (Builtin.Dict.notOrdered "__setitem__" ⟨[.ref d,u,v],[]⟩ >>= _) _ _ s;refine Jk (wpAny_notOrdered_dict N.ty ?_);show wpAny _ _ (dictSet d u v >>= _) _ _ s;exact Jk (GA (A:=A.in1) hu hk N hv hz fun n h' a b=>Jq ⟨.none,rfl,Jq (q n h' a b)⟩)
end
abbrev KA:=Option (Addr × List Int)
def Oa:KA->V
 | none=>.non
 | some p=>.ref p.1
def Oh:KA->Value
 | none=>.none
 | some p=>.ref p.1
def J2:KA->NK:=Option.map (·.2)
def fQ (q:KA × Value):NK × Value × Value:=(J2 q.1,Oh q.1,q.2)
def valN (kvs:List (KA × V)) (k:NK):Option V:=(kvs.find? fun kv=>decide (J2 kv.1=k)).map (·.2)
def J4 (a:Addr) (o:Obj) (kvs:List (KA × V)):Heap->Prop:=fun h=>(a == sysModules)=false/\kvs.length<=sizeLine/\(kvs.map fun kv=>J2 kv.1).Nodup/\∃ qs:List (KA × Value),KV kvs qs/\∃ es ep,h.get? a=some o/\o.ExactDict/\o.data=.dict es ep/\es.toList=(qs.map fQ).map nY
def jk (H:Hp) (kvs:List (KA × V)):Prop:=∀ kv ∈ kvs,∀ p,kv.1=some p->H p.1=some (.tup (p.2.map V.int))
def ND (H:Hp) (a:Addr) (o:Obj) (kvs:List (KA × V)):Prop:=H a=some (.ext (J4 a o kvs))/\jk H kvs
def Ox (H:Hp):V->NK->Prop
 | .non,k=>k=none
 | .ref b,k=>∃ ks,k=some ks/\H b=some (.tup (ks.map V.int))
 | _,_=>False
theorem zp (x:J4 a o kvs h1) (e:∀ o,h1.get? a=some o->h2.get? a=some o):J4 a o kvs h2:=by obtain ⟨z0,z1,z2,qs,z3,es,ep,z4,z5⟩:=x;exact ⟨z0,z1,z2,qs,z3,es,ep,e o z4,z5⟩
theorem vN (x:J4 a o kvs h):Jr P w H h a (.ext (J4 a o kvs)):=
 ⟨x,let ⟨_,_,_,_,_,_,_,z,_⟩:=x; ⟨o,z⟩,fun _ _ y e=>zp y e⟩
theorem KV.valN:∀ {kvs:List (KA × V)} {qs:List (KA × Value)},KV kvs qs->J8 (L2.valN kvs k) (eW (qs.map fQ) k):=by
 intro kvs qs r;unfold KV at r
 induction r with
 | nil=>exact True.intro
 | @cons p q ps qs h t ih=>
  obtain ⟨h1,h2⟩:=h;unfold L2.valN eW at ih ⊢;rw [Z6,Mt,Mt];have e:(fQ q).1=J2 p.1:=by rw [h1]; rfl
  rw [e];by_cases c:J2 p.1=k
  ·rw [decide_eq_true c]; exact h2
  ·rw [Y2 c]; exact ih
theorem n0 (r:KV kvs qs):(qs.map fQ).map (·.1)=kvs.map fun kv=>J2 kv.1:=by
 unfold KV at r
 induction r with
 | nil=>rfl
 | cons h t ih=>rw [Z6,Z6,Z6,ih,h.1]; rfl
theorem mi (I:Inv X pins σ H s) {b:Addr} {ks:List Int} (e:H b=some (.tup (ks.map V.int))):IsTupleKey (aJ X.prog X.w) s.heap (ks.map Sum.inl) b:=
 jg (ks:=ks.map Sum.inl) I.hok (by rw [KP]; exact e)
theorem Ox.is (I:Inv X pins σ H s) (h:Ox H y k) (r:RelV y u):Kt X.prog X.w s.heap k u:=by
 cases y with
 | non=>cases (show k=none from h); exact r
 | ref b=>obtain ⟨ks,rfl,e⟩:=h;exact ⟨b,r,mi I e⟩
 | _=>exact h.elim
theorem ND.nat (I:Inv X pins σ H s) (n:ND H a o kvs):∃ qs es ep,KV kvs qs/\K7 X.prog X.w s.heap a (qs.map fQ) o es ep/\(a == sysModules)=false/\kvs.length<=sizeLine:=by
 obtain ⟨⟨z0,z1,z2,qs,z3,es,ep,z4,z5,z6,z7⟩,_⟩:=(show Jr X.prog X.w H s.heap a (.ext (J4 a o kvs)) from I.hok a _ n.1);refine ⟨qs,es,ep,z3,⟨z4,z5,z6,z7,?_,by rw [n0 z3]; exact z2⟩,z0,z1⟩;intro x hx;obtain ⟨q,hq,rfl⟩:=Ke.mp hx;have key:∀ {l:List (KA × V)} {m:List (KA × Value)},KV l m->(∀ kv ∈ l,∀ p,kv.1=some p->H p.1=some (.tup (p.2.map V.int)))->∀ q ∈ m,Kt X.prog X.w s.heap (J2 q.1) (Oh q.1):=by
  intro l m r;unfold KV at r
  induction r with
  | nil=>intro _ q hq; cases hq
  | @cons p q' ps qs' h t ih=>
   intro hk q hq;rcases JS.mp hq with rfl | hq
   ·rw [<- h.1];cases e:p.1 with
    | none=>rfl
    | some c=>exact ⟨c.1,rfl,mi I (hk p Li c e)⟩
   ·exact ih (fun kv hkv=>hk kv (Z8 _ hkv)) q hq
 exact key z3 n.2 q hq
theorem ND.ty (I:Inv X pins σ H s) (n:ND H a o kvs):s.TypeIs (.ref a) "dict":=by obtain ⟨qs,es,ep,_,N,_⟩:=n.nat I;exact N.ty
theorem DH (hu:A.units+1 < cLine) (I:Inv X pins σ H s) (n:ND H a o kvs) (hk:Ox H y k) (ry:RelV y u) (hv:valN kvs k=some v) (q:∀ u' s',Inv X pins σ H s'->RelV v u'->Q u' s') :
 wpAny (model X.prog X.w) A (getItem (.ref a) u) Q E s:=by
 obtain ⟨qs,es,ep,kv,N,_⟩:=n.nat I;obtain ⟨u',e',r'⟩:=J8.some_of (v:=v) (o:=eW (qs.map fQ) k) (by rw [<- hv]; exact KV.valN kv);exact vL hu (hk.is I ry) N e' fun m=>q u' _ (I.tok _) r'
theorem DI (hu:A.units+1 < cLine) (I:Inv X pins σ H s) (e:H a=some (.ext (J4 a o kvs))) (ki:jk H kvs) {c:KA} (hc:∀ p,c=some p->H p.1=some (.tup (p.2.map V.int))) (ry:u=Oh c) (hv:valN kvs (J2 c)=none) (hz:kvs.length < sizeLine) (rv:RelV v r)
 (q:∀ o' s',Inv X pins σ (upd H a (.ext (J4 a o' (kvs++[(c,v)])))) s'->Q () s'):wpAny (model X.prog X.w) A (setItem (.ref a) u r) Q E s:=by
 obtain ⟨qs,es,ep,kv,N,z0,z1⟩:=ND.nat I ⟨e,ki⟩;have hk:Kt X.prog X.w s.heap (J2 c) u:=by
  subst ry;cases c with
  | none=>rfl
  | some p=>exact ⟨p.1,rfl,mi I (hc p rfl)⟩
 have lq:qs.length=kvs.length:=(YM kv).symm;have nn:eW (qs.map fQ) (J2 c)=none:=J8.none_of (by rw [<- hv]; exact KV.valN kv);refine vM hu hk N nn (by simp; omega) fun m h' ⟨o',es',ep',N'⟩ hs=>q o' _ ?_;subst ry;refine fP I (by rw [e]; exact True.intro) hs ⟨o',N'.ho⟩ (vN ⟨z0,by simp; omega,?_,qs++[(c,r)],Paired.snoc kv ⟨rfl,rv⟩,es',ep',N'.ho,N'.hx,N'.hd,?_⟩)
 ·have:=N'.nd;rw [show qs.map fQ++[(J2 c,Oh c,r)]=(qs++[(c,r)]).map fQ by simp [fQ]] at this;rw [n0 (kvs:=kvs++[(c,v)]) (Paired.snoc kv ⟨rfl,rv⟩)] at this;exact this
 ·rw [N'.he];simp [fQ]
theorem vO {h:Heap} {hb:sysModules < h.objs.size} {P:Program} {w:World}:Jr P w H (h.push { cls:=.type "dict",data:=.dict #[] }) h.objs.size (.ext (J4 h.objs.size { cls:=.type "dict",data:=.dict #[] } [])):=
 vN ⟨beq_eq_false_iff_ne.mpr (YI (Kn hb)),K0 _,List.nodup_nil,[],.nil,#[],0,Kv _ rfl,⟨rfl,rfl,rfl⟩,rfl,rfl⟩
theorem GC (hm:(d == sysModules)=false) (ho:s.heap.get? d=some o) (hx:o.ExactDict) (hd:o.data=.dict es ep)
 (q:Q (.ref s.heap.objs.size) { s with heap:=s.heap.push { cls:=.type "dict_keyiterator",data:=.fields #[.ref d,.int 0 0,.int es.size 0,.int ep 0] } }):wpAny (model P w) A (pyIter (.ref d)) Q E s:=by
 have ty:s.TypeIs (.ref d) "dict":=⟨o,ho,hx.1⟩;refine wpAny_pyIter_slot ty F.slot_dict_iter (Y7 F.slot_dict_iter ty F.entry_dict_iter ?_ (F.args_dict_iter_1 _));unfold Builtin.«dict.__iter__»;refine Jk ?_;unfold Builtin.Dict.dictSlotNone;refine Jk (wpAny_notOrdered_dict ty ?_);show wpAny _ _ (pure (Value.ref d)) _ _ s;refine Jq ?_;show wpAny _ _ (Builtin.Dict.showsAll d >>= _) _ _ s;unfold Builtin.Dict.showsAll;rw [Y0 (by rw [hm]; simp)];refine Jk (Jq (Jk (Yv ho hd (Jk (Yk ho hd ?_)))));refine Jk (Y6 (Jq ⟨_,rfl,"dict_keyiterator",_,⟨_,Kv _ rfl,rfl⟩,F.slot_dict_keyiterator_next.lookup,?_⟩));simpa [rawInt] using q
theorem GD (K:s.heap.IsKeyIter it d i es.size ep) (ho:s.heap.get? d=some o) (hd:o.data=.dict es ep) {e:DictEntry} (hi:es[i]?=some e)
 (q:∀ h',h'.IsKeyIter it d (i+1) es.size ep->Heap.SameBut it s.heap h'->Q (some e.key) { s with heap:=h' }):wpAny (model P w) A (pyNext (.ref it)) Q E s:=by
 obtain ⟨oi,hoi,hc,hf⟩:=id K;obtain ⟨hlt,he⟩:=Array.getElem?_eq_some_iff.mp hi;unfold pyNext;refine Jk (wpAny_attempt (Yc (name:=Str.ofString "__next__") K.typeIs F.slot_dict_keyiterator_next (Y7 F.slot_dict_keyiterator_next K.typeIs F.entry_dict_keyiterator_next ?_ (F.args_dict_keyiterator_next_1 _))));refine Jk (Jq (Jk (Jk ?_)))
 first | refine Jk (wpAny_typeNameOfWhole_keyiter K.typeIs (Jq ?_)) | refine Jk (wpAny_typeNameOf_keyiter K.typeIs (Jq ?_))
 refine Jk (wpAny_fieldsOf hoi hf ?_);simp only [show Builtin.Dict_items.ownsTuple "dict_keyiterator"=false by decide,Lk,if_false];show wpAny _ _ (if (Value.ref d == Value.none)=true then _ else _) _ _ s;rw [Y0 (show ¬ ((Value.ref d == Value.none)=true) from nofun)];refine Jk (Jq (Jk (Yv ho hd ?_)));rw [Y0 (by simp)];refine Jk (Jq (Jk (Yk ho hd ?_)));rw [Y0 (by simp)];refine Jq ?_;simp only [show ¬ ((i:Int) < 0) by omega,if_false,Yr,hi];refine Jk ?_
 first | refine Jk (wpAny_typeNameOfWhole_keyiter K.typeIs (Jq ?_)) | refine Jk (wpAny_typeNameOf_keyiter K.typeIs (Jq ?_))
 refine Jk (wpAny_isOneOf_keyiter K.typeIs ?_);show wpAny _ _ (setField (.ref it) 1 (rawInt ((i:Int)+1)) >>= _) _ _ s;refine Jk (wpAny_setField hoi hf (by simp) ?_);have K':(s.heap.update it (Obj.mapFields (·.setIfInBounds 1 (rawInt ((i:Int)+1))))).IsKeyIter it d (i+1) es.size ep:=⟨_,Heap.get?_update_self _ hoi (Obj.isFreed_of_fields (YO hf _)),(Obj.cls_mapFields ..).trans hc,by rw [YO hf]; simp [rawInt]⟩;refine Jk (Yh (Jk (wpAny_isOneOf_keyiter (s:={ s with heap:=s.heap.update it (Obj.mapFields (·.setIfInBounds 1 (rawInt ((i:Int)+1)))) }) K'.typeIs ?_)));show wpAny _ _ (pure e.key) _ _ _;exact Jq (Jq ⟨_,rfl,Jq (q _ K' (Ym ..))⟩)
theorem IB (hh:A.handled=none) (K:s.heap.IsKeyIter it d i es.size ep) (ho:s.heap.get? d=some o) (hd:o.data=.dict es ep) (hi:es.size<=i)
 (q:∀ h',Heap.ExtBut it s.heap h'->Q none { s with heap:=h' }):wpAny (model P w) A (pyNext (.ref it)) Q E s:=by
 obtain ⟨oi,hoi,hc,hf⟩:=id K;unfold pyNext;refine Jk (wpAny_attempt (Yc (name:=Str.ofString "__next__") K.typeIs F.slot_dict_keyiterator_next (Y7 F.slot_dict_keyiterator_next K.typeIs F.entry_dict_keyiterator_next ?_ (F.args_dict_keyiterator_next_1 _))));refine Jk (Jq (Jk (Jk ?_)))
 first | refine Jk (wpAny_typeNameOfWhole_keyiter K.typeIs (Jq ?_)) | refine Jk (wpAny_typeNameOf_keyiter K.typeIs (Jq ?_))
 refine Jk (wpAny_fieldsOf hoi hf ?_);simp only [show Builtin.Dict_items.ownsTuple "dict_keyiterator"=false by decide,Lk,if_false];show wpAny _ _ (if (Value.ref d == Value.none)=true then _ else _) _ _ s;rw [Y0 (show ¬ ((Value.ref d == Value.none)=true) from nofun)];refine Jk (Jq (Jk (Yv ho hd ?_)));rw [Y0 (by simp)];refine Jk (Jq (Jk (Yk ho hd ?_)));rw [Y0 (by simp)];refine Jq ?_;simp only [show ¬ ((i:Int) < 0) by omega,if_false,Yr,Array.getElem?_eq_none hi];refine Jk ?_
 first | refine Jk (wpAny_typeNameOfWhole_keyiter K.typeIs (Jq ?_)) | refine Jk (wpAny_typeNameOf_keyiter K.typeIs (Jq ?_))
 show wpAny _ _ (setField (.ref it) 0 .none >>= _) _ _ s;refine Jk (wpAny_setField hoi hf (by simp) ?_);show wpAny _ _ (newExc (.type "StopIteration") [] >>= _) _ _ _;refine Jk ?_;simp only [newExc,newTuple];refine Jk (Y6 ?_ (by size_fits));refine Jk (m:=firstArgMember _ _) (Yx (a:=Value.none) (by first | rfl | (simp only [firstArgMember]; rfl)) (Y6 ?_ (by size_fits)));simp only [raiseNew];refine Jk (wpAny_handled ?_);rw [show A.in1.handled=none from hh];refine Jk (Jq (wpAny_throw ?_));refine Jk (wpAny_isInstance (b:=true) (T:="StopIteration") ⟨_,Kv _ rfl,rfl⟩ isSubtype_stop ?_);exact Jq (q _ (((Ym ..).extBut.push _).push _))
def Itn (a:Addr) (o:Obj) (kvs:List (KA × V)):It:=⟨fun i H=>i < kvs.length/\H a=some (.ext (J4 a o kvs)),fun i H x H'=>H'=H/\∃ kv,kvs[i]?=some kv/\x=Oa kv.1,fun i H=>kvs.length<=i/\H a=some (.ext (J4 a o kvs))⟩
theorem fR (x:Jr P w H h a (.ext (J4 a o kvs))):h.get? a=some o/\(a == sysModules)=false/\o.ExactDict/\∃ es ep,o.data=.dict es ep/\es.size=kvs.length/\∀ (i:Nat) (kv:KA × V),kvs[i]?=some kv->∃ e:DictEntry,es[i]?=some e/\e.key=Oh kv.1:=by
 obtain ⟨⟨z0,z1,z2,qs,z3,es,ep,h1,z5,z6,z7⟩,_⟩:=x;refine ⟨h1,z0,z5,es,ep,z6,?_,fun i kv hi=>?_⟩
 ·have:=Y9 List.length z7;simp at this;rw [this];exact (YM z3).symm
 ·have key:∀ {l:List (KA × V)} {m:List (KA × Value)},KV l m->∀ (i:Nat) (kv:KA × V),l[i]?=some kv->∃ q:KA × Value,m[i]?=some q/\q.1=kv.1:=by
   intro l m r;unfold KV at r
   induction r with
   | nil=>intro i kv h; simp at h
   | @cons p q ps qs h t ih=>
    intro i kv hi;cases i with
    | zero=>simp at hi; subst hi; exact ⟨q,rfl,h.1.symm⟩
    | succ i=>simp at hi; obtain ⟨q',a,b⟩:=ih i kv hi; exact ⟨q',by simpa using a,b⟩
  obtain ⟨q,hq,e⟩:=key z3 i kv hi;refine ⟨nY (fQ q),?_,by unfold nY fQ; rw [e]⟩;rw [<- YH,z7,Kb,Kb,hq];rfl
theorem zq (c:KA):RelV (Oa c) (Oh c):=by cases c <;> rfl
theorem zr {P:Program} {w:World} {K:PySem.W.Frag} {tg:Expr} (a it:Addr) (o:Obj) (kvs:List (KA × V)) (es:Array DictEntry) (ep:Nat) (hd:o.data=.dict es ep) (hs:es.size=kvs.length):Turn P w K tg (Itn a o kvs) [it] it (fun i h=>h.IsKeyIter it a i es.size ep) where
 mem:=by simp
 obj:=fun i h st b hb=>by
  have e:b=it:=by simpa using hb
  subst e;obtain ⟨o,e,c,d⟩:=st;exact ⟨o,e,fun v z=>by rw [d] at z; cases z⟩
 keep:=fun i h h' st k=>st.at fun o e=>k it (by simp) o e
 item:=by intro X hP hw hK hc i pins s σ H E I hf st hg;subst hP hw hK;obtain ⟨hi,hH⟩:=hg;obtain ⟨h1,h2,h3,es',ep',h4,h5,h6⟩:=fR (I.hok a _ hH);rw [hd] at h4;cases h4;obtain ⟨f0,f1,f2,f3,f4,f5⟩:=hf it (by simp);obtain ⟨e,he,hk⟩:=h6 i _ (Z3 hi);refine GD st h1 hd he fun h' st' sb=>?_;have I1:Inv X pins σ H { s with heap:=h' }:=I.turned (t':=s.toks) (fun b o hb e=>(sb.2 b hb).trans e) f0 f1 f3 f4 f5;obtain ⟨oo,e1,c1,d1⟩:=id st';exact ⟨_,rfl,ja (s:={ s with heap:=h' }) e1 c1 d1 (by decide) ⟨Oa kvs[i].1,H,I1,by rw [hk]; exact zq _,⟨rfl,_,Z3 hi,rfl⟩,st',fun b hb=>(hf b hb).1⟩⟩
 done:=by intro X hP hw hK hc i pins s σ H E I hf st hg;subst hP hw hK;obtain ⟨hi,hH⟩:=hg;obtain ⟨h1,h2,h3,_⟩:=fR (I.hok a _ hH);obtain ⟨f0,f1,f2,f3,f4,f5⟩:=hf it (by simp);exact IB (I.ok.hd hc) st h1 hd (by omega) fun h' eb=>⟨rfl,I.turned (t':=s.toks) (fun b o hb e=>eb b o hb e) f0 f1 f3 f4 f5⟩
 self:=fun _ _ _ _ _ st h=>wpAny_pyIter_keyiter st h
def iNd (tl:TE):TI:=fun σ H R=>tl σ H fun x H1=>∃ a o kvs,x=.ref a/\H1 a=some (.ext (J4 a o kvs))/\R (Itn a o kvs) H1
theorem GE {l:Expr} {tl:TE} (hl:PE X l tl):PI X tg l (iNd tl):=by
 intro pins s σ H R I h;refine Jw (hl pins s σ H _ I h) fun v s1 ⟨x,H1,I1,r1,q1⟩=>?_;obtain ⟨a,o,kvs,e,hH,q⟩:=q1;subst e;cases r1;obtain ⟨h1,h2,h3,es,ep,h4,h5,_⟩:=fR (I1.hok a _ hH);refine GC h2 h1 h3 h4 ?_;refine ⟨s1.heap.objs.size,[s1.heap.objs.size],_,_,H1,rfl,I1.kept (t':=s1.toks) fun b o e=>Z7 _ e,zr a _ o kvs es ep h4 h5,⟨_,Kv _ rfl,rfl,rfl⟩,fun b hb=>?_,q⟩;have e:b=s1.heap.objs.size:=by simpa using hb
 subst e;exact I1.Ll (JI _) (I1.hok.fresh (JI _))
def GF:R2:=fun x y H Q=>∃ a o kvs k v,x=.ref a/\ND H a o kvs/\Ox H y k/\valN kvs k=some v/\Q v H
theorem GG (hu:X.A.units+1 < cLine):Lp X GF:=by intro value slice pins s σ H x y v u Q I rx ry h hs;obtain ⟨a,ob,kvs,k,z,rfl,n,hk,l,q⟩:=h;cases rx;exact tail_any (n.ty I) PySem.F.slot_dict_getitem.lookup (DH hu I n hk ry l fun w' s3 I3 rw'=>⟨z,H,I3,rw',q⟩) hs
def Ca:V->V->V->Hp->(Hp->Prop)->Prop:=fun o i v H Q=>∃ a ob kvs c,o=.ref a/\i=Oa c/\H a=some (.ext (J4 a ob kvs))/\jk H kvs/\(∀ p,c=some p->H p.1=some (.tup (p.2.map V.int)))/\valN kvs (J2 c)=none/\kvs.length < sizeLine/\∀ o',Q (upd H a (.ext (J4 a o' (kvs++[(c,v)]))))
theorem DJ (hu:X.A.units+1 < cLine):yM X Ca:=by
 intro pins s σ H o i v ov iv u Q I ro ri rv h;obtain ⟨a,ob,kvs,c,rfl,rfl,e,ki,hc,hv,hz,q⟩:=h;cases ro;have eu:iv=Oh c:=by
  cases c with
  | _=>exact ri
 exact DI hu I e ki hc eu hv hz rv fun o' s3 I3=>⟨_,I3,q o'⟩
def vP:TE:=fun _ H Q=>∀ p o,H p=none->Q (.ref p) (upd H p (.ext (J4 p o [])))
theorem vQ:PE X (.Dict [] [] pos) vP:=fun pins s σ H Q I h=>wpAny_Dict_empty ⟨.ref s.heap.objs.size,_,I.laid (a:=s.heap.objs.size) (o:=.ext (J4 s.heap.objs.size { cls:=.type "dict",data:=.dict #[] } [])) (t':=s.toks) (fun _ _ q=>Z7 _ q) (JI _) (vO (hb:=I.big)),rfl,h _ _ (I.hok.fresh (JI _))⟩
theorem IC (I:Inv X pins σ H s) (e:JW X.K H b (k.map kV)):(tupleKind (aJ X.prog X.w)).is s.heap k b:=by obtain ⟨its,r,⟨o,h1,h2,n,h3⟩,_⟩:=I.tuple e;exact ⟨o,its.toArray,n,h1,h2,h3,by simpa using gG r⟩
theorem zt (I:Inv X pins σ H s) (e:H a=some (.dT kvs)):s.TypeIs (.ref a) "dict":=by obtain ⟨_,_,xs,_,dd⟩:=qZ I.hok e;exact dd.typeIs
theorem DK (hu:A.units+1 < cLine) (I:Inv X pins σ H s) (e:H a=some (.dT kvs)) (eb:JW X.K H b (k.map kV)) (l:eV kvs k=some v) (h:∀ w' s',Inv X pins σ H s'->RelV v w'->Q w' s') :
 wpAny (model X.prog X.w) A (getItem (.ref a) (.ref b)) Q E s:=by
 obtain ⟨z,hd,xs,rel,dd⟩:=qZ I.hok e;obtain ⟨w',hw,rw'⟩:=J8.some_of (v:=v) (o:=(atKey xs k).map (·.2)) (by rw [<- l]; exact rel.val k);obtain ⟨p,hp,hp2⟩:=Option.map_eq_some_iff.mp hw;refine wpAny_getItem_heap (tupleKind_room_in1 hu) (IC I eb) dd hp ?_;rw [hp2];exact h w' _ (I.tok _) rw'
theorem DL (hu:A.units+1 < cLine) (I:Inv X pins σ H s) (e:H a=some (.dT kvs)) (eb:H b=some (.tup (k.map kV))) (hl:kvs.length < sizeLine) (rv:RelV v r) (h:∀ s',Inv X pins σ (upd H a (.dT (dC kvs k v))) s'->Q () s') :
 wpAny (model X.prog X.w) A (setItem (.ref a) (.ref b) r) Q E s:=kM hu I (MJ.t e eb hl) rfl rv h
def GH (K:PySem.W.Frag):R2:=fun x y H Q=>∃ a b kvs k v,x=.ref a/\y=.ref b/\H a=some (.dT kvs)/\JW K H b (k.map kV)/\eV kvs k=some v/\Q v H
def GI:R2:=fun x y H Q=>∃ a kvs i v,x=.ref a/\y=.int i/\H a=some (.dK kvs)/\eV kvs (.inl i)=some v/\Q v H
def jl (K:PySem.W.Frag):R2:=fun x y H Q=>zd K x y H Q∨GH K x y H Q∨GI x y H Q∨GF x y H Q
section
variable {K:PySem.W.Frag}
theorem zu (hu:X.A.units+1 < cLine):Lp X (GH X.K):=by intro value slice pins s σ H x y v u Q I rx ry h hs;obtain ⟨a,b,kvs,k,z,rfl,rfl,e,eb,l,q⟩:=h;cases rx;cases ry;exact tail_any (zt I e) PySem.F.slot_dict_getitem.lookup (DK hu I e eb l fun w' s3 I3 rw'=>⟨z,H,I3,rw',q⟩) hs
theorem GJ (hu:X.A.units+1 < cLine):Lp X GI:=by intro value slice pins s σ H x y v u Q I rx ry h hs;obtain ⟨a,kvs,i,z,rfl,rfl,e,l,q⟩:=h;cases rx;have g:Dq H a (.int i) (some z):=.inl ⟨kvs,.inl i,.inl e,rfl,l.symm⟩;exact tail_any (nP I g) PySem.F.slot_dict_getitem.lookup (tm hu I g ry fun w' s3 I3 rw'=>⟨z,H,I3,rw',q⟩) hs
theorem DM (kt:KT K) (hu:X.A.units+1 < cLine) (hK:X.K=K:=by rfl):Lp X (jl K):=by subst hK;exact N9.or ((zu hu).or ((GJ hu).or (GG hu)))
def GK (K:PySem.W.Frag) (neg:Bool):R2:=fun x y H Q=>neg=false/\∃ a b kvs k,y=.ref a/\x=.ref b/\H a=some (.dT kvs)/\JW K H b (k.map kV)/\Q (.bl (eV kvs k).isSome) H
def GL:V->V->V->Hp->(Hp->Prop)->Prop:=fun o i v H Q=>∃ a b kvs k,o=.ref a/\i=.ref b/\H a=some (.dT kvs)/\H b=some (.tup (k.map kV))/\kvs.length < sizeLine/\Q (upd H a (.dT (dC kvs k v)))
def GM:V->V->V->Hp->(Hp->Prop)->Prop:=fun o i v H Q=>∃ a n kvs,o=.ref a/\i=.int n/\H a=some (.dK kvs)/\kvs.length < sizeLine/\Q (upd H a (.dK (dC kvs (.inl n) v)))
def jm:V->V->V->Hp->(Hp->Prop)->Prop:=fun o i v H Q=>vd o i v H Q∨GL o i v H Q∨GM o i v H Q∨Ca o i v H Q
theorem zw (hu:X.A.units+1 < cLine):yM X jm:=by
 intro pins s σ H o i v ov iv u Q I ro ri rv h;rcases h with h | h | h | h
 ·exact ve pins s σ H o i v ov iv u Q I ro ri rv h
 ·obtain ⟨a,b,kvs,k,rfl,rfl,e,eb,hl,q⟩:=h;cases ro;cases ri;exact DL hu I e eb hl rv fun s3 I3=>⟨_,I3,q⟩
 ·obtain ⟨a,n,kvs,rfl,rfl,e,hl,q⟩:=h;cases ro;have g:MJ H a (.int n) v (upd H a (.dK (dC kvs (.inl n) v))):=.inl ⟨kvs,.inl n,e,rfl,hl,rfl⟩;exact kM hu I g ri rv fun s3 I3=>⟨_,I3,q⟩
 ·exact DJ hu pins s σ H o i v ov iv u Q I ro ri rv h
def pX:TE:=fun σ H Q=>vt σ H Q∨vq σ H Q∨vP σ H Q
theorem vR:PE X (.Dict [] [] pos) pX:=fun pins s σ H Q I h=>h.elim (fun h=>vw pins s σ H Q I h) fun h=>h.elim (fun h=>vv pins s σ H Q I h) fun h=>vQ pins s σ H Q I h
def GN (Q:VK) (p:Addr) (l:List (V × V)) (H2:Hp):Prop:=∃ x y b k,l=[(x,y)]/\x=V.ref b/\H2 p=some (.dT [])/\H2 b=some (.tup (k.map kV))/\Q (.ref p) (upd H2 p (.dT [(k,y)]))
def Cb (tk tv:TE):TE:=fun σ H Q=>∀ p,H p=none->tk σ (upd H p (.dT [])) fun x H1=>tv σ H1 fun y H2=>GN Q p [(x,y)] H2
theorem zz (hu:X.A.units+1 < cLine) (hk:PE X k tk) (hv:PE X v tv):PE X (.Dict [some k] [v] pos) (Cb tk tv):=by
 intro pins s σ H Q I q;have hn:=I.hok.fresh (JI s.heap.objs.size);have I1:=I.laid (a:=s.heap.objs.size) (o:=.dT []) (h':=s.heap.push { cls:=.type "dict",data:=.dict #[] }) (t':=s.toks) (fun _ _ q=>Z7 _ q) (JI _) (nQ s.heap I.big);refine wpAny_Dict_any rfl rfl (by simp) (by simp) ?_;have ps:OE X pos [some k] [v] [(tk,tv)]:=nR hk hv q9;refine Jw (ps pins _ σ _ (GN Q s.heap.objs.size) I1 (q _ hn)) fun ws s2 ⟨l,H2,I2,rel,x,y,b,k,el,ex,e,eb,q2⟩=>?_
 ·subst el; subst ex;cases rel with
  | @cons w0 w' _ _ r t=>cases t;obtain ⟨u1,u2⟩:=w';obtain ⟨r1,r2⟩:=r;dsimp only at r1 r2;cases (show u1=Value.ref b from r1);obtain ⟨z,hd,xs,rl,dd⟩:=qZ I2.hok e;cases rl;unfold storeAll;rw [List.forIn_cons];refine Jk (Jk (wpAny_dictSet_heap (hsz:=K0 _) (by show X.A.units < cLine; lia) (jg I2.hok eb) dd fun h' dd' hs=>?_));refine Jq ?_;dsimp only;rw [List.forIn_nil];refine Jq ⟨.ref s.heap.objs.size,_,?_,rfl,q2⟩;obtain ⟨q,es,ep,hq,h2,h3,h4,_,h5⟩:=dd';refine fP I2 (by rw [e]; exact True.intro) hs ⟨q,hq⟩ ⟨by simp [Yt],hd,_,?_,q,es,ep,hq,h2,h3,h4,h5⟩;refine .cons ⟨rfl,?_,r2⟩ .nil;rw [ar (BS eb e (fun z=>nomatch z))];exact eb
end
def Cc (Q:VK) (p:Addr) (l:List (V × V)) (H2:Hp):Prop:=∃ y ob,l=[(V.non,y)]/\H2 p=some (.ext (J4 p ob []))/\∀ o',Q (.ref p) (upd H2 p (.ext (J4 p o' [(none,y)])))
def vS (tk tv:TE):TE:=fun σ H Q=>∀ p ob,H p=none->tk σ (upd H p (.ext (J4 p ob []))) fun x H1=>tv σ H1 fun y H2=>Cc Q p [(x,y)] H2
theorem vT (hu:X.A.units+1 < cLine) (hk:PE X k tk) (hv:PE X v tv):PE X (.Dict [some k] [v] pos) (vS tk tv):=by
 intro pins s σ H Q I q;have hn:=I.hok.fresh (JI s.heap.objs.size);have I1:=I.laid (a:=s.heap.objs.size) (o:=.ext (J4 s.heap.objs.size { cls:=.type "dict",data:=.dict #[] } [])) (h':=s.heap.push { cls:=.type "dict",data:=.dict #[] }) (t':=s.toks) (fun _ _ q=>Z7 _ q) (JI _) (vO (hb:=I.big));refine wpAny_Dict_any rfl rfl (by simp) (by simp) ?_;have ps:OE X pos [some k] [v] [(tk,tv)]:=nR hk hv q9;refine Jw (ps pins _ σ _ (Cc Q s.heap.objs.size) I1 (q _ _ hn)) fun ws s2 ⟨l,H2,I2,rel,y,ob,el,e,q2⟩=>?_
 ·subst el;cases rel with
  | @cons w0 w' _ _ r t=>
   cases t;obtain ⟨u1,u2⟩:=w';obtain ⟨r1,r2⟩:=r;dsimp only at r1 r2;cases (show u1=Value.none from r1);obtain ⟨qs,es,ep,kv,N,z0,z1⟩:=ND.nat I2 (kvs:=[]) ⟨e,fun kv m=>by cases m⟩;have eq:qs=[]:=List.length_eq_zero_iff.mp (YM kv).symm;subst eq;unfold storeAll;rw [List.forIn_cons];refine Jk (Jk (GA (k:=none) (by show X.A.units < cLine; lia) (rfl:Kt X.prog X.w s2.heap none Value.none) N rfl (by simp [Yt]) fun n h' ⟨o',es',ep',N'⟩ hs=>?_));refine Jq ?_;dsimp only;rw [List.forIn_nil];refine Jq ⟨.ref s.heap.objs.size,_,?_,rfl,q2 o'⟩;refine fP I2 (by rw [e]; exact True.intro) hs ⟨o',N'.ho⟩ (vN ⟨z0,by simp [Yt],?_,[(none,u2)],.cons ⟨rfl,r2⟩ .nil,es',ep',N'.ho,N'.hx,N'.hd,?_⟩)
   ·simp [J2]
   ·rw [N'.he];rfl
end L2
namespace Mir
open L2
set_option genInjectivity true in
inductive S where
 | d (x:D)
 | pot (ns:List Int) (i r m:Int)
 | dc (kvs:List (List Key × D))
 | dk (kvs:List (Key × D))
 | dm (kvs:List (NK × D))
 | dn (kvs:List (NK × D))
 | scr (ns:List Int)
abbrev En:=List (Option S)
def look:En->Nat->Option S
 | [],_=>none
 | x::_,0=>x
 | _::r,n+1=>look r n
set_option genInjectivity true in
inductive Op where
 | val (d:D)
 | var (i:Nat)
set_option genInjectivity true in
inductive Md where
 | pl | ow | lk | io
 deriving DecidableEq
def ai:List Md->Nat->Md
 | [],_=>.pl
 | m::_,0=>m
 | _::r,n+1=>ai r n
def Mi:Option S->Option D
 | some (.d x)=>some x
 | _=>none
def res (ρ:En):Op->Option D
 | .val d=>some d
 | .var i=>Mi (look ρ i)
def GO (ρ:En):Op->Option S
 | .val d=>some (.d d)
 | .var i=>look ρ i
def cD (s:Option D):Option D:=match s with
 | some x=>if D.imm x=true then some x else none
 | none=>none
def K6 (md:List Md) (ρ:En):Op->Option D
 | .val d=>some d
 | .var i=>match ai md i with
  | .pl=>Mi (look ρ i)
  | _=>cD (Mi (look ρ i))
theorem aY:∀ {ρ:En} {i:Nat} {x:Option S},i < ρ.length->look (ρ.set i x) i=x
 | [],i,x,h=>by simp at h
 | y::r,0,x,h=>rfl
 | y::r,i+1,x,h=>by simp only [List.set_cons_succ,look]; exact aY (by simpa using h)
theorem au:∀ {ρ:En} {i j:Nat} {x:Option S},i ≠ j->look (ρ.set i x) j=look ρ j
 | [],i,j,x,h=>rfl
 | y::r,0,0,x,h=>absurd rfl h
 | y::r,0,j+1,x,h=>rfl
 | y::r,i+1,0,x,h=>rfl
 | y::r,i+1,j+1,x,h=>by simp only [List.set_cons_succ,look]; exact au (fun e=>h (by rw [e]))
theorem aV:∀ {ρ:En} {i:Nat} {s:S},look ρ i=some s->i < ρ.length
 | [],i,s,h=>by cases h
 | y::r,0,s,h=>by simp
 | y::r,i+1,s,h=>by have:=aV (ρ:=r) (i:=i) h; simp; omega
mutual
def Ji (K:PySem.W.Frag) (H:Hp) (ok:Addr->Prop):D->V->Prop
 | .non,v=>v=.non
 | .bl b,v=>v=.bl b
 | .int i,v=>v=.int i
 | .str x,v=>v=.str x
 | .tup l,v=>∃ a xs,v=.ref a/\JW K H a xs/\Jj K H ok l xs
 | .lst l,v=>∃ a xs,v=.ref a/\H a=some (.lst xs)/\ok a/\Jj K H ok l xs
def Jj (K:PySem.W.Frag) (H:Hp) (ok:Addr->Prop):List D->List V->Prop
 | [],xs=>xs=[]
 | d::ds,xs=>∃ x r,xs=x::r/\Ji K H ok d x/\Jj K H ok ds r
end
theorem Jj.nil:Jj K H ok [] []:=by rw [Jj]
theorem Jj.cons (h:Ji K H ok d x) (t:Jj K H ok ds xs):Jj K H ok (d::ds) (x::xs):=by rw [Jj]; exact ⟨x,xs,rfl,h,t⟩
theorem Jj.cons_inv (h:Jj K H ok (d::ds) xs):∃ x r,xs=x::r/\Ji K H ok d x/\Jj K H ok ds r:=by rw [Jj] at h; exact h
theorem Jj.nil_inv (h:Jj K H ok [] xs):xs=[]:=by rw [Jj] at h; exact h
theorem Jj.length:∀ {l:List D} {xs:List V},Jj K H ok l xs->xs.length=l.length
 | [],xs,h=>by rw [h.nil_inv]; rfl
 | d::ds,xs,h=>by
  obtain ⟨x,r,rfl,_,h2⟩:=h.cons_inv;simp [Jj.length h2]
theorem Jj.get:∀ {l:List D} {xs:List V} {i:Nat} {d:D},Jj K H ok l xs->l[i]?=some d->∃ x,xs[i]?=some x/\Ji K H ok d x
 | [],xs,i,d,h,e=>by simp at e
 | d'::ds,xs,0,d,h,e=>by
  obtain ⟨x,r,rfl,h1,_⟩:=h.cons_inv;simp at e; subst e;exact ⟨x,rfl,h1⟩
 | d'::ds,xs,i+1,d,h,e=>by
  obtain ⟨x,r,rfl,_,h2⟩:=h.cons_inv;simp at e;obtain ⟨y,e1,h3⟩:=Jj.get h2 e;exact ⟨y,by simpa using e1,h3⟩
theorem Jj.append:∀ {l m:List D} {xs ys:List V},Jj K H ok l xs->Jj K H ok m ys->Jj K H ok (l++m) (xs++ys)
 | [],m,xs,ys,h,t=>by rw [h.nil_inv]; exact t
 | d::ds,m,xs,ys,h,t=>by
  obtain ⟨x,r,rfl,h1,h2⟩:=h.cons_inv;exact .cons h1 (Jj.append h2 t)
theorem Jj.take:∀ {l:List D} {xs:List V} (n:Nat),Jj K H ok l xs->Jj K H ok (l.take n) (xs.take n)
 | l,xs,0,h=>by simp; exact .nil
 | [],xs,n+1,h=>by rw [h.nil_inv]; simp; exact .nil
 | d::ds,xs,n+1,h=>by
  obtain ⟨x,r,rfl,h1,h2⟩:=h.cons_inv;simp only [List.take_succ_cons];exact .cons h1 (Jj.take n h2)
theorem Jj.drop:∀ {l:List D} {xs:List V} (n:Nat),Jj K H ok l xs->Jj K H ok (l.drop n) (xs.drop n)
 | l,xs,0,h=>by simpa using h
 | [],xs,n+1,h=>by rw [h.nil_inv]; simp; exact .nil
 | d::ds,xs,n+1,h=>by
  obtain ⟨x,r,rfl,h1,h2⟩:=h.cons_inv;simp only [List.drop_succ_cons];exact Jj.drop n h2
theorem Jj.dropLast (h:Jj K H ok l xs):Jj K H ok l.dropLast xs.dropLast:=by rw [List.dropLast_eq_take,List.dropLast_eq_take,h.length];exact h.take _
theorem Jj.set:∀ {l:List D} {xs:List V} {d:D} {x:V} (i:Nat),Jj K H ok l xs->Ji K H ok d x->Jj K H ok (l.set i d) (xs.set i x)
 | [],xs,d,x,i,h,r=>by rw [h.nil_inv]; simp; exact .nil
 | d'::ds,xs,d,x,0,h,r=>by
  obtain ⟨y,t,rfl,h1,h2⟩:=h.cons_inv;exact .cons r h2
 | d'::ds,xs,d,x,i+1,h,r=>by
  obtain ⟨y,t,rfl,h1,h2⟩:=h.cons_inv;exact .cons h1 (Jj.set i h2 r)
theorem Jj.rep:∀ {l:List D} {xs:List V} (k:Nat),Jj K H ok l xs->Jj K H ok (List.replicate k l).flatten (List.replicate k xs).flatten
 | l,xs,0,h=>by simp; exact .nil
 | l,xs,k+1,h=>by
  rw [LR,LR,MQ,MQ];exact h.append (Jj.rep k h)
mutual
theorem Ji.rep:∀ {d:D} {v:V},Ji K H ok d v->Rep K H d v
 | .non,v,h=>by rw [Ji] at h; rw [Rep]; exact h
 | .bl _,v,h=>by rw [Ji] at h; rw [Rep]; exact h
 | .int _,v,h=>by rw [Ji] at h; rw [Rep]; exact h
 | .str _,v,h=>by rw [Ji] at h; rw [Rep]; exact h
 | .tup l,v,h=>by
  rw [Ji] at h; rw [Rep];obtain ⟨a,xs,e,t,r⟩:=h;exact ⟨a,xs,e,t,Jj.Ks r⟩
 | .lst l,v,h=>by
  rw [Ji] at h; rw [Rep];obtain ⟨a,xs,e,t,_,r⟩:=h;exact ⟨a,xs,e,.inl (.inl t),Jj.Ks r⟩
theorem Jj.Ks:∀ {l:List D} {xs:List V},Jj K H ok l xs->Js K H l xs
 | [],xs,h=>by rw [h.nil_inv]; exact .nil
 | d::ds,xs,h=>by
  obtain ⟨x,r,rfl,h1,h2⟩:=h.cons_inv;exact .cons (Ji.rep h1) (Jj.Ks h2)
end
mutual
theorem Ji.Jp (hT:aU K H H') (hL:∀ a xs,ok a->H a=some (.lst xs)->H' a=some (.lst xs)/\ok' a):∀ {d:D} {v:V},Ji K H ok d v->Ji K H' ok' d v
 | .non,v,h=>by rw [Ji] at h ⊢; exact h
 | .bl _,v,h=>by rw [Ji] at h ⊢; exact h
 | .int _,v,h=>by rw [Ji] at h ⊢; exact h
 | .str _,v,h=>by rw [Ji] at h ⊢; exact h
 | .tup l,v,h=>by
  rw [Ji] at h ⊢;obtain ⟨a,xs,e,t,r⟩:=h;exact ⟨a,xs,e,hT _ _ t,Jj.Jp hT hL r⟩
 | .lst l,v,h=>by
  rw [Ji] at h ⊢;obtain ⟨a,xs,e,t,o,r⟩:=h;exact ⟨a,xs,e,(hL _ _ o t).1,(hL _ _ o t).2,Jj.Jp hT hL r⟩
theorem Jj.Jp (hT:aU K H H') (hL:∀ a xs,ok a->H a=some (.lst xs)->H' a=some (.lst xs)/\ok' a):∀ {l:List D} {xs:List V},Jj K H ok l xs->Jj K H' ok' l xs
 | [],xs,h=>by rw [h.nil_inv]; exact .nil
 | d::ds,xs,h=>by
  obtain ⟨x,r,rfl,h1,h2⟩:=h.cons_inv;exact .cons (Ji.Jp hT hL h1) (Jj.Jp hT hL h2)
end
mutual
theorem Ji.JH:∀ {d:D} {v:V},D.imm d=true->Rep K H d v->Ji K H ok d v
 | .non,v,_,h=>by rw [Rep] at h; rw [Ji]; exact h
 | .bl _,v,_,h=>by rw [Rep] at h; rw [Ji]; exact h
 | .int _,v,_,h=>by rw [Rep] at h; rw [Ji]; exact h
 | .str _,v,_,h=>by rw [Rep] at h; rw [Ji]; exact h
 | .tup l,v,i,h=>by
  rw [Rep] at h; rw [Ji];obtain ⟨a,xs,e,t,r⟩:=h;exact ⟨a,xs,e,t,Jj.JH (by simpa [D.imm] using i) r⟩
 | .lst l,v,i,h=>by simp [D.imm] at i
theorem Jj.JH:∀ {l:List D} {xs:List V},D.JA l=true->Js K H l xs->Jj K H ok l xs
 | [],xs,_,h=>by rw [Js] at h; subst h; exact .nil
 | d::ds,xs,i,h=>by
  rw [Js] at h;obtain ⟨x,r,rfl,h1,h2⟩:=h;rw [D.JA,Lv] at i;exact .cons (Ji.JH i.1 h1) (Jj.JH i.2 h2)
end
def JD (K:PySem.W.Frag) (H:Hp) (ok:Addr->Prop):D->V->Prop
 | .lst l,v=>∃ a xs,v=.ref a/\H a=some (.lst xs)/\Jj K H ok l xs
 | d,v=>Ji K H ok d v
theorem Ji.top (h:Ji K H ok d v):JD K H ok d v:=by cases d <;> first | exact h | (rw [Ji] at h; obtain ⟨a,xs,e,t,_,r⟩:=h; exact ⟨a,xs,e,t,r⟩)
theorem JD.rep (h:JD K H ok d v):Rep K H d v:=by cases d <;> first | exact Ji.rep (K:=K) (H:=H) (ok:=ok) (show Ji K H ok _ v from h) | (obtain ⟨a,xs,e,t,r⟩:=h; rw [Rep]; exact ⟨a,xs,e,.inl (.inl t),r.Ks⟩)
theorem JD.imm (h:JD K H ok d v) (i:D.imm d=true):Ji K H ok' d v:=Ji.JH i h.rep
theorem Ji.mono (h:Ji K H ok d v) (m:∀ a xs,ok a->H a=some (.lst xs)->ok' a):Ji K H ok' d v:=h.Jp (fun _ _ z=>z) fun a xs o r=>⟨r,m a xs o r⟩
theorem Jj.mono (h:Jj K H ok d v) (m:∀ a xs,ok a->H a=some (.lst xs)->ok' a):Jj K H ok' d v:=h.Jp (fun _ _ z=>z) fun a xs o r=>⟨r,m a xs o r⟩
theorem Ji.same (h:Ji K H ok d v) (s:Jo H H'):Ji K H' ok d v:=h.Jp (My.aF s) fun a xs o r=>⟨s _ _ r,o⟩
theorem Jj.same (h:Jj K H ok d v) (s:Jo H H'):Jj K H' ok d v:=h.Jp (My.aF s) fun a xs o r=>⟨s _ _ r,o⟩
def jo (o:Option HO):Prop:=(∃ xs,o=some (.lst xs))∨(∃ kvs,o=some (.dT kvs))∨(∃ kvs,o=some (.dK kvs))∨∃ φ,o=some (.ext φ)
def Jt {κ:Type} (K:PySem.W.Frag) (H:Hp) (ok:Addr->Prop) (kvs:List (κ × D)) (ws:List (κ × V)):Prop:=ws.map (·.1)=kvs.map (·.1)/\Jj K H ok (kvs.map (·.2)) (ws.map (·.2))
structure JR (K:PySem.W.Frag) (H:Hp) (ok:Addr->Prop) (kvs:List (NK × D)) (ws:List (KA × V)):Prop where
 ks:(ws.map fun x=>J2 x.1)=kvs.map (·.1)
 ki:jk H ws
 vs:Jj K H ok (kvs.map (·.2)) (ws.map (·.2))
theorem JR.Jp (hT:aU K H H') (hL:∀ a xs,ok a->H a=some (.lst xs)->H' a=some (.lst xs)/\ok' a) {kvs:List (NK × D)} {ws:List (KA × V)} (h:JR K H ok kvs ws):JR K H' ok' kvs ws:=
 ⟨h.ks,fun kv hk p e=>hT p.1 _ (h.ki kv hk p e),h.vs.Jp hT hL⟩
theorem JR.same (h:JR K H ok kvs ws) (s:Jo H H'):JR K H' ok kvs ws:=h.Jp (My.aF s) fun a xs o r=>⟨s _ _ r,o⟩
theorem JR.mono (h:JR K H ok kvs ws) (m:∀ a xs,ok a->H a=some (.lst xs)->ok' a):JR K H ok' kvs ws:=h.Jp (fun _ _ z=>z) fun a xs o r=>⟨r,m a xs o r⟩
def Ext (W:Addr->Prop) (H H':Hp):Prop:=∀ b o,¬ W b->H b=some o->H' b=some o
theorem Ext.refl (W:Addr->Prop) (H:Hp):Ext W H H:=fun _ _ _ h=>h
theorem Ext.trans (a:Ext W H H1) (b:Ext W H1 H2):Ext W H H2:=fun c o n h=>b c o n (a c o n h)
theorem Jo.ext (s:Jo H H'):Ext W H H':=fun b o _ h=>s b o h
theorem Ext.JF (e:Ext W H H') (k:∀ a,W a->jo (H a)):aU K H H':=by intro a ys h;replace h:H a=some (.tup ys):=h;exact e a _ (fun w=>by rcases k a w with ⟨xs,z⟩ | ⟨xs,z⟩ | ⟨xs,z⟩ | ⟨xs,z⟩ <;> (rw [h] at z; cases z)) h
def Ln:S->Bool
 | .d (.lst _)=>true
 | .d _=>false
 | .scr _=>false
 | .dn _=>false
 | _=>true
def Cell (K:PySem.W.Frag) (A:Addr->Prop) (H:Hp) (ok okq:Addr->Prop):S->V->Prop
 | .d (.lst l),v=>∃ a xs,v=.ref a/\H a=some (.lst xs)/\A a/\ok a/\Jj K H (fun b=>¬ A b) l xs
 | .d x,v=>Ji K H (fun b=>¬ A b) x v
 | .pot ns i r m,v=>∃ p q,v=.ref p/\H p=some (.lst [.ref q,.int i,.int r,.int m])/\H q=some (.lst (ns.map V.int))/\A p/\ok p/\¬ A q/\okq q
 | .dc kvs,v=>∃ a ws,v=.ref a/\H a=some (.dT ws)/\A a/\ok a/\Jt K H (fun b=>¬ A b) kvs ws
 | .dk kvs,v=>∃ a ws,v=.ref a/\H a=some (.dK ws)/\A a/\ok a/\Jt K H (fun b=>¬ A b) kvs ws
 | .dm kvs,v=>∃ a ws,v=.ref a/\(∃ o,H a=some (.ext (J4 a o ws)))/\A a/\ok a/\JR K H (fun b=>¬ A b) kvs ws
 | .dn _,_=>False
 | .scr _,_=>False
def Kf (K:PySem.W.Frag) (H:Hp) (a:Addr) (ns:List Int):Prop:=(∃ o,H a=some (.frz o (.lst (ns.map V.int)))) ∨
 ∃ (o:Obj) (its:Array Value) (n:Nat),K.lookup a=some o/\o.cls=.type "list"/\o.dict=none/\o.data=.seq its n/\its.size<=sizeLine/\Vals (ns.map V.int) its.toList
theorem Kf.sq (h:Kf K H a ns):J0 K H a (ns.map V.int):=by
 rcases h with h | h
 ·exact .inl (.inr h)
 ·exact .inr h
theorem Kf.ext (e:Ext W H H') (k:∀ a,W a->jo (H a)) (h:Kf K H a ns):Kf K H' a ns:=by
 rcases h with ⟨o,h⟩ | h
 ·exact .inl ⟨o,e a _ (fun w=>by rcases k a w with ⟨xs,z⟩ | ⟨xs,z⟩ | ⟨xs,z⟩ | ⟨xs,z⟩ <;> (rw [h] at z; cases z)) h⟩
 ·exact .inr h
theorem Kf.same (s:Jo H H') (h:Kf K H a ns):Kf K H' a ns:=by
 rcases h with ⟨o,h⟩ | h
 ·exact .inl ⟨o,s _ _ h⟩
 ·exact .inr h
def vU (K:PySem.W.Frag) (H:Hp) (ok:Addr->Prop):S->V->Prop
 | .d x,v=>Ji K H ok x v
 | .scr ns,v=>∃ a,v=.ref a/\Kf K H a ns
 | .dc kvs,v=>∃ a ws,v=.ref a/\H a=some (.dT ws)/\ok a/\Jt K H ok kvs ws
 | .dn kvs,v=>∃ a ws,v=.ref a/\(∃ o,H a=some (.ext (J4 a o ws)))/\ok a/\JR K H ok kvs ws
 | _,_=>False
structure Cn where
 K:PySem.W.Frag
 H0:Hp
 M:Addr->Prop
 Q:Addr->Prop
 free:Bool
def Kh (C:Cn) (A W:Addr->Prop) (H:Hp) (s:S) (v:V):Md->Prop
 | .pl=>vU C.K H (fun b=>¬ A b) s v
 | .ow=>Cell C.K A H (fun a=>W a/\C.H0 a=none) (fun _=>True) s v
 | .lk=>Cell C.K A H (fun a=>¬ W a) (fun _=>True) s v
 | .io=>Cell C.K A H (fun a=>W a/\C.M a) C.Q s v
structure R (C:Cn) (md:List Md) (A W:Addr->Prop) (ρ:En) (σ:St) (H:Hp):Prop where
 len:σ.length=ρ.length
 wa:∀ a,W a->A a
 ak:∀ a,A a->jo (H a)
 base:∀ b o,C.H0 b=some o->¬ C.M b->H b=some o
 wf:∀ a,W a->C.H0 a=none∨C.M a
 ma:∀ a,C.M a->A a
 fo:C.free=true->∀ a xs,C.H0 a=some (.lst xs)->¬ C.Q a->A a
 slot:∀ i s,look ρ i=some s->∃ v,σ[i]?=some (some v)/\Kh C A W H s v (ai md i)
 inj:∀ i j s s' a,i ≠ j->ai md i ≠ .pl->ai md j ≠ .pl->look ρ i=some s->look ρ j=some s'->Ln s=true->Ln s'=true->σ[i]?=some (some (.ref a))->σ[j]?=some (some (.ref a))->False
theorem R.wk (r:R C md A W ρ σ H):∀ a,W a->jo (H a):=fun a w=>r.ak a (r.wa a w)
theorem R.KU (r:R C md A W ρ σ H) (e:Ext W H H') {d:D} {v:V} (h:Ji C.K H (fun b=>¬ A b) d v):Ji C.K H' (fun b=>¬ A b) d v:=
 h.Jp (e.JF r.wk) fun a xs o z=>⟨e a _ (fun w=>o (r.wa a w)) z,o⟩
theorem R.JT (r:R C md A W ρ σ H) (e:Ext W H H') {d:List D} {v:List V} (h:Jj C.K H (fun b=>¬ A b) d v):Jj C.K H' (fun b=>¬ A b) d v:=
 h.Jp (e.JF r.wk) fun a xs o z=>⟨e a _ (fun w=>o (r.wa a w)) z,o⟩
theorem R.Lx (r:R C md A W ρ σ H) (e:Ext W H H') {kvs:List (NK × D)} {ws:List (KA × V)} (h:JR C.K H (fun b=>¬ A b) kvs ws):JR C.K H' (fun b=>¬ A b) kvs ws:=
 h.Jp (e.JF r.wk) fun a xs o z=>⟨e a _ (fun w=>o (r.wa a w)) z,o⟩
theorem Cell.same (s1:Jo H H') (h:Cell K A H ok okq s v):Cell K A H' ok okq s v:=by
 match s,h with
 | .d (.lst l),h=>obtain ⟨a,xs,e,h1,h2,h3,h4⟩:=h;exact ⟨a,xs,e,s1 _ _ h1,h2,h3,h4.same s1⟩
 | .d .non,h=>exact Ji.same h s1
 | .d (.bl _),h=>exact Ji.same h s1
 | .d (.int _),h=>exact Ji.same h s1
 | .d (.str _),h=>exact Ji.same h s1
 | .d (.tup _),h=>exact Ji.same h s1
 | .pot ns i r m,h=>obtain ⟨p,q,e,h1,h2,h3⟩:=h;exact ⟨p,q,e,s1 _ _ h1,s1 _ _ h2,h3⟩
 | .dc kvs,h=>obtain ⟨a,ws,e,h1,h2,h3,h4,h5⟩:=h;exact ⟨a,ws,e,s1 _ _ h1,h2,h3,h4,h5.same s1⟩
 | .dk kvs,h=>obtain ⟨a,ws,e,h1,h2,h3,h4,h5⟩:=h;exact ⟨a,ws,e,s1 _ _ h1,h2,h3,h4,h5.same s1⟩
 | .dm kvs,h=>obtain ⟨a,ws,e,⟨o,h1⟩,h2,h3,h4⟩:=h;exact ⟨a,ws,e,⟨o,s1 _ _ h1⟩,h2,h3,h4.same s1⟩
 | .dn _,h=>exact h.elim
 | .scr _,h=>exact h.elim
theorem R.same (r:R C md A W ρ σ H) (s:Jo H H'):R C md A W ρ σ H' where
 len:=r.len
 wa:=r.wa
 ak:=fun a h=>(r.ak a h).imp (fun ⟨xs,e⟩=>⟨xs,s _ _ e⟩) (fun z=>z.imp (fun ⟨xs,e⟩=>⟨xs,s _ _ e⟩) (fun z=>z.imp (fun ⟨xs,e⟩=>⟨xs,s _ _ e⟩) (fun ⟨xs,e⟩=>⟨xs,s _ _ e⟩)))
 base:=fun b o h n=>s _ _ (r.base b o h n)
 wf:=r.wf
 ma:=r.ma
 fo:=r.fo
 slot:=fun i t h=>by
  obtain ⟨v,e,h1⟩:=r.slot i t h;refine ⟨v,e,?_⟩;cases em:ai md i with
  | pl=>
   rw [em] at h1;cases t with
   | d x=>exact Ji.same h1 s
   | scr ns=>obtain ⟨a,z,h1⟩:=h1; exact ⟨a,z,h1.same s⟩
   | dc kvs=>obtain ⟨a,ws,z,h1,h2,h3,h4⟩:=h1; exact ⟨a,ws,z,s _ _ h1,h2,h3,h4.same s⟩
   | dn kvs=>obtain ⟨a,ws,z,⟨o,h1⟩,h2,h3⟩:=h1; exact ⟨a,ws,z,⟨o,s _ _ h1⟩,h2,h3.same s⟩
   | _=>cases h1
  | _=>rw [em] at h1; exact Cell.same s h1
 inj:=r.inj
theorem R.fresh (r:R C md A W ρ σ H) {a:Addr} (h:H a=none):¬ A a:=fun z=>by
 rcases r.ak a z with ⟨xs,e⟩ | ⟨xs,e⟩ | ⟨xs,e⟩ | ⟨xs,e⟩ <;> (rw [h] at e; cases e)
theorem R.LJ (r:R C md A W ρ σ H) {d:D} {v:V} {H':Hp} (h:Ji C.K H' (fun a=>¬ A a∨H a=none) d v):Ji C.K H' (fun a=>¬ A a) d v:=
 h.mono fun a xs o _=>by rcases o with o | o; exact o; exact r.fresh o
def Kz (C:Cn) (A:Addr->Prop) (σ:St) (H:Hp):Op->V->Prop
 | .val d,v=>Ji C.K H (fun a=>¬ A a) d v
 | .var i,v=>σ[i]?=some (some v)
theorem Kz.Jp (r:R C md A W ρ σ H) (e:Ext W H H') (h:Kz C A σ H o v):Kz C A σ H' o v:=by
 cases o with
 | val d=>exact r.KU e h
 | var i=>exact h
theorem Cell.top (h:Cell K A H ok okq (.d d) v):JD K H (fun a=>¬ A a) d v:=by
 match d,h with
 | .lst l,h=>obtain ⟨a,xs,e,h1,h2,h3,h4⟩:=h;exact ⟨a,xs,e,h1,h4⟩
 | .non,h=>exact h
 | .bl _,h=>exact h
 | .int _,h=>exact h
 | .str _,h=>exact h
 | .tup _,h=>exact h
theorem Kh.top (h:Kh C A W H (.d d) v m):JD C.K H (fun a=>¬ A a) d v:=by
 cases m with
 | pl=>exact Ji.top h
 | _=>exact Cell.top h
theorem dI (h:Mi o=some d):o=some (.d d):=by
 cases o with
 | some y23=>
  cases y23 with
  | d x=>cases h; rfl
  | _=>cases h
 | _=>cases h
theorem Kz.get (r:R C md A W ρ σ H) (h:Kz C A σ H o v) (e:res ρ o=some d):JD C.K H (fun a=>¬ A a) d v:=by
 cases o with
 | val d'=>cases e; exact Ji.top h
 | var i=>obtain ⟨v',e',h'⟩:=r.slot i (.d d) (dI e);have:some (some v)=some (some v'):=(show σ[i]?=some (some v) from h).symm.trans e';cases this;exact h'.top
theorem Kz.K6 (r:R C md A W ρ σ H) (h:Kz C A σ H o v) (e:K6 md ρ o=some d):Ji C.K H (fun a=>¬ A a) d v:=by
 cases o with
 | val d'=>cases e; exact h
 | var i=>
  unfold Mir.K6 at e;cases em:ai md i with
  | pl=>simp only [em] at e;obtain ⟨v',e',h'⟩:=r.slot i (.d d) (dI e);have:some (some v)=some (some v'):=(show σ[i]?=some (some v) from h).symm.trans e';cases this;rw [em] at h';exact h'
  | _=>
   simp only [em] at e;cases eu:Mi (look ρ i) with
   | none=>rw [eu] at e; cases e
   | some x=>
    rw [eu] at e;unfold cD at e;simp only at e;split at e
    ·cases e;rename_i hi;exact (Kz.get r h (show res ρ (.var i)=some d from eu)).imm hi
    ·cases e
abbrev ME:=En->Option (Op × En)
abbrev MT:=En->Option (Bool × En)
abbrev MA:=En->Option (List Op × En)
def LE (C:Cn) (md:List Md) (t:TE) (f:ME):Prop:=∀ (A W:Addr->Prop) (ρ:En) (σ:St) (H:Hp) (Q:VK) (o:Op) (ρ':En),R C md A W ρ σ H->f ρ=some (o,ρ') ->
 (∀ v H',Ext W H H'->R C md A W ρ' σ H'->Kz C A σ H' o v->Q v H')->t σ H Q
def LT (C:Cn) (md:List Md) (t:TT) (f:MT):Prop:=∀ (A W:Addr->Prop) (ρ:En) (σ:St) (H:Hp) (Q:Bool->Hp->Prop) (b:Bool) (ρ':En),R C md A W ρ σ H->f ρ=some (b,ρ') ->
 (∀ H',Ext W H H'->R C md A W ρ' σ H'->Q b H')->t σ H Q
def J3 (C:Cn) (A:Addr->Prop) (σ:St) (H:Hp):List Op->List V->Prop
 | [],vs=>vs=[]
 | o::os,vs=>∃ v r,vs=v::r/\Kz C A σ H o v/\J3 C A σ H os r
def LA (C:Cn) (md:List Md) (t:TA) (f:MA):Prop:=∀ (A W:Addr->Prop) (ρ:En) (σ:St) (H:Hp) (Q:List V->Hp->Prop) (os:List Op) (ρ':En),R C md A W ρ σ H->f ρ=some (os,ρ') ->
 (∀ vs H',Ext W H H'->R C md A W ρ' σ H'->J3 C A σ H' os vs->Q vs H')->t σ H Q
end Mir
namespace Mir
open L2
def ac (i:Nat):ME:=fun ρ=>match look ρ i with
 | some _=>some (.var i,ρ)
 | none=>none
def mC (d:D):ME:=fun ρ=>some (.val d,ρ)
def Jn (g:D->D->Option D) (fa fb:ME):ME:=fun ρ=>(fa ρ).bind fun x=>(fb x.2).bind fun y=>(res y.2 x.1).bind fun d=>(res y.2 y.1).bind fun e=>(g d e).bind fun u=>some (.val u,y.2)
def LQ (g:D->Option D) (fa:ME):ME:=fun ρ=>(fa ρ).bind fun x=>(res x.2 x.1).bind fun d=>(g d).bind fun u=>some (.val u,x.2)
def ah:MA:=fun ρ=>some ([],ρ)
def ad (fa:ME) (fr:MA):MA:=fun ρ=>(fa ρ).bind fun x=>(fr x.2).bind fun y=>some (x.1::y.1,y.2)
def dg (ρ:En):List Op->Option (List D)
 | []=>some []
 | o::os=>(res ρ o).bind fun d=>(dg ρ os).bind fun ds=>some (d::ds)
def JB (md:List Md) (ρ:En):List Op->Option (List D)
 | []=>some []
 | o::os=>(K6 md ρ o).bind fun d=>(JB md ρ os).bind fun ds=>some (d::ds)
def Kd (g:List D->Option D) (fa:MA):ME:=fun ρ=>(fa ρ).bind fun x=>(dg x.2 x.1).bind fun ds=>(g ds).bind fun u=>some (.val u,x.2)
def cE (md:List Md) (fa:MA):ME:=fun ρ=>(fa ρ).bind fun x=>(JB md x.2 x.1).bind fun ds=>if ds.length<=sizeLine then some (.val (.tup ds),x.2) else none
def fS (md:List Md) (fa:MA):ME:=fun ρ=>(fa ρ).bind fun x=>(JB md x.2 x.1).bind fun ds=>if ds.length<=sizeLine then some (.val (.lst ds),x.2) else none
def Ld:D->Option Bool
 | .bl b=>some b
 | _=>none
def mB (fa:ME):MT:=fun ρ=>(fa ρ).bind fun x=>(res x.2 x.1).bind fun d=>(Ld d).bind fun b=>some (b,x.2)
def pY (fa fb:MT):MT:=fun ρ=>(fa ρ).bind fun x=>if x.1=true then fb x.2 else some (false,x.2)
def Lq (fa fb:MT):MT:=fun ρ=>(fa ρ).bind fun x=>if x.1=true then some (true,x.2) else fb x.2
def eX (fa:MT):MT:=fun ρ=>(fa ρ).bind fun x=>some (!x.1,x.2)
def ml:MT:=fun ρ=>some (true,ρ)
def bz (fa fb:ME):ME:=fun ρ=>(fa ρ).bind fun x=>(res x.2 x.1).bind fun d=>(Ld d).bind fun b=>if b=true then fb x.2 else some (.val (.bl false),x.2)
def vV (fa fb:ME):ME:=fun ρ=>(fa ρ).bind fun x=>(res x.2 x.1).bind fun d=>(Ld d).bind fun b=>if b=true then some (.val (.bl true),x.2) else fb x.2
def kP (fa:ME):ME:=fun ρ=>(fa ρ).bind fun x=>(res x.2 x.1).bind fun d=>(Ld d).bind fun b=>some (.val (.bl (!b)),x.2)
def MC (c:MT) (fa fb:ME):ME:=fun ρ=>(c ρ).bind fun x=>if x.1=true then fa x.2 else fb x.2
def jp (g g':D->D->Option D) (fa fb fc:ME):ME:=fun ρ=>
 (fa ρ).bind fun x=>(fb x.2).bind fun y=>(res y.2 x.1).bind fun d=>(res y.2 y.1).bind fun e=>(g d e).bind fun u=>(Ld u).bind fun b=>if b=true then (fc y.2).bind fun z=>(res z.2 y.1).bind fun e=>(res z.2 z.1).bind fun h=>(g' e h).bind fun u=>some (.val u,z.2) else some (.val (.bl false),y.2)
def dh (g g' g'':D->D->Option D) (fa fb fc fd:ME):MT:=fun ρ=>
 (fa ρ).bind fun x=>(fb x.2).bind fun y=>(res y.2 x.1).bind fun d=>(res y.2 y.1).bind fun e=>(g d e).bind fun u=>(Ld u).bind fun b=>
  if b=true then (fc y.2).bind fun z=>(res z.2 y.1).bind fun e=>(res z.2 z.1).bind fun h=>(g' e h).bind fun u=>(Ld u).bind fun b=>if b=true then (fd z.2).bind fun w=>(res w.2 z.1).bind fun h=>(res w.2 w.1).bind fun k=>(g'' h k).bind fun u=>(Ld u).bind fun b=>some (b,w.2) else some (false,z.2)
  else some (false,y.2)
def KR (K:PySem.W.Frag) (r:R2) (g:D->D->Option D):Prop:=∀ (H:Hp) (ok:Addr->Prop) (x y:V) (d e u:D) (Q:VK),JD K H ok d x->JD K H ok e y->g d e=some u ->
 (∀ v H',Jo H H'->Ji K H' (fun a=>ok a∨H a=none) u v->Q v H')->r x y H Q
def UnA (K:PySem.W.Frag) (r:V->Hp->VK->Prop) (g:D->Option D):Prop:=∀ (H:Hp) (ok:Addr->Prop) (x:V) (d u:D) (Q:VK),JD K H ok d x->g d=some u ->
 (∀ v H',Jo H H'->Ji K H' (fun a=>ok a∨H a=none) u v->Q v H')->r x H Q
def KW (K:PySem.W.Frag) (H:Hp) (ok:Addr->Prop):List D->List V->Prop
 | [],vs=>vs=[]
 | d::ds,vs=>∃ v r,vs=v::r/\JD K H ok d v/\KW K H ok ds r
def Na (K:PySem.W.Frag) (r:List V->Hp->VK->Prop) (g:List D->Option D):Prop:=∀ (H:Hp) (ok:Addr->Prop) (vs:List V) (ds:List D) (u:D) (Q:VK),KW K H ok ds vs->g ds=some u ->
 (∀ v H',Jo H H'->Ji K H' (fun a=>ok a∨H a=none) u v->Q v H')->r vs H Q
theorem DN (i:Nat):LE C md (aS i) (ac i):=by
 intro A W ρ σ H Q o ρ' r e k;unfold ac at e;cases el:look ρ i with
 | none=>rw [el] at e; cases e
 | some s=>rw [el] at e; cases e;obtain ⟨v,ev,_⟩:=r.slot i s el;exact ⟨v,ev,k v H (Ext.refl _ _) r ev⟩
theorem vW (d:D) (h:∀ H ok,Ji C.K H ok d v):LE C md (tC v) (mC d):=by intro A W ρ σ H Q o ρ' r e k;cases e;exact k v H (Ext.refl _ _) r (h _ _)
theorem le_int:LE C md (tC (.int i)) (mC (.int i)):=vW _ fun _ _=>by rw [Ji]
theorem le_str:LE C md (tC (.str i)) (mC (.str i)):=vW _ fun _ _=>by rw [Ji]
theorem GQ:LE C md (tC (.bl i)) (mC (.bl i)):=vW _ fun _ _=>by rw [Ji]
theorem DO:LE C md (tC .non) (mC .non):=vW _ fun _ _=>by rw [Ji]
theorem fin (e:Ext W H H1) (r:R C md A W ρ σ H1) (s:Jo H1 H') (h:Ji C.K H' (fun a=>¬ A a∨H1 a=none) d v) :
 Ext W H H'/\R C md A W ρ σ H'/\Kz C A σ H' (.val d) v:=⟨e.trans (Jo.ext s),r.same s,r.LJ h⟩
theorem GR (h:KR C.K r g) (ha:LE C md ta fa) (hb:LE C md tb fb):LE C md (LF r ta tb) (Jn g fa fb):=by intro A W ρ σ H Q o ρ' r0 e k;unfold Jn at e;simp only [Z0] at e;obtain ⟨⟨o1,ρ1⟩,e1,⟨o2,ρ2⟩,e2,d,e3,c,e4,u,e5,e6⟩:=e;cases e6;refine ha A W ρ σ H _ o1 ρ1 r0 e1 fun v1 H1 x1 r1 p1=>?_;refine hb A W ρ1 σ H1 _ o2 ρ2 r1 e2 fun v2 H2 x2 r2 p2=>?_;refine h H2 _ v1 v2 d c u Q ((p1.Jp r1 x2).get r2 e3) (p2.get r2 e4) e5 fun v H' s q=>?_;obtain ⟨z1,z2,z3⟩:=fin (x1.trans x2) r2 s q;exact k v H' z1 z2 z3
theorem GS (h:UnA C.K r g) (ha:LE C md ta fa):LE C md (tUn r ta) (LQ g fa):=by intro A W ρ σ H Q o ρ' r0 e k;unfold LQ at e;simp only [Z0] at e;obtain ⟨⟨o1,ρ1⟩,e1,d,e3,u,e5,e6⟩:=e;cases e6;refine ha A W ρ σ H _ o1 ρ1 r0 e1 fun v1 H1 x1 r1 p1=>?_;refine h H1 _ v1 d u Q (p1.get r1 e3) e5 fun v H' s q=>?_;obtain ⟨z1,z2,z3⟩:=fin x1 r1 s q;exact k v H' z1 z2 z3
theorem DP:LA C md dB ah:=by intro A W ρ σ H Q os ρ' r0 e k;cases e;exact k [] H (Ext.refl _ _) r0 rfl
theorem zA (ha:LE C md ta fa) (hr:LA C md tr fr):LA C md (bS ta tr) (ad fa fr):=by intro A W ρ σ H Q os ρ' r0 e k;unfold ad at e;simp only [Z0] at e;obtain ⟨⟨o1,ρ1⟩,e1,⟨o2,ρ2⟩,e2,e6⟩:=e;cases e6;refine ha A W ρ σ H _ o1 ρ1 r0 e1 fun v1 H1 x1 r1 p1=>?_;refine hr A W ρ1 σ H1 _ o2 ρ2 r1 e2 fun v2 H2 x2 r2 p2=>?_;exact k _ _ (x1.trans x2) r2 ⟨v1,v2,rfl,p1.Jp r1 x2,p2⟩
theorem J3.get (r:R C md A W ρ σ H):∀ {os:List Op} {vs:List V} {ds:List D},J3 C A σ H os vs->dg ρ os=some ds->KW C.K H (fun a=>¬ A a) ds vs
 | [],vs,ds,h,e=>by cases e; exact h
 | o::os,vs,ds,h,e=>by
  obtain ⟨v,t,rfl,h1,h2⟩:=h;unfold dg at e;simp only [Z0] at e;obtain ⟨d,e1,ds',e2,e3⟩:=e;cases e3;exact ⟨v,t,rfl,h1.get r e1,J3.get r h2 e2⟩
theorem J3.JB (r:R C md A W ρ σ H):∀ {os:List Op} {vs:List V} {ds:List D},J3 C A σ H os vs->JB md ρ os=some ds->Jj C.K H (fun a=>¬ A a) ds vs
 | [],vs,ds,h,e=>by cases e; rw [show vs=[] from h]; exact .nil
 | o::os,vs,ds,h,e=>by
  obtain ⟨v,t,rfl,h1,h2⟩:=h;unfold Mir.JB at e;simp only [Z0] at e;obtain ⟨d,e1,ds',e2,e3⟩:=e;cases e3;exact .cons (h1.K6 r e1) (J3.JB r h2 e2)
theorem GT (h:Na C.K r g) (ha:LA C md ta fa):LE C md (N6 r ta) (Kd g fa):=by intro A W ρ σ H Q o ρ' r0 e k;unfold Kd at e;simp only [Z0] at e;obtain ⟨⟨o1,ρ1⟩,e1,ds,e3,u,e5,e6⟩:=e;cases e6;refine ha A W ρ σ H _ o1 ρ1 r0 e1 fun v1 H1 x1 r1 p1=>?_;refine h H1 _ v1 ds u Q (p1.get r1 e3) e5 fun v H' s q=>?_;obtain ⟨z1,z2,z3⟩:=fin x1 r1 s q;exact k v H' z1 z2 z3
theorem aw (hp:H p=none):Jo H (upd H p o):=fun b u e=>by rw [ar (av e hp)]; exact e
theorem DQ (ha:LA C md t fa):LE C md (u8 t) (cE md fa):=by
 intro A W ρ σ H Q o ρ' r0 e k;unfold cE at e;simp only [Z0] at e;obtain ⟨⟨o1,ρ1⟩,e1,ds,e3,e5⟩:=e;split at e5
 ·cases e5;rename_i hz;refine ha A W ρ σ H _ o1 ρ1 r0 e1 fun v1 H1 x1 r1 p1=>?_;have q:=p1.JB r1 e3;refine ⟨by rw [q.length]; exact hz,fun p hp=>?_⟩;have s:=aw (o:=.tup v1) hp;refine k _ _ (x1.trans (Jo.ext s)) (r1.same s) ?_;show Ji _ _ _ (.tup ds) _;rw [Ji];exact ⟨p,v1,rfl,aj,q.same s⟩
 ·cases e5
theorem DR (ha:LA C md t fa):LE C md (pI t) (fS md fa):=by
 intro A W ρ σ H Q o ρ' r0 e k;unfold fS at e;simp only [Z0] at e;obtain ⟨⟨o1,ρ1⟩,e1,ds,e3,e5⟩:=e;split at e5
 ·cases e5;rename_i hz;refine ha A W ρ σ H _ o1 ρ1 r0 e1 fun v1 H1 x1 r1 p1=>?_;have q:=p1.JB r1 e3;refine ⟨by rw [q.length]; exact hz,fun p hp=>?_⟩;have s:=aw (o:=.lst v1) hp;refine k _ _ (x1.trans (Jo.ext s)) (r1.same s) ?_;show Ji _ _ _ (.lst ds) _;rw [Ji];exact ⟨p,v1,rfl,aj,r1.fresh hp,q.same s⟩
 ·cases e5
theorem n5 (h:Ld d=some b):d=.bl b:=by cases d <;> first | (cases h; done) | (cases h; rfl)
theorem rB (r:R C md A W ρ σ H) (h:Kz C A σ H o v) (e:res ρ o=some d) (eb:Ld d=some b):v=.bl b:=by have z:=(h.get r e).rep;rw [n5 eb,Rep] at z;exact z
theorem GU (ha:LE C md ta fa):LT C md (tB ta) (mB fa):=by intro A W ρ σ H Q b ρ' r0 e k;unfold mB at e;simp only [Z0] at e;obtain ⟨⟨o1,ρ1⟩,e1,d,e3,b',e5,e6⟩:=e;cases e6;exact ha A W ρ σ H _ o1 ρ1 r0 e1 fun v1 H1 x1 r1 p1=>⟨b,rB r1 p1 e3 e5,k H1 x1 r1⟩
theorem DT:LT C md Gv ml:=by intro A W ρ σ H Q b ρ' r0 e k;cases e;exact k H (Ext.refl _ _) r0
theorem DU (ha:LT C md ta fa) (hb:LT C md tb fb):LT C md (F0 ta tb) (pY fa fb):=by
 intro A W ρ σ H Q b ρ' r0 e k;unfold pY at e;simp only [Z0] at e;obtain ⟨⟨b1,ρ1⟩,e1,e2⟩:=e;refine ha A W ρ σ H _ b1 ρ1 r0 e1 fun H1 x1 r1=>?_;cases b1 with
 | true=>exact iG (hb A W ρ1 σ H1 _ b ρ' r1 (by simpa using e2) fun H2 x2 r2=>k H2 (x1.trans x2) r2)
 | false=>simp at e2; obtain ⟨rfl,rfl⟩:=e2; exact iF (k H1 x1 r1)
theorem GV (ha:LT C md ta fa) (hb:LT C md tb fb):LT C md (tOr ta tb) (Lq fa fb):=by
 intro A W ρ σ H Q b ρ' r0 e k;unfold Lq at e;simp only [Z0] at e;obtain ⟨⟨b1,ρ1⟩,e1,e2⟩:=e;refine ha A W ρ σ H _ b1 ρ1 r0 e1 fun H1 x1 r1=>?_;cases b1 with
 | true=>simp at e2; obtain ⟨rfl,rfl⟩:=e2; exact iG (k H1 x1 r1)
 | false=>exact iF (hb A W ρ1 σ H1 _ b ρ' r1 (by simpa using e2) fun H2 x2 r2=>k H2 (x1.trans x2) r2)
theorem DV (ha:LT C md ta fa):LT C md (F1 ta) (eX fa):=by intro A W ρ σ H Q b ρ' r0 e k;unfold eX at e;simp only [Z0] at e;obtain ⟨⟨b1,ρ1⟩,e1,e2⟩:=e;cases e2;exact ha A W ρ σ H _ b1 ρ1 r0 e1 fun H1 x1 r1=>k H1 x1 r1
theorem zB (ha:LE C md ta fa) (hb:LE C md tb fb):LE C md (BT ta tb) (bz fa fb):=by
 intro A W ρ σ H Q o ρ' r0 e k;unfold bz at e;simp only [Z0] at e;obtain ⟨⟨o1,ρ1⟩,e1,d,e3,b,e5,e6⟩:=e;refine ha A W ρ σ H _ o1 ρ1 r0 e1 fun v1 H1 x1 r1 p1=>⟨b,rB r1 p1 e3 e5,?_⟩;cases b with
 | true=>exact iG (hb A W ρ1 σ H1 _ o ρ' r1 (by simpa using e6) fun v H2 x2 r2=>k v H2 (x1.trans x2) r2)
 | false=>simp at e6; obtain ⟨rfl,rfl⟩:=e6; exact iF (k _ H1 x1 r1 (by show Ji _ _ _ _ _; rw [Ji]))
theorem DW (ha:LE C md ta fa) (hb:LE C md tb fb):LE C md (F3 ta tb) (vV fa fb):=by
 intro A W ρ σ H Q o ρ' r0 e k;unfold vV at e;simp only [Z0] at e;obtain ⟨⟨o1,ρ1⟩,e1,d,e3,b,e5,e6⟩:=e;refine ha A W ρ σ H _ o1 ρ1 r0 e1 fun v1 H1 x1 r1 p1=>⟨b,rB r1 p1 e3 e5,?_⟩;cases b with
 | false=>exact iF (hb A W ρ1 σ H1 _ o ρ' r1 (by simpa using e6) fun v H2 x2 r2=>k v H2 (x1.trans x2) r2)
 | true=>simp at e6; obtain ⟨rfl,rfl⟩:=e6; exact iG (k _ H1 x1 r1 (by show Ji _ _ _ _ _; rw [Ji]))
theorem zC (ha:LE C md ta fa):LE C md (BU ta) (kP fa):=by intro A W ρ σ H Q o ρ' r0 e k;unfold kP at e;simp only [Z0] at e;obtain ⟨⟨o1,ρ1⟩,e1,d,e3,b,e5,e6⟩:=e;cases e6;exact ha A W ρ σ H _ o1 ρ1 r0 e1 fun v1 H1 x1 r1 p1=>⟨b,rB r1 p1 e3 e5,k _ H1 x1 r1 (by show Ji _ _ _ _ _; rw [Ji])⟩
theorem GW (hc:LT C md tc fc) (ha:LE C md ta fa) (hb:LE C md tb fb):LE C md (tIf tc ta tb) (MC fc fa fb):=by
 intro A W ρ σ H Q o ρ' r0 e k;unfold MC at e;simp only [Z0] at e;obtain ⟨⟨b1,ρ1⟩,e1,e2⟩:=e;refine hc A W ρ σ H _ b1 ρ1 r0 e1 fun H1 x1 r1=>?_;cases b1 with
 | true=>exact iG (ha A W ρ1 σ H1 _ o ρ' r1 (by simpa using e2) fun v H2 x2 r2=>k v H2 (x1.trans x2) r2)
 | false=>exact iF (hb A W ρ1 σ H1 _ o ρ' r1 (by simpa using e2) fun v H2 x2 r2=>k v H2 (x1.trans x2) r2)
theorem mt (h:Ji K H ok u v) (e:Ld u=some b):v=.bl b:=by rw [n5 e,Ji] at h; exact h
theorem vX (h:KR C.K r g) (h':KR C.K r' g') (ha:LE C md ta fa) (hb:LE C md tb fb) (hc:LE C md tc fc):LE C md (u4 r r' ta tb tc) (jp g g' fa fb fc):=by
 intro A W ρ σ H Q o ρ' r0 e k;unfold jp at e;simp only [Z0] at e;obtain ⟨⟨o1,ρ1⟩,e1,⟨o2,ρ2⟩,e2,d,e3,c,e4,u,e5,b,e6,e7⟩:=e;refine ha A W ρ σ H _ o1 ρ1 r0 e1 fun v1 H1 x1 r1 p1=>?_;refine hb A W ρ1 σ H1 _ o2 ρ2 r1 e2 fun v2 H2 x2 r2 p2=>?_;refine h H2 _ v1 v2 d c u _ ((p1.Jp r1 x2).get r2 e3) (p2.get r2 e4) e5 fun v H3 s q=>?_;refine ⟨b,mt q e6,?_⟩;have x3:Ext W H H3:=(x1.trans x2).trans (Jo.ext s);have r3:=r2.same s;cases b with
 | false=>simp at e7; obtain ⟨rfl,rfl⟩:=e7; exact iF (k _ H3 x3 r3 (by show Ji _ _ _ _ _; rw [Ji]))
 | true=>simp only [if_true,Z0] at e7;obtain ⟨⟨o3,ρ3⟩,f1,d',f2,e',f3,u',f4,f5⟩:=e7;cases f5;refine iG ?_;refine hc A W ρ2 σ H3 _ o3 _ r3 f1 fun v3 H4 x4 r4 p4=>?_;refine h' H4 _ v2 v3 d' e' u' _ (((p2.Jp r2 (Jo.ext s)).Jp r3 x4).get r4 f2) (p4.get r4 f3) f4 fun v H5 s5 q5=>?_;obtain ⟨z1,z2,z3⟩:=fin (x3.trans x4) r4 s5 q5;exact k v H5 z1 z2 z3
theorem kQ (h:KR C.K r g) (h':KR C.K r' g') (h'':KR C.K r'' g'') (ha:LE C md ta fa) (hb:LE C md tb fb) (hc:LE C md tc fc) (hd:LE C md td fd) :
 LT C md (l9 r r' r'' ta tb tc td) (dh g g' g'' fa fb fc fd):=by
 intro A W ρ σ H Q o ρ' r0 e k;unfold dh at e;simp only [Z0] at e;obtain ⟨⟨o1,ρ1⟩,e1,⟨o2,ρ2⟩,e2,d,e3,c,e4,u,e5,b,e6,e7⟩:=e;refine ha A W ρ σ H _ o1 ρ1 r0 e1 fun v1 H1 x1 r1 p1=>?_;refine hb A W ρ1 σ H1 _ o2 ρ2 r1 e2 fun v2 H2 x2 r2 p2=>?_;refine h H2 _ v1 v2 d c u _ ((p1.Jp r1 x2).get r2 e3) (p2.get r2 e4) e5 fun v H3 s q=>?_;refine ⟨b,mt q e6,?_⟩;have x3:Ext W H H3:=(x1.trans x2).trans (Jo.ext s);have r3:=r2.same s;cases b with
 | false=>simp at e7; obtain ⟨rfl,rfl⟩:=e7; exact iF (k H3 x3 r3)
 | true=>
  simp only [if_true,Z0] at e7;obtain ⟨⟨o3,ρ3⟩,f1,d',f2,e',f3,u',f4,b',f5,f6⟩:=e7;refine iG ?_;refine hc A W ρ2 σ H3 _ o3 ρ3 r3 f1 fun v3 H4 x4 r4 p4=>?_;refine h' H4 _ v2 v3 d' e' u' _ (((p2.Jp r2 (Jo.ext s)).Jp r3 x4).get r4 f2) (p4.get r4 f3) f4 fun v H5 s5 q5=>?_;refine ⟨b',mt q5 f5,?_⟩;have x5:Ext W H H5:=(x3.trans x4).trans (Jo.ext s5);have r5:=r4.same s5;cases b' with
  | false=>simp at f6; obtain ⟨rfl,rfl⟩:=f6; exact iF (k H5 x5 r5)
  | true=>simp only [if_true,Z0] at f6;obtain ⟨⟨o4,ρ4⟩,g1,d2,g2,e2',g3,u2,g4,b2,g5,g6⟩:=f6;cases g6;refine iG ?_;refine hd A W ρ3 σ H5 _ o4 _ r5 g1 fun v4 H6 x6 r6 p6=>?_;refine h'' H6 _ v3 v4 d2 e2' u2 _ (((p4.Jp r4 (Jo.ext s5)).Jp r5 x6).get r6 g2) (p6.get r6 g3) g4 fun v H7 s7 q7=>?_;exact ⟨_,mt q7 g5,k H7 ((x5.trans x6).trans (Jo.ext s7)) (r6.same s7)⟩
end Mir
namespace L2
open PySem.Spec PyProof.Rows
section
variable {K:PySem.W.Frag}
theorem Inv.NZ (I:Inv X pins σ H s) (hH:Rd H l (.lst xs)):xs.length<=sizeLine/\∃ (its:List Value) (n:Nat),Vals xs its/\xs.length=its.length/\s.heap.get? l=some { cls:=.type "list",data:=.seq its.toArray n }:=by obtain ⟨z,its,n,r,e⟩:=hH.ok I.hok;exact ⟨z,its,n,r,r.length,e⟩
def Cd:R2:=fun x y H Q=>∃ l b xs zs,x=.ref l/\y=.ref b/\Rd H l (.lst xs)/\Rd H b (.lst zs)/\xs.length+zs.length<=sizeLine/\∀ p,H p=none->Q (.ref p) (upd H p (.lst (xs++zs)))
theorem zD:JK X (binaryOp .Add) Cd:=by
 intro pins s σ H x y v u Q I rx ry h;obtain ⟨l,b,xs,zs,rfl,rfl,hH,hB,hz,q⟩:=h;cases rx;cases ry;obtain ⟨z,its,n,r,hl,e⟩:=I.NZ hH;obtain ⟨z2,its2,n2,r2,hl2,e2⟩:=I.NZ hB;refine PySem.P.add_list e e2 ?_ (by rw [Z4,Z4]; grind);have ea:its.toArray++its2.toArray=(its++its2).toArray:=by simp
 rw [ea];exact ⟨.ref _,_,I.N7 (t':=s.toks) (r.append r2) (by rw [LD]; exact hz),rfl,q _ I.fresh⟩
def Ce (K:PySem.W.Frag):R2:=fun x y H Q=>match x,y with
 | .int i,.int j=>Q (.int (i+j)) H
 | .int i,.bl k=>Q (.int (i+b2i k)) H
 | .str i,.str j=>i.length+j.length<=sizeLine/\Q (.str (i++j)) H
 | .ref a,.ref b=>vc K (.ref a) (.ref b) H Q∨Cd (.ref a) (.ref b) H Q
 | _,_=>False
theorem zE (kt:KT K) (hK:X.K=K:=by rfl):JK X (binaryOp .Add) (Ce K):=by
 subst hK;intro pins s σ H x y v u Q I rx ry h;cases x with
 | int i=>
  cases y with
  | int j=>exact iR pins s σ H _ _ v u Q I rx ry h
  | bl k=>exact iR pins s σ H _ _ v u Q I rx ry h
  | _=>exact False.elim h
 | str i=>
  cases y with
  | str j=>exact iR pins s σ H _ _ v u Q I rx ry h
  | _=>exact False.elim h
 | ref a=>
  cases y with
  | ref b=>
   rcases h with h | h
   ·exact iR pins s σ H _ _ v u Q I rx ry (.inl h)
   ·exact zD pins s σ H _ _ v u Q I rx ry h
  | _=>exact False.elim h
 | _=>exact False.elim h
end
end L2
namespace Mir
open PySem.Spec PyProof.Rows L2
def aZ:D->D->Option D
 | .int i,.int j=>some (.int (i+j))
 | .int i,.bl k=>some (.int (i+b2i k))
 | .str i,.str j=>if i.length+j.length<=sizeLine then some (.str (i++j)) else none
 | .tup (a::l),.tup m=>if l.length+1+m.length<=sizeLine then some (.tup (a::l++m)) else none
 | .lst l,.lst m=>if l.length+m.length<=sizeLine then some (.lst (l++m)) else none
 | _,_=>none
def kx:D->D->Option D
 | .int i,.int j=>some (.int (i - j))
 | _,_=>none
instance {i j:Int}:Decidable (Lh i j):=by unfold Lh; infer_instance
instance {j:Int}:Decidable (B4 j):=by unfold B4; infer_instance
instance {i j:Int}:Decidable (Ga i j):=by unfold Ga; infer_instance
def jq:D->D->Option D
 | .int i,.int j=>if 0 < j then some (.int (i % j)) else none
 | _,_=>none
def zF (p:Int->Int->Bool) (q:Str->Str->Bool):D->D->Option D
 | .int i,.int j=>some (.bl (p i j))
 | .str i,.str j=>some (.bl (q i j))
 | _,_=>none
def JG (n:Nat) (neg:Bool) (d e:D):Option D:=if D.depth d<=n then some (.bl (if neg then !D.eq d e else D.eq d e)) else none
def OO:D->Bool
 | .non=>true
 | _=>false
def ID:D->D->Option D
 | d,.non=>some (.bl (OO d))
 | _,_=>none
def GX:D->D->Option D
 | d,.non=>some (.bl (!OO d))
 | _,_=>none
def JC:D->D->Option D
 | .str z,.int i=>if z.length<=sizeLine then (Ku z.cps.toList i).map fun c=>.str ⟨#[c]⟩ else none
 | .tup l,.int i=>Ku l i
 | .lst l,.int i=>Ku l i
 | _,_=>none
def vY:D->Option (List D)
 | .tup l=>some l
 | .lst l=>some l
 | _=>none
def inD (n:Nat) (neg:Bool) (d e:D):Option D:=(vY e).bind fun l=>if D.Jz l<=n then some (.bl (if neg then !(l.any fun e=>D.eq e d) else l.any fun e=>D.eq e d)) else none
def dJ:D->Option D
 | .int i=>some (.int (-i))
 | _=>none
section
variable {K:PySem.W.Frag}
theorem JD.int_inv (h:JD K H ok (.int i) x):x=.int i:=by have z:Ji K H ok (.int i) x:=h; rw [Ji] at z; exact z
theorem JD.str_inv (h:JD K H ok (.str i) x):x=.str i:=by have z:Ji K H ok (.str i) x:=h; rw [Ji] at z; exact z
theorem JD.Ko (h:JD K H ok (.bl i) x):x=.bl i:=by have z:Ji K H ok (.bl i) x:=h; rw [Ji] at z; exact z
theorem JD.K1 (h:JD K H ok .non x):x=.non:=by have z:Ji K H ok .non x:=h; rw [Ji] at z; exact z
theorem JD.JJ (h:JD K H ok (.tup l) x):∃ a xs,x=.ref a/\JW K H a xs/\Jj K H ok l xs:=by have z:Ji K H ok (.tup l) x:=h; rw [Ji] at z; exact z
theorem JD.lst_inv (h:JD K H ok (.lst l) x):∃ a xs,x=.ref a/\H a=some (.lst xs)/\Jj K H ok l xs:=h
theorem ax:Ji K H ok (.int i) (.int i):=by rw [Ji]
theorem aW:Ji K H ok (.bl i) (.bl i):=by rw [Ji]
theorem cV:Ji K H ok (.str i) (.str i):=by rw [Ji]
theorem dL:Ji K H ok .non .non:=by rw [Ji]
end
section
variable {K:PySem.W.Frag}
theorem pC:KR K (Ce K) aZ:=by
 intro H ok x y d e u Q h1 h2 g k;cases d with
 | int i=>
  cases e with
  | int j=>cases g; obtain rfl:=h1.int_inv; obtain rfl:=h2.int_inv;exact k _ H (Jo.refl _) ax
  | bl j=>cases g; obtain rfl:=h1.int_inv; obtain rfl:=h2.Ko;exact k _ H (Jo.refl _) ax
  | _=>cases g
 | str i=>
  cases e with
  | str j=>
   obtain rfl:=h1.str_inv; obtain rfl:=h2.str_inv;replace g:(if i.length+j.length<=sizeLine then some (D.str (i++j)) else none)=some u:=g;split at g
   ·cases g; rename_i hz; exact ⟨hz,k _ H (Jo.refl _) cV⟩
   ·cases g
  | _=>cases g
 | tup y16=>
  cases y16 with
  | cons a l=>
   cases e with
   | tup m=>
    obtain ⟨p,xs,rfl,hp,rp⟩:=h1.JJ;obtain ⟨q,ys,rfl,hq,rq⟩:=h2.JJ;replace g:(if l.length+1+m.length<=sizeLine then some (D.tup (a::l++m)) else none)=some u:=g;split at g
    ·cases g;rename_i hz;have L1:=rp.length; have L2:=rq.length;rw [M8] at L1;refine .inl ⟨p,q,xs,ys,rfl,rfl,hp,hq,fun z=>by rw [z] at L1; simp at L1,by lia,fun z=>?_,fun _ t ht=>?_⟩
     ·subst z;have:m=[]:=by cases m with | nil=>rfl | cons _ _=>simp at L2
      subst this;refine k _ H (Jo.refl _) ?_;rw [Ma,Ji];exact ⟨p,xs,rfl,hp,rp.mono fun _ _ o _=>.inl o⟩
     ·have s:=aw (o:=.tup (xs++ys)) ht;refine k _ _ s ?_;rw [Ji];exact ⟨t,_,rfl,aj,((rp.append rq).same s).mono fun _ _ o _=>.inl o⟩
    ·cases g
   | _=>cases g
  | _=>cases g
 | lst l=>
  cases e with
  | lst m=>
   obtain ⟨p,xs,rfl,hp,rp⟩:=h1.lst_inv;obtain ⟨q,ys,rfl,hq,rq⟩:=h2.lst_inv;replace g:(if l.length+m.length<=sizeLine then some (D.lst (l++m)) else none)=some u:=g;split at g
   ·cases g;rename_i hz;have L1:=rp.length; have L2:=rq.length;refine .inr ⟨p,q,xs,ys,rfl,rfl,.inl hp,.inl hq,by grind,fun t ht=>?_⟩;have s:=aw (o:=.lst (xs++ys)) ht;refine k _ _ s ?_;rw [Ji];exact ⟨t,_,rfl,aj,.inr ht,((rp.append rq).same s).mono fun _ _ o _=>.inl o⟩
   ·cases g
  | _=>cases g
 | _=>cases g
theorem pD:KR K vD kx:=by
 intro H ok x y d e u Q h1 h2 g k;cases d with
 | int i=>
  cases e with
  | int j=>cases g; obtain rfl:=h1.int_inv; obtain rfl:=h2.int_inv;exact k _ H (Jo.refl _) ax
  | _=>cases g
 | _=>cases g
theorem pE:KR K vC jq:=by
 intro H ok x y d e u Q h1 h2 g k;cases d with
 | int i=>
  cases e with
  | int j=>
   obtain rfl:=h1.int_inv; obtain rfl:=h2.int_inv;replace g:(if 0 < j then some (D.int (i % j)) else none)=some u:=g;split at g
   ·cases g; rename_i hz; exact ⟨hz,k _ H (Jo.refl _) ax⟩
   ·cases g
  | _=>cases g
 | _=>cases g
theorem vZ:KR K (ic p q) (zF p q):=by
 intro H ok x y d e u Q h1 h2 g k;cases d with
 | int i=>
  cases e with
  | int j=>cases g; obtain rfl:=h1.int_inv; obtain rfl:=h2.int_inv;exact k _ H (Jo.refl _) aW
  | _=>cases g
 | str i=>
  cases e with
  | str j=>cases g; obtain rfl:=h1.str_inv; obtain rfl:=h2.str_inv;exact k _ H (Jo.refl _) aW
  | _=>cases g
 | _=>cases g
theorem n6 (h:Rep K H d x) (f:cg x=true):d=toD x:=by cases d <;> rw [Rep] at h <;> first | (subst h; rfl) | (obtain ⟨a,xs,rfl,_⟩:=h; cases f)
theorem GY:KR K (l7 K n neg) (Mir.JG n neg):=by
 intro H ok x y d e u Q h1 h2 g k;unfold Mir.JG at g;split at g
 ·cases g;rename_i hd;unfold l7;cases ef:cg x && cg y with
  | true=>rw [Lv] at ef;obtain rfl:=n6 h1.rep ef.1;obtain rfl:=n6 h2.rep ef.2;have z:=k _ H (Jo.refl _) aW;rw [pS ef.1 ef.2] at z;exact z
  | false=>exact ⟨d,e,h1.rep,h2.rep,hd,k _ H (Jo.refl _) aW⟩
 ·cases g
theorem rC (h:JD K H ok d x):decide (x=.non)=OO d:=by have z:=h.rep;cases d <;> rw [Rep] at z <;> first | (subst z; rfl) | (obtain ⟨a,xs,rfl,_⟩:=z; rfl)
theorem lY:KR K DC ID:=by
 intro H ok x y d e u Q h1 h2 g k;cases e with
 | non=>cases g;obtain rfl:=h2.K1;exact ⟨rfl,by rw [rC h1]; exact k _ H (Jo.refl _) aW⟩
 | _=>cases g
theorem iP:KR K vH GX:=by
 intro H ok x y d e u Q h1 h2 g k;cases e with
 | non=>cases g;obtain rfl:=h2.K1;exact ⟨rfl,by rw [rC h1]; exact k _ H (Jo.refl _) aW⟩
 | _=>cases g
theorem n9 (r:Jj K H ok l xs) (hd:Ku l i=some d):∃ x,Ku xs i=some x/\Ji K H ok d x:=by
 unfold Ku at hd ⊢;rw [r.length];cases e:Mh l.length i with
 | none=>rw [e] at hd; cases hd
 | some j=>rw [e] at hd;exact r.get (i:=j) hd
theorem GZ:KR K (zd K) JC:=by
 intro H ok x y d e u Q h1 h2 g k;cases d with
 | str z=>
  cases e with
  | int i=>
   obtain rfl:=h1.str_inv; obtain rfl:=h2.int_inv;replace g:(if z.length<=sizeLine then (Ku z.cps.toList i).map fun c=>D.str ⟨#[c]⟩ else none)=some u:=g;split at g
   ·rename_i hz;cases ea:Ku z.cps.toList i with
    | none=>rw [ea] at g; cases g
    | some c=>rw [ea] at g; cases g; exact ⟨hz,c,ea,k _ H (Jo.refl _) cV⟩
   ·cases g
  | _=>cases g
 | tup l=>
  cases e with
  | int i=>obtain rfl:=h2.int_inv;obtain ⟨p,xs,rfl,hp,rp⟩:=h1.JJ;obtain ⟨v,ev,rv⟩:=n9 rp g;exact ⟨xs,v,.inr hp,ev,k _ H (Jo.refl _) (rv.mono fun _ _ o _=>.inl o)⟩
  | _=>cases g
 | lst l=>
  cases e with
  | int i=>obtain rfl:=h2.int_inv;obtain ⟨p,xs,rfl,hp,rp⟩:=h1.lst_inv;obtain ⟨v,ev,rv⟩:=n9 rp g;exact ⟨xs,v,.inl (.inl (.inl hp)),ev,k _ H (Jo.refl _) (rv.mono fun _ _ o _=>.inl o)⟩
  | _=>cases g
 | _=>cases g
theorem tT (h:JD K H ok d x) (e:vY d=some l):∃ p xs,x=.ref p/\(J0 K H p xs∨JW K H p xs)/\Jj K H ok l xs:=by
 cases d with
 | tup l=>cases e;obtain ⟨p,xs,rfl,hp,rp⟩:=h.JJ;exact ⟨p,xs,rfl,.inr hp,rp⟩
 | lst l=>cases e;obtain ⟨p,xs,rfl,hp,rp⟩:=h.lst_inv;exact ⟨p,xs,rfl,.inl (.inl (.inl hp)),rp⟩
 | _=>cases e
theorem eY:KR K (Dv K n neg) (inD n neg):=by
 intro H ok x y d e u Q h1 h2 g k;unfold inD at g;simp only [Z0] at g;obtain ⟨l,e1,g⟩:=g;split at g
 ·cases g;rename_i hd;obtain ⟨p,xs,rfl,hp,rp⟩:=tT h2 e1;exact ⟨d,p,xs,l,rfl,hp,h1.rep,rp.Ks,hd,k _ H (Jo.refl _) aW⟩
 ·cases g
theorem pF:UnA K (rU fun i=>.int (-i)) dJ:=by
 intro H ok x d u Q h1 g k;cases d with
 | int i=>cases g; exact ⟨i,h1.int_inv,k _ H (Jo.refl _) ax⟩
 | _=>cases g
theorem KW.Jy (h:KW K H ok [d] vs):∃ v,vs=[v]/\JD K H ok d v:=by obtain ⟨v,r,rfl,h1,h2⟩:=h;cases (show r=[] from h2);exact ⟨v,rfl,h1⟩
def a7:List D->Option D
 | [.str z]=>if z.length<=sizeLine then some (.int z.length) else none
 | [.tup l]=>some (.int l.length)
 | [.lst l]=>some (.int l.length)
 | _=>none
theorem DX:Na K (tE K) a7:=by
 intro H ok vs ds u Q h g k;cases ds with
 | cons y17 y18=>
  cases y17 with
  | str z=>
   cases y18 with
   | nil=>
    obtain ⟨v,rfl,h1⟩:=h.Jy;obtain rfl:=h1.str_inv;replace g:(if z.length<=sizeLine then some (D.int z.length) else none)=some u:=g;split at g
    ·cases g; rename_i hz; exact DD hz (k _ H (Jo.refl _) ax)
    ·cases g
   | _=>cases g
  | tup l=>
   cases y18 with
   | nil=>cases g;obtain ⟨v,rfl,h1⟩:=h.Jy;obtain ⟨p,xs,rfl,hp,rp⟩:=h1.JJ;refine zl hp ?_;rw [rp.length];exact k _ H (Jo.refl _) ax
   | _=>cases g
  | lst l=>
   cases y18 with
   | nil=>cases g;obtain ⟨v,rfl,h1⟩:=h.Jy;obtain ⟨p,xs,rfl,hp,rp⟩:=h1.lst_inv;refine ⟨_,_,rfl,.inl ⟨xs,.inl (.inl hp),rfl⟩,?_⟩;rw [rp.length];exact k _ H (Jo.refl _) ax
   | _=>cases g
  | _=>cases g
 | _=>cases g
def ck:List D->Option (List Int)
 | []=>some []
 | .int i::r=>(ck r).map (i::·)
 | _=>none
theorem eL:∀ {l:List D} {ns:List Int},ck l=some ns->l=ns.map D.int
 | [],ns,h=>by cases h; rfl
 | .int i::r,ns,h=>by
  replace h:(ck r).map (i::·)=some ns:=h;cases e:ck r with
  | none=>rw [e] at h; cases h
  | some m=>rw [e] at h; cases h; simp [eL e]
theorem of (ns:List Int):ck (ns.map D.int)=some ns:=by
 induction ns with
 | nil=>rfl
 | cons a r ih=>rw [Z6,ck,ih]; rfl
theorem di:∀ {ns:List Int} {xs:List V},Jj K H ok (ns.map D.int) xs->xs=ns.map V.int
 | [],xs,h=>h.nil_inv
 | i::r,xs,h=>by
  obtain ⟨x,t,rfl,h1,h2⟩:=h.cons_inv;rw [Ji] at h1;rw [h1,di h2]; rfl
def zG:List D->Option D
 | [.lst l]=>(ck l).map fun ns=>.int ns.sum
 | _=>none
theorem DY:Na K (DB K) zG:=by
 intro H ok vs ds u Q h g k;cases ds with
 | cons y21 y22=>
  cases y21 with
  | lst l=>
   cases y22 with
   | nil=>
    obtain ⟨v,rfl,h1⟩:=h.Jy;obtain ⟨p,xs,rfl,hp,rp⟩:=h1.lst_inv;replace g:((ck l).map fun ns=>D.int ns.sum)=some u:=g;cases e:ck l with
    | none=>rw [e] at g; cases g
    | some ns=>rw [e] at g; cases g;rw [eL e] at rp;refine ⟨p,ns,rfl,.inl (.inl ?_),k _ H (Jo.refl _) ax⟩;rw [<- di rp];exact hp
   | _=>cases g
  | _=>cases g
 | _=>cases g
def pZ:List D->Option D
 | [.int i]=>some (.int i)
 | [.bl k]=>some (.int (if k then 1 else 0))
 | _=>none
theorem DZ:Na K B6 pZ:=by
 intro H ok vs ds u Q h g k;cases ds with
 | cons y23 y24=>
  cases y23 with
  | int i=>
   cases y24 with
   | nil=>cases g;obtain ⟨v,rfl,h1⟩:=h.Jy;obtain rfl:=h1.int_inv;exact .inl ⟨i,rfl,k _ H (Jo.refl _) ax⟩
   | _=>cases g
  | bl i=>
   cases y24 with
   | nil=>cases g;obtain ⟨v,rfl,h1⟩:=h.Jy;obtain rfl:=h1.Ko;exact .inr ⟨i,rfl,k _ H (Jo.refl _) ax⟩
   | _=>cases g
  | _=>cases g
 | _=>cases g
def Jg:List D->Option D
 | [.lst l]=>some (.lst l)
 | [.tup l]=>some (.lst l)
 | _=>none
def IE:List D->Option D
 | [.lst l]=>some (.tup l)
 | [.tup l]=>some (.tup l)
 | _=>none
theorem v5:Na K (l8 K) IE:=by
 intro H ok vs ds u Q h g k;cases ds with
 | cons y27 y28=>
  cases y27 with
  | lst l=>
   cases y28 with
   | nil=>cases g;obtain ⟨v,rfl,h1⟩:=h.Jy;obtain ⟨p,xs,rfl,hp,rp⟩:=h1.lst_inv;refine ⟨p,xs,rfl,.inl ⟨.inl (.inl hp),fun t ht=>?_⟩⟩;have s:=aw (o:=.tup xs) ht;refine k _ _ s ?_;rw [Ji];exact ⟨t,_,rfl,aj,(rp.same s).mono fun _ _ o _=>.inl o⟩
   | _=>cases g
  | tup l=>
   cases y28 with
   | nil=>cases g;obtain ⟨v,rfl,h1⟩:=h.Jy;obtain ⟨p,xs,rfl,hp,rp⟩:=h1.JJ;refine ⟨p,xs,rfl,.inr ⟨hp,?_⟩⟩;refine k _ H (Jo.refl _) ?_;rw [Ji];exact ⟨p,_,rfl,hp,rp.mono fun _ _ o _=>.inl o⟩
   | _=>cases g
  | _=>cases g
 | _=>cases g
def fT:D->String
 | .non=>"NoneType"
 | .bl _=>"bool"
 | .int _=>"int"
 | .str _=>"str"
 | .tup _=>"tuple"
 | .lst _=>"list"
theorem zH (h:JD K H ok d x):TyK K H x (fT d):=by
 have z:=h.rep;cases d <;> rw [Rep] at z
 case tup l=>obtain ⟨a,xs,rfl,h1,_⟩:=z; exact .inl ⟨rfl,xs,h1⟩
 case lst l=>obtain ⟨a,xs,rfl,h1,_⟩:=z; exact .inr ⟨rfl,xs,h1⟩
 all_goals (subst z; rfl)
def eZ:List D->Option (List Bool)
 | []=>some []
 | .bl i::r=>(eZ r).map (i::·)
 | _=>none
theorem kR:∀ {l:List D} {ns:List Bool},eZ l=some ns->l=ns.map D.bl
 | [],ns,h=>by cases h; rfl
 | .bl i::r,ns,h=>by
  replace h:(eZ r).map (i::·)=some ns:=h;cases e:eZ r with
  | none=>rw [e] at h; cases h
  | some m=>rw [e] at h; cases h; simp [kR e]
theorem v6 (ns:List Bool):eZ (ns.map D.bl)=some ns:=by
 induction ns with
 | nil=>rfl
 | cons a r ih=>rw [Z6,eZ,ih]; rfl
theorem ig:∀ {ns:List Bool} {xs:List V},Jj K H ok (ns.map D.bl) xs->xs=ns.map V.bl
 | [],xs,h=>h.nil_inv
 | i::r,xs,h=>by
  obtain ⟨x,t,rfl,h1,h2⟩:=h.cons_inv;rw [Ji] at h1;rw [h1,ig h2]; rfl
def v7:List D->Option D
 | [.lst l]=>(eZ l).map fun ns=>.bl (ns.all id)
 | _=>none
theorem D0:Na K (Gy K) v7:=by
 intro H ok vs ds u Q h g k;cases ds with
 | cons y29 y30=>
  cases y29 with
  | lst l=>
   cases y30 with
   | nil=>
    obtain ⟨v,rfl,h1⟩:=h.Jy;obtain ⟨p,xs,rfl,hp,rp⟩:=h1.lst_inv;replace g:((eZ l).map fun ns=>D.bl (ns.all id))=some u:=g;cases e:eZ l with
    | none=>rw [e] at g; cases g
    | some ns=>rw [e] at g; cases g;rw [kR e] at rp;refine ⟨p,ns,rfl,.inl (.inl ?_),k _ H (Jo.refl _) aW⟩;rw [<- ig rp];exact hp
   | _=>cases g
  | _=>cases g
 | _=>cases g
end
def fU (c:String) (fa:ME):ME:=fun ρ=>(fa ρ).bind fun x=>(res x.2 x.1).bind fun d=>some (.val (.bl (kw (fT d) c)),x.2)
theorem D1 (hc:c ∈ ["bool","int","str","list","tuple"]) (ha:LE C md ta fa):LE C md (N6 (vG C.K) (bS ta (bS (tC (V.ty c)) dB))) (fU c fa):=by intro A W ρ σ H Q o ρ' r0 e k;unfold fU at e;simp only [Z0] at e;obtain ⟨⟨o1,ρ1⟩,e1,d,e3,e6⟩:=e;cases e6;refine ha A W ρ σ H _ o1 ρ1 r0 e1 fun v1 H1 x1 r1 p1=>?_;exact ⟨v1,c,fT d,rfl,zH (p1.get r1 e3),hc,k _ H1 x1 r1 (show Ji _ _ _ _ _ from aW)⟩
def Fix (fx:Nat->Prop) (σ σ':L2.St):Prop:=∀ j,fx j->σ'[j]?=σ[j]?
theorem Fix.refl (fx:Nat->Prop) (σ:L2.St):Fix fx σ σ:=fun _ _=>rfl
theorem Fix.trans (h:Fix fx a b) (h':Fix fx b c):Fix fx a c:=fun j f=>(h' j f).trans (h j f)
def dD (md:List Md) (j:Nat):Prop:=ai md j=.lk∨ai md j=.io
structure Gr (A W:Addr->Prop) (H:Hp) (A' W':Addr->Prop) (H':Hp):Prop where
 an:∀ a,A' a->A a∨H a=none
 wn:∀ a,W' a->W a∨H a=none
 ext:Ext W H H'
section
variable {σ σ':L2.St}
theorem Gr.refl (A W:Addr->Prop) (H:Hp):Gr A W H A W H:=⟨fun _ h=>.inl h,fun _ h=>.inl h,Ext.refl _ _⟩
theorem Gr.JM (e:Ext W H H'):Gr A W H A W H':=⟨fun _ h=>.inl h,fun _ h=>.inl h,e⟩
theorem Gr.back (g:Gr A W H A' W' H') (wa:∀ a,W a->A a) {a:Addr} (h:H' a=none):A a∨H a=none:=by
 cases e:H a with
 | none=>exact .inr rfl
 | some o=>
  by_cases w:W a
  ·exact .inl (wa a w)
  ·rw [g.ext a o w e] at h; cases h
theorem Gr.trans (g:Gr A W H A' W' H') (wk:∀ a,W a->A a) (mw:∀ a,W a->True) (g':Gr A' W' H' A'' W'' H''):Gr A W H A'' W'' H'' where
 an:=fun a h=>by
  rcases g'.an a h with h | h
  ·exact g.an a h
  ·exact g.back wk h
 wn:=fun a h=>by
  rcases g'.wn a h with h | h
  ·exact g.wn a h
  ·cases e:H a with
   | none=>exact .inr rfl
   | some o=>
    by_cases w:W a
    ·exact .inl w
    ·rw [g.ext a o w e] at h; cases h
 ext:=fun b o n h=>by
  refine g'.ext b o (fun w=>?_) (g.ext b o n h);rcases g.wn b w with z | z
  ·exact n z
  ·rw [z] at h; cases h
theorem aC (h:i ≠ j):(σ.set i x)[j]?=σ[j]?:=by rw [Yp h]
theorem aR (h:i < σ.length):(σ.set i x)[i]?=some x:=by rw [Yu h]
theorem R.Nj (r:R C md A W ρ σ H) {i:Nat} (hm:ai md i=.pl) {d:D} {v:V} (h:Ji C.K H (fun b=>¬ A b) d v):R C md A W (ρ.set i (some (.d d))) (σ.set i (some v)) H where
 len:=by rw [K9,K9]; exact r.len
 wa:=r.wa
 ak:=r.ak
 base:=r.base
 wf:=r.wf
 ma:=r.ma
 fo:=r.fo
 slot:=fun j s e=>by
  by_cases hij:i=j
  ·subst hij;have hl:=aV e;rw [K9] at hl;rw [aY hl] at e;cases e;refine ⟨v,aR (by rw [r.len]; exact hl),?_⟩;rw [hm];exact h
  ·rw [au hij] at e;obtain ⟨w,e1,h1⟩:=r.slot j s e;exact ⟨w,by rw [aC hij]; exact e1,h1⟩
 inj:=fun j k s s' a hjk m1 m2 e1 e2 i1 i2 l1 l2=>by
  have n1:i ≠ j:=fun z=>m1 (by rw [<- z]; exact hm);have n2:i ≠ k:=fun z=>m2 (by rw [<- z]; exact hm);rw [au n1] at e1;rw [au n2] at e2;rw [aC n1] at l1;rw [aC n2] at l2;exact r.inj j k s s' a hjk m1 m2 e1 e2 i1 i2 l1 l2
theorem Cell.at {K:PySem.W.Frag} {ok okq:Addr->Prop} {s:S} {a:Addr} (i:Ln s=true) (h:Cell K A H ok okq s (.ref a)):jo (H a)/\A a/\ok a:=by
 match s,h with
 | .d (.lst l),h=>obtain ⟨b,xs,e,h1,h2,h3,h4⟩:=h;cases e;exact ⟨.inl ⟨xs,h1⟩,h2,h3⟩
 | .pot ns i r m,h=>obtain ⟨p,q,e,h1,h2,h3,h4,_⟩:=h;cases e;exact ⟨.inl ⟨_,h1⟩,h3,h4⟩
 | .d .non,h=>cases i
 | .d (.bl _),h=>cases i
 | .d (.int _),h=>cases i
 | .d (.str _),h=>cases i
 | .d (.tup _),h=>cases i
 | .dc kvs,h=>obtain ⟨b,ws,e,h1,h2,h3,h4⟩:=h;cases e;exact ⟨.inr (.inl ⟨ws,h1⟩),h2,h3⟩
 | .dk kvs,h=>obtain ⟨b,ws,e,h1,h2,h3,h4⟩:=h;cases e;exact ⟨.inr (.inr (.inl ⟨ws,h1⟩)),h2,h3⟩
 | .dm kvs,h=>obtain ⟨b,ws,e,⟨o,h1⟩,h2,h3,h4⟩:=h;cases e;exact ⟨.inr (.inr (.inr ⟨_,h1⟩)),h2,h3⟩
 | .dn _,h=>exact h.elim
 | .scr _,h=>exact h.elim
theorem Kh.at (hm:m ≠ .pl) (i:Ln s=true) (h:Kh C A W H s (.ref a) m):jo (H a)/\A a:=by
 cases m with
 | pl=>exact absurd rfl hm
 | _=>exact ⟨(Cell.at i h).1,(Cell.at i h).2.1⟩
theorem Cell.grow {K:PySem.W.Frag} {ok ok' okq:Addr->Prop} {s:S} {v:V} (s1:Jo H H') (ha:∀ a,A a->A' a) (hn:∀ a,A' a->A a∨H a=none) (hok:∀ a,H a ≠ none->ok a->ok' a)
 (h:Cell K A H ok okq s v):Cell K A' H' ok' okq s v:=by
 have P:∀ {d:D} {v:V},Ji K H (fun b=>¬ A b) d v->Ji K H' (fun b=>¬ A' b) d v:=fun h=>(h.Jp (My.aF s1) fun a xs o z=>⟨s1 _ _ z,fun w=>by
  rcases hn a w with y | y
  ·exact o y
  ·rw [y] at z; cases z⟩)
 have PL:∀ {d:List D} {v:List V},Jj K H (fun b=>¬ A b) d v->Jj K H' (fun b=>¬ A' b) d v:=fun h=>(h.Jp (My.aF s1) fun a xs o z=>⟨s1 _ _ z,fun w=>by
  rcases hn a w with y | y
  ·exact o y
  ·rw [y] at z; cases z⟩)
 cases s with
 | d y37=>
  cases y37 with
  | lst l=>obtain ⟨a,xs,e,h1,h2,h3,h4⟩:=h;exact ⟨a,xs,e,s1 _ _ h1,ha _ h2,hok a (by rw [h1]; simp) h3,PL h4⟩
  | _=>exact P h
 | pot ns i r m=>
  obtain ⟨p,q,e,h1,h2,h3,h4,h5,h6⟩:=h;refine ⟨p,q,e,s1 _ _ h1,s1 _ _ h2,ha _ h3,hok p (by rw [h1]; simp) h4,fun z=>?_,h6⟩;rcases hn q z with y | y
  ·exact h5 y
  ·rw [h2] at y; cases y
 | dc kvs=>obtain ⟨a,ws,e,h1,h2,h3,h4,h5⟩:=h;exact ⟨a,ws,e,s1 _ _ h1,ha _ h2,hok a (by rw [h1]; simp) h3,h4,PL h5⟩
 | dk kvs=>obtain ⟨a,ws,e,h1,h2,h3,h4,h5⟩:=h;exact ⟨a,ws,e,s1 _ _ h1,ha _ h2,hok a (by rw [h1]; simp) h3,h4,PL h5⟩
 | dm kvs=>
  obtain ⟨a,ws,e,⟨o,h1⟩,h2,h3,h4⟩:=h;exact ⟨a,ws,e,⟨o,s1 _ _ h1⟩,ha _ h2,hok a (by rw [h1]; simp) h3,h4.Jp (My.aF s1) fun a xs o z=>⟨s1 _ _ z,fun w=>by
   rcases hn a w with y | y
   ·exact o y
   ·rw [y] at z; cases z⟩⟩
 | _=>exact h.elim
def Cf (K:PySem.W.Frag) (A:Addr->Prop) (H1:Hp) (a:Addr) (H':Hp):S->Prop
 | .d (.lst l)=>∃ xs,H' a=some (.lst xs)/\Jj K H' (fun b=>¬ A b/\b ≠ a) l xs
 | .pot ns i r m=>∃ q,H1 q=none/\q ≠ a/\H' a=some (.lst [.ref q,.int i,.int r,.int m])/\H' q=some (.lst (ns.map V.int))
 | .dm kvs=>∃ ws,(∃ o,H' a=some (.ext (J4 a o ws)))/\JR K H' (fun b=>¬ A b/\b ≠ a) kvs ws
 | .dk kvs=>∃ ws,H' a=some (.dK ws)/\Jt K H' (fun b=>¬ A b/\b ≠ a) kvs ws
 | .dc kvs=>∃ ws,H' a=some (.dT ws)/\Jt K H' (fun b=>¬ A b/\b ≠ a) kvs ws
 | _=>False
theorem R.h0 (r:R C md A W ρ σ H) {a:Addr} (h:H a=none):C.H0 a=none:=by
 cases e:C.H0 a with
 | none=>rfl
 | some o=>
  by_cases m:C.M a
  ·exact absurd (r.ma a m) (r.fresh h)
  ·rw [r.base a o e m] at h; cases h
theorem R.N3 (r:R C md A W ρ σ H) {i:Nat} (hm:ai md i=.ow) {s:S} {a:Addr} (ha:H a=none) (s1:Jo H H') (n:Cf C.K A H a H' s) :
 ∃ A' W',Gr A W H A' W' H'/\R C md A' W' (ρ.set i (some s)) (σ.set i (some (.ref a))) H':=by
 obtain ⟨B,hB,hBa,hBn,hBk,hcell⟩:∃ B:Addr->Prop,(∀ b,B b->H b=none)/\B a/\(∀ b,B b->jo (H' b))/\True/\∀ ok:Addr->Prop,ok a->Cell C.K (fun b=>A b∨B b) H' ok (fun _=>True) s (.ref a):=by
  match s,n with
  | .d (.lst l),⟨xs,h1,h2⟩=>
   refine ⟨fun b=>b=a,fun b e=>by rw [e]; exact ha,rfl,fun b e=>.inl ⟨xs,by rw [e]; exact h1⟩,trivial,fun ok hok=>⟨a,xs,rfl,h1,.inr rfl,hok,h2.mono fun b _ o _ z=>?_⟩⟩;rcases z with z | z
   ·exact o.1 z
   ·exact o.2 z
  | .pot ns i r' m,⟨q,hq,hqa,h1,h2⟩=>
   refine ⟨fun b=>b=a,fun b e=>by rw [e]; exact ha,rfl,fun b e=>.inl ⟨_,(show H' b=_ from (Y9 H' e).trans h1)⟩,trivial,fun ok hok=>⟨a,q,rfl,h1,h2,.inr rfl,hok,fun z=>?_,trivial⟩⟩;rcases z with z | z
   ·exact r.fresh hq z
   ·exact hqa z
  | .dc kvs,⟨ws,h1,h2,h3⟩=>
   refine ⟨fun b=>b=a,fun b e=>by rw [e]; exact ha,rfl,fun b e=>.inr (.inl ⟨ws,by rw [e]; exact h1⟩),trivial,fun ok hok=>⟨a,ws,rfl,h1,.inr rfl,hok,h2,h3.mono fun b _ o _ z=>?_⟩⟩;rcases z with z | z
   ·exact o.1 z
   ·exact o.2 z
  | .dm kvs,⟨ws,⟨o,h1⟩,h2⟩=>
   refine ⟨fun b=>b=a,fun b e=>by rw [e]; exact ha,rfl,fun b e=>.inr (.inr (.inr ⟨_,(Y9 H' (show b=a from e)).trans h1⟩)),trivial,fun ok hok=>⟨a,ws,rfl,⟨o,h1⟩,.inr rfl,hok,h2.mono fun b _ o _ z=>?_⟩⟩;rcases z with z | z
   ·exact o.1 z
   ·exact o.2 z
  | .dk kvs,⟨ws,h1,h2,h3⟩=>
   refine ⟨fun b=>b=a,fun b e=>by rw [e]; exact ha,rfl,fun b e=>.inr (.inr (.inl ⟨ws,by rw [e]; exact h1⟩)),trivial,fun ok hok=>⟨a,ws,rfl,h1,.inr rfl,hok,h2,h3.mono fun b _ o _ z=>?_⟩⟩;rcases z with z | z
   ·exact o.1 z
   ·exact o.2 z
 refine ⟨fun b=>A b∨B b,fun b=>W b∨b=a,⟨fun b h=>h.imp id (hB b),fun b h=>h.imp id fun e=>by rw [e]; exact ha,Jo.ext s1⟩,?_⟩;have other:∀ j t,i ≠ j->look ρ j=some t->∃ v,σ[j]?=some (some v)/\Kh C (fun b=>A b∨B b) (fun b=>W b∨b=a) H' t v (ai md j):=fun j t hij e=>by
  obtain ⟨w,e1,h1⟩:=r.slot j t e;refine ⟨w,e1,?_⟩;have hn:∀ b,(A b∨B b)->A b∨H b=none:=fun b h=>h.imp id (hB b);have hw:∀ b,(W b∨b=a)->W b∨H b=none:=fun b h=>h.imp id fun e=>by rw [e]; exact ha
  cases em:ai md j with
  | pl=>
   rw [em] at h1;cases t with
   | scr ns=>obtain ⟨a,z,h1⟩:=h1; exact ⟨a,z,h1.same s1⟩
   | dc kvs=>
    obtain ⟨c,ws,z,h1,h2,h3,h4⟩:=h1;refine ⟨c,ws,z,s1 _ _ h1,fun w=>?_,h3,Jj.Jp (My.aF s1) (fun b xs o z=>⟨s1 _ _ z,fun w=>?_⟩) h4⟩
    ·rcases hn c w with y | y
     ·exact h2 y
     ·rw [y] at h1; cases h1
    ·rcases hn b w with y | y
     ·exact o y
     ·rw [y] at z; cases z
   | dn kvs=>
    obtain ⟨c,ws,z,⟨o,h1⟩,h2,h3⟩:=h1;refine ⟨c,ws,z,⟨o,s1 _ _ h1⟩,fun w=>?_,h3.Jp (My.aF s1) fun b xs o z=>⟨s1 _ _ z,fun w=>?_⟩⟩
    ·rcases hn c w with y | y
     ·exact h2 y
     ·rw [y] at h1; cases h1
    ·rcases hn b w with y | y
     ·exact o y
     ·rw [y] at z; cases z
   | d x=>
    refine Ji.Jp (My.aF s1) (fun b xs o z=>⟨s1 _ _ z,fun w=>?_⟩) h1;rcases hn b w with y | y
    ·exact o y
    ·rw [y] at z; cases z
   | _=>cases h1
  | lk=>
   rw [em] at h1;refine Cell.grow s1 (fun b h=>.inl h) hn (fun b nn h z=>?_) h1;rcases hw b z with y | y
   ·exact h y
   ·exact nn y
  | _=>rw [em] at h1; exact Cell.grow s1 (fun b h=>.inl h) hn (fun b _ h=>⟨.inl h.1,h.2⟩) h1
 exact {
  len:=by rw [K9,K9]; exact r.len
  wa:=fun b h=>h.imp (r.wa b) fun e=>by rw [e]; exact hBa
  ak:=fun b h=>by
   rcases h with h | h
   ·exact (r.ak b h).imp (fun ⟨xs,e⟩=>⟨xs,s1 _ _ e⟩) (fun z=>z.imp (fun ⟨xs,e⟩=>⟨xs,s1 _ _ e⟩) (fun z=>z.imp (fun ⟨xs,e⟩=>⟨xs,s1 _ _ e⟩) (fun ⟨xs,e⟩=>⟨xs,s1 _ _ e⟩)))
   ·exact hBn b h
  base:=fun b o h1 h2=>s1 _ _ (r.base b o h1 h2)
  wf:=fun b h=>by
   rcases h with h | h
   ·exact r.wf b h
   ·rw [h]; exact .inl (r.h0 ha)
  ma:=fun b h=>.inl (r.ma b h)
  fo:=fun hf b xs h n=>.inl (r.fo hf b xs h n)
  slot:=fun j t e=>by
   by_cases hij:i=j
   ·subst hij;have hl:=aV e;rw [K9] at hl;rw [aY hl] at e;cases e;refine ⟨.ref a,aR (by rw [r.len]; exact hl),?_⟩;rw [hm];exact hcell _ ⟨.inr rfl,r.h0 ha⟩
   ·rw [au hij] at e;obtain ⟨w,e1,h1⟩:=other j t hij e;exact ⟨w,by rw [aC hij]; exact e1,h1⟩
  inj:=fun j k t t' b hjk m1 m2 e1 e2 i1 i2 l1 l2=>by
   have no:∀ j t,i ≠ j->ai md j ≠ .pl->look ρ j=some t->Ln t=true->σ[j]?=some (some (.ref a))->False:=fun j t hij mj ej ij lj=>by
    obtain ⟨w,e1,h1⟩:=r.slot j t ej;rw [lj] at e1; cases e1;rcases (Kh.at mj ij h1).1 with ⟨xs,z⟩ | ⟨xs,z⟩ | ⟨xs,z⟩ | ⟨xs,z⟩ <;> (rw [ha] at z; cases z)
   have hilt:i < σ.length∨¬ i < σ.length:=Nat.lt_or_ge i σ.length |>.imp id fun h=>by lia
   by_cases n1:i=j
   ·subst n1;have hl:=aV e1;rw [K9] at hl;rw [aR (by rw [r.len]; exact hl)] at l1;cases l1;rw [au hjk] at e2;rw [aC hjk] at l2;exact no k t' hjk m2 e2 i2 l2
   ·by_cases n2:i=k
    ·subst n2;have hl:=aV e2;rw [K9] at hl;rw [aR (by rw [r.len]; exact hl)] at l2;cases l2;rw [au n1] at e1;rw [aC n1] at l1;exact no j t n1 m1 e1 i1 l1
    ·rw [au n1] at e1;rw [au n2] at e2;rw [aC n1] at l1;rw [aC n2] at l2;exact r.inj j k t t' b hjk m1 m2 e1 e2 i1 i2 l1 l2 }
theorem R.write (r:R C md A W ρ σ H) {i:Nat} (hm:ai md i=.ow∨ai md i=.io) {s s':S} {a:Addr} (e:look ρ i=some s) (is:Ln s=true) (is':Ln s'=true) (ev:σ[i]?=some (some (.ref a))) (b:Oz a H H') (ha:jo (H' a))
 (n:∀ ok okq:Addr->Prop,ok a->A a->W a->(∀ d v,Ji C.K H (fun b=>¬ A b) d v->Ji C.K H' (fun b=>¬ A b) d v)->Cell C.K A H ok okq s (.ref a)->Cell C.K A H' ok okq s' (.ref a)) :
 Ext W H H'/\R C md A W (ρ.set i (some s')) σ H':=by
 obtain ⟨w,e1,h1⟩:=r.slot i s e;rw [ev] at e1; cases e1;have wa:W a/\A a:=by rcases hm with hm | hm <;> (rw [hm] at h1; exact ⟨(Cell.at is h1).2.2.1,(Cell.at is h1).2.1⟩)
 have ex:Ext W H H':=fun c o nc h=>b c o (fun z=>nc (by rw [z]; exact wa.1)) h;have stP:∀ d v,Ji C.K H (fun b=>¬ A b) d v->Ji C.K H' (fun b=>¬ A b) d v:=fun d v h=>r.KU ex h;have stPL:∀ d v,Jj C.K H (fun b=>¬ A b) d v->Jj C.K H' (fun b=>¬ A b) d v:=fun d v h=>r.JT ex h;have hil:=aV e;refine ⟨ex,{ len:=by rw [K9]; exact r.len,wa:=r.wa,ak:=fun c h=>?_,base:=fun c o h1 h2=>?_,wf:=r.wf,ma:=r.ma,fo:=r.fo,slot:=fun j t ej=>?_,inj:=fun j k t t' c hjk m1 m2 e1 e2 i1 i2 l1 l2=>?_ }⟩
 ·by_cases hc:c=a
  ·rw [hc]; exact ha
  ·exact (r.ak c h).imp (fun ⟨xs,z⟩=>⟨xs,b c _ hc z⟩) (fun z=>z.imp (fun ⟨xs,z⟩=>⟨xs,b c _ hc z⟩) (fun z=>z.imp (fun ⟨xs,z⟩=>⟨xs,b c _ hc z⟩) (fun ⟨xs,z⟩=>⟨xs,b c _ hc z⟩)))
 ·refine b c o (fun z=>?_) (r.base c o h1 h2);rcases r.wf a wa.1 with y | y
  ·rw [z,y] at h1; cases h1
  ·exact h2 (by rw [z]; exact y)
 ·by_cases hij:i=j
  ·subst hij;rw [aY hil] at ej;cases ej;refine ⟨.ref a,ev,?_⟩;rcases hm with hm | hm
   ·rw [hm] at h1 ⊢;exact n _ _ (Cell.at is h1).2.2 wa.2 wa.1 stP h1
   ·rw [hm] at h1 ⊢;exact n _ _ (Cell.at is h1).2.2 wa.2 wa.1 stP h1
  ·rw [au hij] at ej;obtain ⟨w,e1,h2⟩:=r.slot j t ej;refine ⟨w,e1,?_⟩;have keep:∀ c xs,c ≠ a->H c=some (HO.lst xs)->H' c=some (HO.lst xs):=fun c xs hc h=>b c _ hc h;have cell:∀ ok okq:Addr->Prop,ai md j ≠ .pl->Cell C.K A H ok okq t w->Cell C.K A H' ok okq t w:=fun ok okq mj h=>by
    cases t with
    | d y43=>
     cases y43 with
     | lst l=>obtain ⟨c,xs,rfl,g1,g2,g3,g4⟩:=h;refine ⟨c,xs,rfl,keep c xs (fun z=>?_) g1,g2,g3,stPL _ _ g4⟩;subst z;exact r.inj i j s _ c hij (by rcases hm with hm | hm <;> (rw [hm]; simp)) mj e ej is rfl ev e1
     | _=>exact stP _ _ h
    | pot ns i' r' m=>obtain ⟨p,q,rfl,g1,g2,g3,g4,g5,g6⟩:=h;refine ⟨p,q,rfl,keep p _ (fun z=>?_) g1,keep q _ (fun z=>g5 (by rw [z]; exact wa.2)) g2,g3,g4,g5,g6⟩;subst z;exact r.inj i j s _ p hij (by rcases hm with hm | hm <;> (rw [hm]; simp)) mj e ej is rfl ev e1
    | dc kvs=>obtain ⟨c,ws,rfl,g1,g2,g3,g4,g5⟩:=h;refine ⟨c,ws,rfl,b c _ (fun z=>?_) g1,g2,g3,g4,stPL _ _ g5⟩;subst z;exact r.inj i j s _ c hij (by rcases hm with hm | hm <;> (rw [hm]; simp)) mj e ej is rfl ev e1
    | dk kvs=>obtain ⟨c,ws,rfl,g1,g2,g3,g4,g5⟩:=h;refine ⟨c,ws,rfl,b c _ (fun z=>?_) g1,g2,g3,g4,stPL _ _ g5⟩;subst z;exact r.inj i j s _ c hij (by rcases hm with hm | hm <;> (rw [hm]; simp)) mj e ej is rfl ev e1
    | dm kvs=>obtain ⟨c,ws,rfl,⟨o,g1⟩,g2,g3,g4⟩:=h;refine ⟨c,ws,rfl,⟨o,b c _ (fun z=>?_) g1⟩,g2,g3,r.Lx ex g4⟩;subst z;exact r.inj i j s _ c hij (by rcases hm with hm | hm <;> (rw [hm]; simp)) mj e ej is rfl ev e1
    | _=>exact h.elim
   cases em:ai md j with
   | pl=>
    rw [em] at h2;cases t with
    | d x=>exact stP _ _ h2
    | scr ns=>obtain ⟨a,z,h2⟩:=h2; exact ⟨a,z,h2.ext ex r.wk⟩
    | dc kvs=>obtain ⟨c,ws,z,g1,g2,g3,g4⟩:=h2;exact ⟨c,ws,z,ex c _ (fun w=>g2 (r.wa c w)) g1,g2,g3,stPL _ _ g4⟩
    | dn kvs=>obtain ⟨c,ws,z,⟨o,g1⟩,g2,g3⟩:=h2;exact ⟨c,ws,z,⟨o,ex c _ (fun w=>g2 (r.wa c w)) g1⟩,g2,r.Lx ex g3⟩
    | _=>first | (cases h2; done) | (cases e3'; done) | (cases e2; done) | (cases e6; done) | contradiction
   | _=>rw [em] at h2; exact cell _ _ (by rw [em]; simp) h2
 ·have fixl:∀ j t,look (ρ.set i (some s')) j=some t->Ln t=true->∃ t0,look ρ j=some t0/\Ln t0=true:=fun j t ej ij=>by
   by_cases hij:i=j
   ·subst hij; exact ⟨s,e,is⟩
   ·rw [au hij] at ej; exact ⟨t,ej,ij⟩
  obtain ⟨t0,f1,f2⟩:=fixl j t e1 i1;obtain ⟨t1,f3,f4⟩:=fixl k t' e2 i2;exact r.inj j k t0 t1 c hjk m1 m2 f1 f3 f2 f4 l1 l2
end
abbrev MG:=D->En->Option En
abbrev OM:=List D->En->Option En
abbrev MN:=En->Option (S × En)
set_option genInjectivity true in
inductive Fl where
 | nx | brk | ct | ret (s:S)
abbrev MS:=En->Option (Fl × En)
def LG (C:Cn) (md:List Md) (fx:Nat->Prop) (g:TG) (f:MG):Prop:=∀ (A W:Addr->Prop) (ρ:En) (σ:L2.St) (H:Hp) (v:V) (d:D) (ρ':En) (Q:L2.St->Hp->Prop),R C md A W ρ σ H->Ji C.K H (fun a=>¬ A a) d v->f d ρ=some ρ' ->
 (∀ σ' H',Ext W H H'->R C md A W ρ' σ' H'->Fix fx σ σ'->Q σ' H')->g v σ H Q
def OH (C:Cn) (md:List Md) (fx:Nat->Prop) (g:NG) (f:OM):Prop:=∀ (A W:Addr->Prop) (ρ:En) (σ:L2.St) (H:Hp) (vs:List V) (ds:List D) (ρ':En) (Q:L2.St->Hp->Prop),R C md A W ρ σ H->Jj C.K H (fun a=>¬ A a) ds vs->f ds ρ=some ρ' ->
 (∀ σ' H',Ext W H H'->R C md A W ρ' σ' H'->Fix fx σ σ'->Q σ' H')->g vs σ H Q
def LN (C:Cn) (md:List Md) (t:TE) (f:MN):Prop:=∀ (A W:Addr->Prop) (ρ:En) (σ:L2.St) (H:Hp) (Q:VK) (s:S) (ρ':En),R C md A W ρ σ H->f ρ=some (s,ρ') ->
 (∀ a H1 H',Ext W H H1->R C md A W ρ' σ H1->H1 a=none->Jo H1 H'->Cf C.K A H1 a H' s->Q (.ref a) H')->t σ H Q
def Lw (K:PySem.W.Frag) (H0 H:Hp):S->V->Prop
 | .d (.lst l),v=>∃ a xs,v=.ref a/\H0 a=none/\H a=some (.lst xs)/\Jj K H (fun b=>H0 b=none/\b ≠ a) l xs
 | .d x,v=>Ji K H (fun a=>H0 a=none) x v
 | .dn kvs,v=>∃ a ws,v=.ref a/\H0 a=none/\(∃ o,H a=some (.ext (J4 a o ws)))/\JR K H (fun b=>H0 b=none/\b ≠ a) kvs ws
 | .dc kvs,v=>∃ a ws,v=.ref a/\H0 a=none/\H a=some (.dT ws)/\Jt K H (fun b=>H0 b=none/\b ≠ a) kvs ws
 | _,_=>False
theorem Lw.OG {K:PySem.W.Frag} {H0 H:Hp} {d:D} {v:V} (h:Lw K H0 H (.d d) v):Ji K H (fun a=>H0 a=none) d v:=by
 cases d with
 | lst l=>obtain ⟨a,xs,rfl,h1,h2,h3⟩:=h;rw [Ji];exact ⟨a,xs,rfl,h2,h1,h3.mono fun _ _ o _=>o.1⟩
 | _=>exact h
theorem Lw.JH {K:PySem.W.Frag} {H0 H:Hp} {d:D} {v:V} (i:D.imm d=true) (h:Rep K H d v):Lw K H0 H (.d d) v:=by
 have z:Ji K H (fun a=>H0 a=none) d v:=Ji.JH i h;cases d with
 | non=>exact z
 | bl y29=>exact z
 | int y30=>exact z
 | str y31=>exact z
 | tup y32=>exact z
 | _=>cases i
def Cg (C:Cn) (H:Hp) (s:S) (v:V):Prop:=Lw C.K C.H0 H s v∨(C.free=true/\∃ x,s=.d x/\Ji C.K H (fun a=>C.H0 a=none∨C.Q a) x v)
def KS (C:Cn) (md:List Md) (A W:Addr->Prop) (σ:L2.St) (H:Hp) (D:Ends) (ρ':En):Fl->Prop
 | .nx=>∀ A' W' σ' H',Gr A W H A' W' H'->R C md A' W' ρ' σ' H'->Fix (dD md) σ σ'->D.nx σ' H'
 | .brk=>∀ A' W' σ' H',Gr A W H A' W' H'->R C md A' W' ρ' σ' H'->Fix (dD md) σ σ'->D.bk σ' H'
 | .ct=>∀ A' W' σ' H',Gr A W H A' W' H'->R C md A' W' ρ' σ' H'->Fix (dD md) σ σ'->D.ct σ' H'
 | .ret s=>∀ A' W' σ' v H',Gr A W H A' W' H'->R C md A' W' ρ' σ' H'->Fix (dD md) σ σ'->Cg C H' s v->D.rt v H'
def LS (C:Cn) (md:List Md) (t:TS) (f:MS):Prop:=∀ (A W:Addr->Prop) (ρ:En) (σ:L2.St) (H:Hp) (D:Ends) (fl:Fl) (ρ':En),R C md A W ρ σ H->f ρ=some (fl,ρ')->KS C md A W σ H D ρ' fl->t D σ H
def af (i:Nat):MG:=fun d ρ=>some (ρ.set i (some (.d d)))
def be:OM:=fun ds ρ=>match ds with
 | []=>some ρ
 | _=>none
def az (f:MG) (g:OM):OM:=fun ds ρ=>match ds with
 | d::r=>(f d ρ).bind fun ρ1=>g r ρ1
 | []=>none
def a9 (n:Nat) (g:OM):MG:=fun d ρ=>match d with
 | .tup l=>if l.length=n then g l ρ else none
 | _=>none
def tU (i:D) (v:D):Option S->Option S
 | some (.d (.lst l))=>match i with
  | .int k=>(Mh l.length k).map fun j=>.d (.lst (l.set j v))
  | _=>none
 | _=>none
def dM (md:List Md) (x:Nat) (fi:ME):MG:=fun d ρ=>(look ρ x).bind fun _=>(fi ρ).bind fun y=>(res y.2 y.1).bind fun i=>(tU i d (look y.2 x)).bind fun s=>some (y.2.set x (some s))
def ba:MS:=fun ρ=>some (.nx,ρ)
def ay (f g:MS):MS:=fun ρ=>(f ρ).bind fun x=>match x.1 with
 | .nx=>g x.2
 | fl=>some (fl,x.2)
def cI (f:ME):MS:=fun ρ=>(f ρ).bind fun x=>some (.nx,x.2)
def aK (md:List Md) (f:ME) (g:MG):MS:=fun ρ=>(f ρ).bind fun x=>(K6 md x.2 x.1).bind fun d=>(g d x.2).bind fun ρ'=>some (.nx,ρ')
def bB (f:MN) (i:Nat):MS:=fun ρ=>(f ρ).bind fun x=>some (.nx,x.2.set i (some x.1))
def bE (c:MT) (f g:MS):MS:=fun ρ=>(c ρ).bind fun x=>if x.1=true then f x.2 else g x.2
def aO (f:ME):MS:=fun ρ=>(f ρ).bind fun x=>(cD (res x.2 x.1)).bind fun d=>some (.ret (.d d),x.2)
def kz:S->Option S
 | .d (.lst l)=>if D.JA l=true then some (.d (.lst l)) else none
 | _=>none
def cJ (f:MN):MS:=fun ρ=>(f ρ).bind fun x=>(kz x.1).bind fun s=>some (.ret s,x.2)
def kS (i:Nat):MS:=fun ρ=>(look ρ i).bind fun s=>(kz s).bind fun s=>some (.ret s,ρ)
theorem mv (hm:ai md i=.pl) (hf:¬ fx i):LG C md fx (dE i) (af i):=by intro A W ρ σ H v d ρ' Q r h e k;cases e;exact k _ H (Ext.refl _ _) (r.Nj hm h) fun j fj=>aC (fun z=>hf (by rw [z]; exact fj))
theorem rD:OH C md fx yN be:=by
 intro A W ρ σ H vs ds ρ' Q r h e k;unfold be at e;cases ds with
 | nil=>cases e; exact ⟨h.nil_inv,k _ H (Ext.refl _ _) r (Fix.refl _ _)⟩
 | _=>cases e
theorem og (h1:LG C md fx t f) (h2:OH C md fx u g):OH C md fx (qS t u) (az f g):=by
 intro A W ρ σ H vs ds ρ' Q r h e k;unfold az at e;cases ds with
 | cons d ds'=>simp only [Z0] at e;obtain ⟨ρ1,e1,e2⟩:=e;obtain ⟨v,vr,rfl,p1,p2⟩:=h.cons_inv;refine ⟨v,vr,rfl,h1 A W ρ σ H v d ρ1 _ r p1 e1 fun σ1 H1 x1 r1 f1=>?_⟩;exact h2 A W ρ1 σ1 H1 vr ds' ρ' _ r1 (r.JT x1 p2) e2 fun σ2 H2 x2 r2 f2=>k σ2 H2 (x1.trans x2) r2 (f1.trans f2)
 | _=>cases e
theorem v8 (h:OH C md fx t g):LG C md fx (pj C.K n t) (a9 n g):=by
 intro A W ρ σ H v d ρ' Q r p e k;unfold a9 at e;cases d with
 | tup l=>
  replace e:(if l.length=n then g l ρ else none)=some ρ':=e;split at e
  ·rename_i hl;rw [Ji] at p;obtain ⟨a,xs,rfl,p1,p2⟩:=p;exact ⟨a,xs,rfl,p1,by rw [p2.length]; exact hl,h A W ρ σ H xs l ρ' Q r p2 e k⟩
  ·cases e
 | _=>cases e
theorem tV (h:tU i v o=some s):∃ l k j,o=some (.d (.lst l))/\i=.int k/\Mh l.length k=some j/\s=.d (.lst (l.set j v)):=by
 cases o with
 | some y33=>
  cases y33 with
  | d y34=>
   cases y34 with
   | lst l=>
    cases i with
    | int k=>unfold tU at h;simp only [Y3] at h;obtain ⟨j,e,rfl⟩:=h;exact ⟨l,k,j,rfl,rfl,e,rfl⟩
    | _=>cases h
   | _=>cases h
  | _=>cases h
 | _=>cases h
theorem zI:LS C md BV ba:=by intro A W ρ σ H D fl ρ' r e k;cases e;exact k A W σ H (Gr.refl _ _ _) r (Fix.refl _ _)
theorem R.OW (r:R C md A W ρ σ H) (g:Gr A W H A' W' H') (r':R C md A' W' ρ' σ' H'):∀ a,W a->True:=fun _ _=>trivial
theorem KS.then {A W A' W':Addr->Prop} {ρ ρ1 ρ':En} {σ σ':L2.St} {H H':Hp} {D:Ends} {fl:Fl} (r:R C md A W ρ σ H) (g:Gr A W H A' W' H') (r':R C md A' W' ρ1 σ' H') (f:Fix (dD md) σ σ') (h:KS C md A W σ H D ρ' fl):KS C md A' W' σ' H' D ρ' fl:=by
 cases fl with
 | ret s=>exact fun A2 W2 σ2 v H2 g2 r2 f2 z=>h A2 W2 σ2 v H2 (g.trans r.wa (r.OW g r') g2) r2 (f.trans f2) z
 | _=>exact fun A2 W2 σ2 H2 g2 r2 f2=>h A2 W2 σ2 H2 (g.trans r.wa (r.OW g r') g2) r2 (f.trans f2)
theorem D2 (h1:LS C md t f) (h2:LS C md u g):LS C md (gD t u) (ay f g):=by
 intro A W ρ σ H D fl ρ' r e k;unfold ay at e;simp -iota only [Z0] at e;obtain ⟨⟨fl1,ρ1⟩,e1,e2⟩:=e;refine h1 A W ρ σ H _ fl1 ρ1 r e1 ?_;cases fl1 with
 | nx=>exact fun A1 W1 σ1 H1 g1 r1 f1=>h2 A1 W1 ρ1 σ1 H1 D fl ρ' r1 e2 (KS.then r g1 r1 f1 k)
 | _=>cases e2; exact k
theorem zJ (h:LE C md t f):LS C md (iZ t) (cI f):=by intro A W ρ σ H D fl ρ' r e k;unfold cI at e;simp -iota only [Z0] at e;obtain ⟨⟨o,ρ1⟩,e1,e2⟩:=e;cases e2;exact h A W ρ σ H _ o _ r e1 fun v H1 x1 r1 _=>k A W σ H1 (Gr.JM x1) r1 (Fix.refl _ _)
theorem D3 (h:LE C md t f) (hg:LG C md (dD md) g fg):LS C md (lX t g) (aK md f fg):=by intro A W ρ σ H D fl ρ' r e k;unfold aK at e;simp -iota only [Z0] at e;obtain ⟨⟨o,ρ1⟩,e1,d,e2,ρ2,e3,e4⟩:=e;cases e4;refine h A W ρ σ H _ o ρ1 r e1 fun v H1 x1 r1 p1=>?_;exact hg A W ρ1 σ H1 v d _ _ r1 (p1.K6 r1 e2) e3 fun σ2 H2 x2 r2 f2=>k A W σ2 H2 (Gr.JM (x1.trans x2)) r2 f2
theorem zK (hm:ai md i=.ow) (h:LN C md t f):LS C md (lX t (dE i)) (bB f i):=by intro A W ρ σ H D fl ρ' r e k;unfold bB at e;simp -iota only [Z0] at e;obtain ⟨⟨s,ρ1⟩,e1,e4⟩:=e;cases e4;refine h A W ρ σ H _ s ρ1 r e1 fun a H1 H2 x1 r1 ha s1 n=>?_;obtain ⟨A2,W2,g2,r2⟩:=r1.N3 hm ha s1 n;refine k A2 W2 _ H2 ((Gr.JM x1).trans r.wa (fun _ _=>trivial) g2) r2 fun j fj=>aC (fun z=>?_);rcases fj with fj | fj <;> (rw [<- z,hm] at fj; cases fj)
theorem G1 {c:TT} {t u:TS} {fc:MT} {f g:MS} (hc:LT C md c fc) (h1:LS C md t f) (h2:LS C md u g):LS C md (uX c t u) (bE fc f g):=by
 intro A W ρ σ H D fl ρ' r e k;unfold bE at e;simp -iota only [Z0] at e;obtain ⟨⟨b,ρ1⟩,e1,e2⟩:=e;refine hc A W ρ σ H _ b ρ1 r e1 fun H1 x1 r1=>?_;have k':=KS.then r (Gr.JM x1) r1 (Fix.refl _ _) k
 cases b with
 | true=>exact iG (h1 A W ρ1 σ H1 D fl ρ' r1 (by simpa using e2) k')
 | false=>exact iF (h2 A W ρ1 σ H1 D fl ρ' r1 (by simpa using e2) k')
theorem gI (h:cD o=some d):o=some d/\D.imm d=true:=by
 unfold cD at h;split at h
 ·split at h
  ·cases h; exact ⟨rfl,by assumption⟩
  ·cases h
 ·cases h
theorem D4 (h:LE C md t f):LS C md (nI t) (aO f):=by intro A W ρ σ H D fl ρ' r e k;unfold aO at e;simp -iota only [Z0] at e;obtain ⟨⟨o,ρ1⟩,e1,d,e2,e3⟩:=e;cases e3;obtain ⟨e2,hi⟩:=gI e2;exact h A W ρ σ H _ o _ r e1 fun v H1 x1 r1 p1=>k A W σ v H1 (Gr.JM x1) r1 (Fix.refl _ _) (.inl (Lw.JH hi (p1.get r1 e2).rep))
theorem gJ (h:kz s=some s'):∃ l,s=.d (.lst l)/\s'=s/\D.JA l=true:=by
 cases s with
 | d y35=>
  cases y35 with
  | lst l=>
   replace h:(if D.JA l=true then some (S.d (.lst l)) else none)=some s':=h;split at h
   ·cases h; exact ⟨l,rfl,rfl,by assumption⟩
   ·cases h
  | _=>cases h
 | _=>cases h
theorem tW (h:LN C md t f):LS C md (nI t) (cJ f):=by intro A W ρ σ H D fl ρ' r e k;unfold cJ at e;simp -iota only [Z0] at e;obtain ⟨⟨s,ρ1⟩,e1,s',e2,e3⟩:=e;cases e3;obtain ⟨l,rfl,rfl,hi⟩:=gJ e2;refine h A W ρ σ H _ _ _ r e1 fun a H1 H2 x1 r1 ha s1 n=>k A W σ (.ref a) H2 (Gr.JM (x1.trans (Jo.ext s1))) (r1.same s1) (Fix.refl _ _) ?_;obtain ⟨xs,h1,h2⟩:=n;exact .inl ⟨a,xs,rfl,r1.h0 ha,h1,Jj.JH hi h2.Ks⟩
theorem zL (hm:ai md i=.ow):LS C md (nI (aS i)) (kS i):=by intro A W ρ σ H D fl ρ' r e k;unfold kS at e;simp -iota only [Z0] at e;obtain ⟨s,e1,s',e2,e3⟩:=e;cases e3;obtain ⟨l,rfl,rfl,hi⟩:=gJ e2;obtain ⟨v,ev,h1⟩:=r.slot i _ e1;refine ⟨v,ev,k A W σ v H (Gr.refl _ _ _) r (Fix.refl _ _) ?_⟩;rw [hm] at h1;obtain ⟨a,xs,rfl,q2,q3,q4,q5⟩:=h1;exact .inl ⟨a,xs,rfl,q4.2,q2,Jj.JH hi q5.Ks⟩
def tX:Option S->Option (List D)
 | some (.d (.lst l))=>some l
 | _=>none
theorem gK (h:tX o=some l):o=some (.d (.lst l)):=by
 cases o with
 | some y36=>
  cases y36 with
  | d y37=>
   cases y37 with
   | lst m=>cases h; rfl
   | _=>cases h
  | _=>cases h
 | _=>cases h
theorem R.cellAt (r:R C md A W ρ σ H) (hm:ai md i=.ow∨ai md i=.io) (e:look ρ i=some (.d (.lst l))) (ew:σ[i]?=some (some w)) :
 ∃ a xs,w=.ref a/\H a=some (.lst xs)/\Jj C.K H (fun b=>¬ A b) l xs:=by
 obtain ⟨w',hw',h1⟩:=r.slot i _ e;rw [ew] at hw'; cases hw';rcases hm with hm | hm <;> (rw [hm] at h1; obtain ⟨a,xs,q1,q2,q3,q4,q5⟩:=h1; exact ⟨a,xs,q1,q2,q5⟩)
theorem R.Mp (r:R C md A W ρ σ H) (hm:ai md i=.ow∨ai md i=.io) (e:look ρ i=some (.d (.lst l))) (ew:σ[i]?=some (some (.ref a)))
 (b:Oz a H H') (h:H' a=some (.lst ys)) (rp:Jj C.K H (fun b=>¬ A b) l' ys):Ext W H H'/\R C md A W (ρ.set i (some (.d (.lst l')))) σ H':=by
 refine r.write hm e rfl rfl ew b (.inl ⟨_,h⟩) fun ok okq oa aa wa st c=>⟨a,ys,rfl,h,aa,oa,?_⟩;exact r.JT (fun c o nc h=>b c o (fun z=>nc (by rw [z]; exact wa)) h) rp
def bm (md:List Md) (i:Nat) (f:MA):ME:=fun ρ=>(tX (look ρ i)).bind fun _=>(f ρ).bind fun x=>(JB md x.2 x.1).bind fun ds=>(tX (look x.2 i)).bind fun l=>match ds with
 | [d]=>if l.length < sizeLine then some (.val .non,x.2.set i (some (.d (.lst (l++[d]))))) else none
 | _=>none
theorem tY (hm:ai md i=.ow∨ai md i=.io) (h:LA C md t f):LE C md (Mv C.K "list" de (aS i) t) (bm md i f):=by
 intro A W ρ σ H Q o ρ' r e k;unfold bm at e;simp -iota only [Z0] at e;obtain ⟨l0,e0,⟨os,ρ1⟩,e1,ds,e2,l,e3,e4⟩:=e;cases ds with
 | cons d y38=>
  cases y38 with
  | nil=>
   dsimp only at e4;split at e4
   ·cases e4;rename_i hz;have e0:=gK e0;have e3:=gK e3;obtain ⟨w,ew,_⟩:=r.slot i _ e0;obtain ⟨a,xs,rfl,q1,q2⟩:=r.cellAt hm e0 ew;refine ⟨_,ew,.inl ⟨rfl,xs,.inl (.inl q1)⟩,?_⟩;refine h A W ρ σ H _ os ρ1 r e1 fun vs H1 x1 r1 p1=>?_;obtain ⟨v,z,rfl,pv,pz⟩:=(p1.JB r1 e2).cons_inv;obtain rfl:=pz.nil_inv;obtain ⟨a',ys,q3,q4,q5⟩:=r1.cellAt hm e3 ew;cases q3;refine ⟨a,ys,v,rfl,rfl,q4,by rw [q5.length]; exact hz,?_⟩;obtain ⟨H2,e5,b2,h2⟩:=My.ie H1 a (.lst (ys++[v]));rw [e5];obtain ⟨x2,r2⟩:=r1.Mp hm e3 ew b2 h2 (q5.append (.cons pv .nil));exact k _ H2 (x1.trans x2) r2 (show Ji _ _ _ _ _ from dL)
   ·cases e4
  | _=>cases e4
 | _=>cases e4
def p7 (i:Nat):ME:=fun ρ=>(tX (look ρ i)).bind fun l=>(l[l.length - 1]?).bind fun d=>some (.val d,ρ.set i (some (.d (.lst l.dropLast))))
theorem D5 (hm:ai md i=.ow∨ai md i=.io):LE C md (Dl C.K "list" Gp (aS i)) (p7 i):=by intro A W ρ σ H Q o ρ' r e k;unfold p7 at e;simp -iota only [Z0] at e;obtain ⟨l,e0,d,e1,e2⟩:=e;cases e2;have e0:=gK e0;obtain ⟨w,ew,_⟩:=r.slot i _ e0;obtain ⟨a,xs,rfl,q1,q2⟩:=r.cellAt hm e0 ew;refine ⟨_,ew,.inl ⟨rfl,xs,.inl (.inl q1)⟩,?_⟩;obtain ⟨y,ey,py⟩:=q2.get e1;rw [<- q2.length] at ey;refine ⟨a,xs,y,rfl,rfl,q1,ey,?_⟩;obtain ⟨H2,e5,b2,h2⟩:=My.ie H a (.lst xs.dropLast);rw [e5];obtain ⟨x2,r2⟩:=r.Mp hm e0 ew b2 h2 q2.dropLast;exact k _ H2 x2 r2 (show Ji _ _ _ _ _ from r.KU x2 py)
theorem Jj.apart {K:PySem.W.Frag} {H:Hp} {ok:Addr->Prop} {l:List D} {xs:List V} {p:Addr} (h:Jj K H ok l xs) (hp:H p=none):Jj K H (fun b=>ok b/\b ≠ p) l xs:=
 h.mono fun b xs o z=>⟨o,fun e=>by subst e; rw [hp] at z; cases z⟩
def bW (md:List Md) (fa:MA):MN:=fun ρ=>(fa ρ).bind fun x=>(JB md x.2 x.1).bind fun ds=>if ds.length<=sizeLine then some (.d (.lst ds),x.2) else none
theorem D6 (ha:LA C md t fa):LN C md (pI t) (bW md fa):=by
 intro A W ρ σ H Q s ρ' r0 e k;unfold bW at e;simp -iota only [Z0] at e;obtain ⟨⟨o1,ρ1⟩,e1,ds,e3,e5⟩:=e;split at e5
 ·cases e5;rename_i hz;refine ha A W ρ σ H _ o1 _ r0 e1 fun v1 H1 x1 r1 p1=>?_;have q:=p1.JB r1 e3;refine ⟨by rw [q.length]; exact hz,fun p hp=>?_⟩;have s:=aw (o:=.lst v1) hp;exact k p H1 _ x1 r1 hp s ⟨v1,aj,(q.apart hp).same s⟩
 ·cases e5
def SL (K:PySem.W.Frag) (H:Hp) (ok:Addr->Prop):List S->List V->Prop
 | [],vs=>vs=[]
 | s::ss,vs=>∃ v r,vs=v::r/\vU K H ok s v/\SL K H ok ss r
def JL (K:PySem.W.Frag) (m:List S->Option S):Sp:=fun vs H Q _=>∃ ss r,SL K H (fun _=>True) ss vs/\m ss=some r/\∀ v H',Jo H H'->Lw K H H' r v->Q v H'
def v9 (K:PySem.W.Frag) (H:Hp) (p q:Addr):S->Prop
 | .pot ns i r m=>q ≠ p/\H p=some (.lst [.ref q,.int i,.int r,.int m])/\H q=some (.lst (ns.map V.int))
 | .d (.lst l)=>D.JA l=true/\∃ xs,H p=some (.lst xs)/\Js K H l xs
 | _=>False
def jr:S->Bool
 | .pot _ _ _ _=>true
 | _=>false
def G3 (K:PySem.W.Frag) (H H':Hp) (q:Addr) (s0 r:S) (v:V):Prop:=Lw K H H' r v∨(jr s0=true/\∃ x,r=.d x/\Ji K H' (fun a=>H a=none∨a=q) x v)
def LY (K:PySem.W.Frag) (m:List S->Option (S × S)):Sp:=fun vs H Q _=>∃ p q s0 ss vs' r s1,vs=.ref p::vs'/\v9 K H p q s0/\SL K H (fun a=>a ≠ p) ss vs'/\m (s0::ss)=some (r,s1) /\
 ∀ v H',Oz p H H'->v9 K H' p q s1->G3 K H H' q s0 r v->Q v H'
def fV:S->Option S
 | .pot ns i r m=>some (.pot ns i r m)
 | .d (.lst l)=>if D.JA l=true then some (.d (.lst l)) else none
 | _=>none
def oh:S->S->Option S
 | .pot _ _ _ _,.pot ns i r m=>some (.pot ns i r m)
 | .d (.lst _),.d (.lst l)=>if D.JA l=true then some (.d (.lst l)) else none
 | _,_=>none
def bR (md:List Md) (i:Nat) (m:List S->Option (S × S)) (f:MA):ME:=fun ρ=>(look ρ i).bind fun _=>(f ρ).bind fun x=>(JB md x.2 x.1).bind fun ds=>((look x.2 i).bind fV).bind fun s0=>(m (s0::ds.map S.d)).bind fun y=>(Mi (some y.1)).bind fun d=>(oh s0 y.2).bind fun s1=>some (.val d,x.2.set i (some s1))
theorem JD.any {K:PySem.W.Frag} {H:Hp} {ok:Addr->Prop} {d:D} {v:V} (h:JD K H ok d v):Ji K H (fun _=>True) d v:=by
 cases d with
 | lst l=>obtain ⟨a,xs,rfl,h1,h2⟩:=h;rw [Ji];exact ⟨a,xs,rfl,h1,trivial,h2.mono fun _ _ _ _=>trivial⟩
 | _=>exact Ji.mono (ok:=ok) (show Ji K H ok _ v from h) fun _ _ _ _=>trivial
theorem SL.ofP {K:PySem.W.Frag} {H:Hp} {ok ok':Addr->Prop} (m:∀ a,ok a->ok' a):∀ {ds:List D} {vs:List V},Jj K H ok ds vs->SL K H ok' (ds.map S.d) vs
 | [],vs,h=>h.nil_inv
 | d::ds,vs,h=>by
  obtain ⟨v,r,rfl,h1,h2⟩:=h.cons_inv;exact ⟨v,r,rfl,Ji.mono h1 fun a _ o _=>m a o,SL.ofP m h2⟩
theorem eM (h:fV s=some s'):s'=s/\Ln s=true/\∀ l,s=.d (.lst l)->D.JA l=true:=by
 cases s with
 | pot ns i r m=>cases h; exact ⟨rfl,rfl,fun l z=>by cases z⟩
 | d y31=>
  cases y31 with
  | lst l=>
   replace h:(if D.JA l=true then some (S.d (.lst l)) else none)=some s':=h;split at h
   ·cases h; rename_i hi; exact ⟨rfl,rfl,fun m z=>by cases z; exact hi⟩
   ·cases h
  | _=>cases h
 | _=>cases h
theorem p8 (h:oh s0 s=some s'):s'=s/\Ln s=true/\(∀ l,s=.d (.lst l)->D.JA l=true)/\∀ ns i r m,s=.pot ns i r m->∃ ns i r m,s0=.pot ns i r m:=by
 cases s0 with
 | pot y32 y33 y34 y35=>
  cases s with
  | pot ns i r m=>cases h; exact ⟨rfl,rfl,(fun l z=>by cases z),fun _ _ _ _ _=>⟨_,_,_,_,rfl⟩⟩
  | _=>cases h
 | d y36=>
  cases y36 with
  | lst y37=>
   cases s with
   | d y38=>
    cases y38 with
    | lst l=>
     replace h:(if D.JA l=true then some (S.d (.lst l)) else none)=some s':=h;split at h
     ·cases h; rename_i hi; exact ⟨rfl,rfl,(fun m z=>by cases z; exact hi),(fun _ _ _ _ z=>by cases z)⟩
     ·cases h
    | _=>cases h
   | _=>cases h
  | _=>cases h
 | _=>cases h
theorem wc {i:Nat} {t:TA} {f:MA} {m:List S->Option (S × S)} {E:XK} (hm:ai md i=.ow∨ai md i=.io) (h:LA C md t f):LE C md (hV (LY C.K m) [] E (bS (aS i) t)) (bR md i m f):=by
 intro A W ρ σ H Q o ρ' r e k;unfold bR at e;simp only [Z0] at e;obtain ⟨sx,e0,⟨os,ρ1⟩,e1,ds,e2,s0,⟨s0',e3,e3'⟩,⟨y1,y2⟩,e4,d,e5,s1,e6,e7⟩:=e;cases e7;cases dI e5;obtain ⟨rfl,is0,im0⟩:=eM e3';obtain ⟨rfl,is1,im1,kd⟩:=p8 e6;obtain ⟨w,ew,_⟩:=r.slot i _ e0;refine ⟨w,ew,?_⟩;refine h A W ρ σ H _ os _ r e1 fun vs H1 x1 r1 p1=>?_;show LY C.K m ((w::vs)++[]) H1 Q E;rw [Ma];dsimp only at e2 e3 e4 e5 e6 is1 im1 kd k;obtain ⟨w',ew',c1⟩:=r1.slot i _ e3;rw [ew] at ew'; cases ew';obtain ⟨okc,okq,c⟩:∃ okc okq,Cell C.K A H1 okc okq s0 w:=by rcases hm with hm | hm <;> (rw [hm] at c1; exact ⟨_,_,c1⟩)
 obtain ⟨p,q,rfl,io,aq⟩:∃ p q,w=.ref p/\v9 C.K H1 p q s0/\(∀ ns i r m,s0=.pot ns i r m->¬ A q):=by
  cases s0 with
  | pot ns i r m=>obtain ⟨p,q,rfl,h1,h2,h3,h4,h5,h6⟩:=c;exact ⟨p,q,rfl,⟨fun z=>h5 (by rw [z]; exact h3),h1,h2⟩,fun _ _ _ _ _=>h5⟩
  | d y19=>
   cases y19 with
   | lst l=>obtain ⟨p,xs,rfl,h1,h2,h3,h4⟩:=c;exact ⟨p,p,rfl,⟨im0 l rfl,xs,h1,h4.Ks⟩,fun _ _ _ _ z=>by cases z⟩
   | _=>first | (cases c; done) | (cases im0; done) | (cases is0; done) | (cases e3'; done) | (cases e2; done) | (cases e6; done) | contradiction
  | _=>first | (cases c; done) | (cases im0; done) | (cases is0; done) | (cases e3'; done) | (cases e2; done) | (cases e6; done) | contradiction
 have ap:A p:=(Cell.at is0 c).2.1;refine ⟨p,q,s0,ds.map S.d,vs,_,s1,rfl,io,SL.ofP (fun a o z=>o (by rw [z]; exact ap)) (p1.JB r1 e2),e4,fun v H2 b2 io2 n=>?_⟩;have mu:jo (H2 p):=by
  cases s1 with
  | pot ns i r m=>exact .inl ⟨_,io2.2.1⟩
  | d y20=>
   cases y20 with
   | lst l=>obtain ⟨_,xs,z,_⟩:=io2; exact .inl ⟨xs,z⟩
   | _=>first | (cases io2; done) | (cases is1; done) | (cases e3'; done) | (cases e2; done) | (cases e6; done) | contradiction
  | _=>first | (cases io2; done) | (cases is1; done) | (cases e3'; done) | (cases e2; done) | (cases e6; done) | contradiction
 obtain ⟨x2,r2⟩:=r1.write hm e3 is0 is1 ew b2 mu (s':=s1) fun ok okq oa aa wa st c=>by
  cases s1 with
  | pot ns i r m=>
   obtain ⟨g1,g2,g3⟩:=io2;obtain ⟨ns',i',r',m',rfl⟩:=kd ns i r m rfl;obtain ⟨p',q',z,h1,h2,h3,h4,h5,h6⟩:=c;cases z;have:q'=q:=by have z:=io.2.1;rw [h1] at z;injection z with z; injection z with z; injection z with z; injection z
   subst this;exact ⟨p,q',rfl,g2,g3,aa,oa,h5,h6⟩
  | d y21=>
   cases y21 with
   | lst l=>obtain ⟨_,xs,z,z2⟩:=io2;exact ⟨p,xs,rfl,z,aa,oa,Jj.JH (im1 l rfl) z2⟩
   | _=>first | (cases kd; done) | (cases io2; done) | (cases im1; done) | (cases is1; done) | (cases e3'; done) | (cases e2; done) | (cases e6; done) | contradiction
  | _=>first | (cases kd; done) | (cases io2; done) | (cases im1; done) | (cases is1; done) | (cases e3'; done) | (cases e2; done) | (cases e6; done) | contradiction
 refine k v H2 (x1.trans x2) r2 ?_;rcases n with n | ⟨ip,x,z,n⟩
 ·exact (show Ji _ _ _ _ _ from n.OG.mono fun a _ o _=>r1.fresh o)
 ·cases z;refine (show Ji _ _ _ _ _ from n.mono fun a _ o _=>?_);rcases o with o | o
  ·exact r1.fresh o
  ·rw [o];cases s0 with
   | pot ns i r m=>exact aq ns i r m rfl
   | _=>first | (cases aq; done) | (cases ip; done) | (cases e3'; done) | (cases e2; done) | (cases e6; done) | contradiction
abbrev MI:=En->Option (List D × En)
def js (C:Cn) (A W:Addr->Prop) (J:It) (ds:List D) (H:Hp):Prop:=∀ (A' W':Addr->Prop) (H':Hp),Gr A W H A' W' H'->∀ i,
 (∀ d,ds[i]?=some d->J.go i H'/\∀ x H'',J.yld i H' x H''->Jo H' H''/\Ji C.K H'' (fun a=>¬ A' a∨H' a=none) d x)/\(ds.length<=i->J.stop i H')
theorem jt {K:PySem.W.Frag} {ok:Addr->Prop} {H' H'':Hp} {d:D} {x:V} (h:H''=H'/\Ji K H' ok d x):Jo H' H''/\Ji K H'' (fun a=>ok a∨H' a=none) d x:=by obtain ⟨rfl,h⟩:=h;exact ⟨fun _ _ e=>e,h.mono fun a xs o _=>.inl o⟩
def LI (C:Cn) (md:List Md) (lj:Option Nat) (wi:TI) (f:MI):Prop:=∀ (A W:Addr->Prop) (ρ:En) (σ:L2.St) (H:Hp) (Q:It->Hp->Prop) (ds:List D) (ρ':En),R C md A W ρ σ H->f ρ=some (ds,ρ') ->
 (∀ J H',Ext W H H'->R C md A W ρ' σ H'->(∀ W2:Addr->Prop,(∀ a,W2 a->W a)->(∀ j a s,lj=some j->ai md j ≠ .pl->look ρ' j=some s->Ln s=true->σ[j]?=some (some (.ref a))->¬ W2 a)->js C A W2 J ds H')->Q J H')->wi σ H Q
def p9 (lo:Int) (n:Nat):List D:=(List.range n).map fun k=>D.int (lo+(k:Nat))
def dN (f:MA):MI:=fun ρ=>(f ρ).bind fun x=>(dg x.2 x.1).bind fun ds=>match ds with
 | [.int j]=>if -(2 ^ 62)<=j/\j < 2 ^ 62 then some (p9 0 j.toNat,x.2) else none
 | _=>none
def kT (f:MA):MI:=fun ρ=>(f ρ).bind fun x=>(dg x.2 x.1).bind fun ds=>match ds with
 | [.int i,.int j]=>if -(2 ^ 62)<=i/\i < 2 ^ 62/\-(2 ^ 62)<=j/\j < 2 ^ 62 then some (p9 i (j - i).toNat,x.2) else none
 | _=>none
def cn (z:Str):List D:=z.cps.toList.map fun c=>D.str ⟨#[c]⟩
def D7:D->Option (List D)
 | .str z=>some (cn z)
 | .tup l=>some l
 | .lst l=>some l
 | _=>none
def cK (md:List Md) (f:ME):MI:=fun ρ=>(f ρ).bind fun x=>(K6 md x.2 x.1).bind fun d=>(D7 d).bind fun l=>some (l,x.2)
theorem wd (A W:Addr->Prop) (lo:Int) (n:Nat) (H:Hp):js C A W (OR lo n) (p9 lo n) H:=by
 intro A' W' H' g i;refine ⟨fun d e=>?_,fun h=>?_⟩
 ·unfold p9 at e;rw [Kb,Y3] at e;obtain ⟨k,e1,rfl⟩:=e;have hk:=Z9.mp e1;obtain ⟨h1,h2⟩:=hk;rw [Yq] at h1;rw [List.getElem_range] at h2;subst h2;refine ⟨h1,fun x H'' y=>jt ⟨y.1,?_⟩⟩;rw [y.2];exact ax
 ·simp -iota [p9] at h;exact h
theorem zM (h:LA C md t f):LI C md none (BW t) (dN f):=by
 intro A W ρ σ H Q ds ρ' r e k;unfold dN at e;simp -iota only [Z0] at e;obtain ⟨⟨os,ρ1⟩,e1,xs,e2,e3⟩:=e;cases xs with
 | cons y13 y14=>
  cases y13 with
  | int j=>
   cases y14 with
   | nil=>
    dsimp only at e3;split at e3
    ·rename_i hj;cases e3;refine h A W ρ σ H _ os _ r e1 fun vs H1 x1 r1 p1=>?_;obtain ⟨v,rfl,pv⟩:=(p1.get r1 e2).Jy;obtain rfl:=pv.int_inv;exact ⟨j,rfl,hj.1,hj.2,k _ H1 x1 r1 fun W2 _ _=>wd _ _ _ _ _⟩
    ·cases e3
   | _=>cases e3
  | _=>cases e3
 | _=>cases e3
theorem zN (h:LA C md t f):LI C md none (BX t) (kT f):=by
 intro A W ρ σ H Q ds ρ' r e k;unfold kT at e;simp -iota only [Z0] at e;obtain ⟨⟨os,ρ1⟩,e1,xs,e2,e3⟩:=e;cases xs with
 | cons y15 y16=>
  cases y15 with
  | int i=>
   cases y16 with
   | cons y17 y18=>
    cases y17 with
    | int j=>
     cases y18 with
     | nil=>
      dsimp only at e3;split at e3
      ·rename_i hj;cases e3;refine h A W ρ σ H _ os _ r e1 fun vs H1 x1 r1 p1=>?_;obtain ⟨v,w,rfl,pv,pw⟩:=p1.get r1 e2;obtain ⟨u,rfl,pu⟩:=KW.Jy pw;obtain rfl:=pv.int_inv;obtain rfl:=pu.int_inv;exact ⟨i,j,rfl,hj,k _ H1 x1 r1 fun W2 _ _=>wd _ _ _ _ _⟩
      ·cases e3
     | _=>cases e3
    | _=>cases e3
   | _=>cases e3
  | _=>cases e3
 | _=>cases e3
theorem zO {A W:Addr->Prop} {ρ:En} {σ:L2.St} {H:Hp} {W2:Addr->Prop} (r:R C md A W ρ σ H) (hw:∀ a,W2 a->W a) {a:Addr} {xs:List V} {l:List D} (h:H a=some (.lst xs)) (na:¬ W2 a) (p:Jj C.K H (fun b=>¬ A b) l xs):js C A W2 (Py C.K a) l H:=by
 intro A' W' H' g i;have h':H' a=some (.lst xs):=g.ext a _ na h;have p':Jj C.K H' (fun b=>¬ A' b) l xs:=p.Jp (g.ext.JF fun a w=>r.wk a (hw a w)) fun b ys o z=>⟨g.ext b _ (fun w=>o (r.wa b (hw b w))) z,fun w=>by
  rcases g.an b w with y | y
  ·exact o y
  ·rw [y] at z; cases z⟩
 refine ⟨fun d e=>?_,fun hl=>?_⟩
 ·obtain ⟨x,ex,px⟩:=p'.get e;refine ⟨⟨xs,x,.inl (.inl h'),ex⟩,fun y H'' yl=>jt ⟨yl.1,?_⟩⟩;have:=yl.2 xs (.inl (.inl h'));rw [ex] at this;cases this;exact px
 ·exact ⟨xs,.inl (.inl h'),by rw [p'.length]; exact hl⟩
theorem D8 {A W:Addr->Prop} {ρ:En} {σ:L2.St} {H:Hp} {W2:Addr->Prop} (r:R C md A W ρ σ H) (hw:∀ a,W2 a->W a) {a:Addr} {xs:List V} {l:List D} (h:JW C.K H a xs) (p:Jj C.K H (fun b=>¬ A b) l xs):js C A W2 (Pc C.K a) l H:=by
 intro A' W' H' g i;have st:aU C.K H H':=g.ext.JF fun a w=>r.wk a (hw a w);have h':JW C.K H' a xs:=st _ _ h;have p':Jj C.K H' (fun b=>¬ A' b) l xs:=p.Jp st fun b ys o z=>⟨g.ext b _ (fun w=>o (r.wa b (hw b w))) z,fun w=>by
  rcases g.an b w with y | y
  ·exact o y
  ·rw [y] at z; cases z⟩
 refine ⟨fun d e=>?_,fun hl=>?_⟩
 ·obtain ⟨x,ex,px⟩:=p'.get e;refine ⟨⟨xs,x,h',ex⟩,fun y H'' yl=>jt ⟨yl.1,?_⟩⟩;have:=yl.2 xs h';rw [ex] at this;cases this;exact px
 ·exact ⟨xs,h',by rw [p'.length]; exact hl⟩
theorem D9 (A W:Addr->Prop) (z:Str) (H:Hp):js C A W (OZ z) (cn z) H:=by
 intro A' W' H' g i;refine ⟨fun d e=>?_,fun h=>?_⟩
 ·unfold cn at e;rw [Kb,Y3] at e;obtain ⟨c,e1,rfl⟩:=e;obtain ⟨h1,h2⟩:=Z9.mp e1;refine ⟨(show i < z.cps.size by simpa using h1),fun x H'' y=>jt ⟨y.1,?_⟩⟩;obtain ⟨_,c',e2,rfl⟩:=y;rw [e1] at e2; cases e2;exact cV
 ·simp -iota [cn] at h;exact h
theorem Ea (h:LE C md t f):LI C md none (zk C.K t) (cK md f):=by
 intro A W ρ σ H Q ds ρ' r e k;unfold cK at e;simp -iota only [Z0] at e;obtain ⟨⟨o,ρ1⟩,e1,d,e2,l,e3,e4⟩:=e;cases e4;refine h A W ρ σ H _ o _ r e1 fun v H1 x1 r1 p1=>?_;have p:=p1.K6 r1 e2;cases d with
 | str z=>cases e3;rw [Ji] at p;subst p;exact k _ H1 x1 r1 fun W2 _ _=>D9 _ _ _ _
 | tup l=>cases e3;rw [Ji] at p;obtain ⟨a,xs,rfl,h1,h2⟩:=p;exact .inr ⟨⟨xs,h1⟩,k _ H1 x1 r1 fun W2 hw _=>D8 r1 hw h1 h2⟩
 | lst l=>cases e3;rw [Ji] at p;obtain ⟨a,xs,rfl,h1,h2,h3⟩:=p;exact .inl ⟨⟨xs,.inl (.inl h1)⟩,k _ H1 x1 r1 fun W2 hw _=>zO r1 hw h1 (fun w=>h2 (r1.wa a (hw a w))) h3⟩
 | _=>first | (cases p; done) | (cases e3; done) | (cases e3'; done) | (cases e2; done) | (cases e6; done) | contradiction
abbrev MB:=En->List D->Option (En × List D)
def LB (C:Cn) (md:List Md) (nt:Nat) (tb:TB) (f:MB):Prop:=∀ (A W:Addr->Prop) (ρ:En) (σ:L2.St) (H:Hp) (acc:List V) (as:List D) (Q:L2.St->Hp->List V->Prop) (ρ':En) (as':List D),R C md A W ρ σ H->Jj C.K H (fun a=>¬ A a) as acc->f ρ as=some (ρ',as') ->
 (∀ σ' H' acc',Ext W H H'->R C md A W ρ' σ' H'->Jj C.K H' (fun a=>¬ A a) as' acc'->Fix (fun j=>nt<=j) σ σ'->Q σ' H' acc')->tb σ H acc Q
def bX (md:List Md) (f:ME):MB:=fun ρ as=>(f ρ).bind fun x=>(K6 md x.2 x.1).bind fun d=>if as.length < sizeLine then some (x.2,as++[d]) else none
def K5 (fg:MG) (ft:MT) (fb:MB):List D->MB
 | [],ρ,as=>some (ρ,as)
 | d::ds,ρ,as=>(fg d ρ).bind fun ρ1=>(ft ρ1).bind fun y=>if y.1=true then (fb y.2 as).bind fun z=>K5 fg ft fb ds z.1 z.2 else K5 fg ft fb ds y.2 as
theorem zP (h:LE C md te f):LB C md nt (kN te) (bX md f):=by
 intro A W ρ σ H acc as Q ρ' as' r ra e k;unfold bX at e;simp -iota only [Z0] at e;obtain ⟨⟨o,ρ1⟩,e1,d,e2,e3⟩:=e;split at e3
 ·rename_i hz;cases e3;refine h A W ρ σ H _ o _ r e1 fun v H1 x1 r1 p1=>⟨by rw [ra.length]; exact hz,?_⟩;exact k σ H1 _ x1 r1 ((r.JT x1 ra).append (.cons (p1.K6 r1 e2) .nil)) (Fix.refl _ _)
 ·cases e3
inductive Pj (C:Cn) (md:List Md) (A W:Addr->Prop) (H0:Hp) (nt:Nat) (σ:L2.St) (fg:MG) (ft:MT) (fb:MB) (ρ':En) (as':List D) (ds:List D) (σ1:L2.St) (H1:Hp) (acc1:List V):Prop
 | mk:∀ ρ1 as1,Ext W H0 H1->R C md A W ρ1 σ1 H1->Jj C.K H1 (fun a=>¬ A a) as1 acc1->Fix (fun j=>nt<=j) σ σ1->K5 fg ft fb ds ρ1 as1=some (ρ',as')->Pj C md A W H0 nt σ fg ft fb ρ' as' ds σ1 H1 acc1
theorem G4 (hg:LG C md (fun j=>nt<=j) g fg) (ht:LT C md tt ft) (hb:LB C md nt tb fb) {J:It} {A W:Addr->Prop} {ds:List D} {H0:Hp} (it:js C A W J ds H0) :
 ∀ (ρ:En) (σ:L2.St) (acc:List V) (as:List D) (Q:L2.St->Hp->List V->Prop) (ρ':En) (as':List D),R C md A W ρ σ H0->Jj C.K H0 (fun a=>¬ A a) as acc->K5 fg ft fb ds ρ as=some (ρ',as') ->
 (∀ σ' H' acc',Ext W H0 H'->R C md A W ρ' σ' H'->Jj C.K H' (fun a=>¬ A a) as' acc'->Fix (fun j=>nt<=j) σ σ'->Q σ' H' acc')->Nq g tt tb J σ H0 acc Q:=by
 intro ρ σ acc as Q ρ' as' r ra e k;refine ⟨fun i m σ1 H1 acc1=>m=ds.length - i/\i<=ds.length/\Pj C md A W H0 nt σ fg ft fb ρ' as' (ds.drop i) σ1 H1 acc1,
  ⟨ds.length,by simp,K0 _,ρ,as,Ext.refl _ _,r,ra,Fix.refl _ _,by simpa using e⟩,?_⟩
 rintro i m σ1 H1 acc1 ⟨rfl,hi,ρ1,as1,x1,r1,ra1,f1,e1⟩;obtain ⟨i1,i2⟩:=it A W H1 (Gr.JM x1) i;by_cases hlt:i < ds.length
 ·obtain ⟨go,yl⟩:=i1 ds[i] (by simp -iota [hlt]);rw [List.drop_eq_getElem_cons hlt] at e1;unfold K5 at e1;simp -iota only [Z0] at e1;obtain ⟨ρ2,e2,⟨b,ρ3⟩,e3,e4⟩:=e1;refine .inr ⟨go,Pj C md A W H0 nt σ fg ft fb ρ' as' (ds.drop (i+1)),?_,?_⟩
  ·intro σ' H' acc' h;exact ⟨ds.length - (i+1),by omega,rfl,hlt,h⟩
  ·intro x H'' y;obtain ⟨sm,px⟩:=yl x H'' y;replace px:=r1.LJ px;replace r1:=r1.same sm;replace ra1:=ra1.same sm;replace x1:Ext W H0 H'':=x1.trans (Jo.ext sm);refine hg A W ρ1 σ1 _ x ds[i] ρ2 _ r1 px e2 fun σ2 H2 x2 r2 f2=>?_;refine ht A W ρ2 σ2 H2 _ b ρ3 r2 e3 fun H3 x3 r3=>?_;have ra3:=r2.JT x3 (r1.JT x2 ra1);cases b with
   | true=>simp -iota only [if_true,Z0] at e4;obtain ⟨⟨ρ4,as4⟩,e5,e6⟩:=e4;refine iG (hb A W ρ3 σ2 H3 acc1 as1 _ ρ4 as4 r3 ra3 e5 fun σ4 H4 acc4 x4 r4 ra4 f4=>?_);exact ⟨ρ4,as4,((x1.trans x2).trans x3).trans x4,r4,ra4,(f1.trans f2).trans f4,e6⟩
   | false=>simp -iota only [Lk,if_false] at e4;exact iF ⟨ρ3,as1,(x1.trans x2).trans x3,r3,ra3,f1.trans f2,e4⟩
 ·have e0:i=ds.length:=by omega
  subst e0;rw [List.drop_length] at e1;cases e1;exact .inl ⟨i2 (JI _),k σ1 H1 acc1 x1 r1 ra1 f1⟩
def kA (nt:Nat) (ix:List Nat) (ρ:En):En:=List.replicate nt none++ix.map fun j=>look ρ j
def my (md:List Md) (kp:List Nat) (j:Nat):Md:=match ai md j with
 | .pl=>.pl
 | m=>if kp.contains j then m else .lk
def b6 (md:List Md) (nt:Nat) (ix kp:List Nat):List Md:=List.replicate nt .pl++ix.map (my md kp)
def NL (kp:List Nat) (nt:Nat) (ix:List Nat) (ρI:En):Nat->En->En
 | _,[]=>[]
 | j,x::r=>(if kp.contains j then look ρI (nt+ix.idxOf j) else x)::NL kp nt ix ρI (j+1) r
def wb (kp:List Nat) (nt:Nat) (ix:List Nat) (ρI ρ:En):En:=if kp.isEmpty then ρ else NL kp nt ix ρI 0 ρ
theorem ju:∀ {nt k:Nat} {l:En},look (List.replicate nt none++l) k=if k < nt then none else look l (k - nt)
 | 0,k,l=>by simp
 | nt+1,0,l=>by simp [LR,look]
 | nt+1,k+1,l=>by
  rw [LR,OC,look,ju (nt:=nt) (k:=k)];by_cases h:k < nt
  ·simp [h]
  ·simp [h]
theorem oj:∀ {ix:List Nat} {n:Nat},look (ix.map f) n=(ix[n]?).bind f
 | [],n=>by simp [look]
 | j::r,0=>by simp [look]
 | j::r,n+1=>by simp only [Z6,look,List.getElem?_cons_succ]; exact oj
theorem om:∀ {nt k:Nat} {l:List Md},ai (List.replicate nt .pl++l) k=if k < nt then .pl else ai l (k - nt)
 | 0,k,l=>by simp
 | nt+1,0,l=>by simp [LR,ai]
 | nt+1,k+1,l=>by
  rw [LR,OC,ai,om (nt:=nt) (k:=k)];by_cases h:k < nt
  ·simp [h]
  ·simp [h]
theorem oq:∀ {ix:List Nat} {n:Nat},ai (ix.map f) n=((ix[n]?).map f).getD .pl
 | [],n=>by simp [ai]
 | j::r,0=>by simp [ai]
 | j::r,n+1=>by simp only [Z6,ai,List.getElem?_cons_succ]; exact oq
theorem mz (h:look (kA nt ix ρ) k=some s):nt<=k/\∃ j,ix[k - nt]?=some j/\look ρ j=some s:=by
 unfold kA at h;rw [ju] at h;split at h
 ·cases h
 ·rename_i hk;rw [oj,Z0] at h;exact ⟨by lia,h⟩
theorem eO (hk:nt<=k) (h:ix[k - nt]?=some j):(cst nt ix σ)[k]?=some (σ.getD j none):=by unfold cst;rw [Yj (by simpa using hk),List.length_replicate,Kb,h];rfl
theorem cW (hk:nt<=k) (h:ix[k - nt]?=some j):ai (b6 md nt ix kp) k=my md kp j:=by unfold b6;rw [om,Y0 (by lia),oq,h];rfl
theorem getD_some {σ:L2.St} {j:Nat} {v:V}:σ.getD j none=some v ↔ σ[j]?=some (some v):=by
 rw [Z5];cases e:σ[j]? with
 | _=>simp
theorem kU:∀ {ix:List Nat} (hx:ix.Nodup) {a b j:Nat} (h1:ix[a]?=some j) (h2:ix[b]?=some j),a=b
 | [],hx,a,b,j,h1,h2=>by simp at h1
 | x::r,hx,0,0,j,h1,h2=>rfl
 | x::r,hx,0,b+1,j,h1,h2=>by
  simp at h1 h2; subst h1;exact absurd (Y5 h2) (List.nodup_cons.mp hx).1
 | x::r,hx,a+1,0,j,h1,h2=>by
  simp at h1 h2; subst h2;exact absurd (Y5 h1) (List.nodup_cons.mp hx).1
 | x::r,hx,a+1,b+1,j,h1,h2=>by
  simp at h1 h2;rw [kU (List.nodup_cons.mp hx).2 h1 h2]
theorem ot:∀ {ρ:En} {j0 j:Nat},look (NL kp nt ix ρI j0 ρ) j=if j < ρ.length/\kp.contains (j0+j)=true then look ρI (nt+ix.idxOf (j0+j)) else look ρ j
 | [],j0,j=>by simp [NL,look]
 | x::r,j0,0=>by
  simp only [NL,look,Nat.add_zero,M8];by_cases h:kp.contains j0=true
  ·rw [Y1 h,Y1 ⟨by grind,h⟩]
  ·rw [Y0 h,Y0 (fun z=>h z.2)]
 | x::r,j0,j+1=>by
  simp only [NL,look];rw [ot (ρ:=r) (j0:=j0+1) (j:=j),show j0+1+j=j0+(j+1) by grind];simp only [M8,Nat.add_lt_add_iff_right]
theorem rE:look (wb kp nt ix ρI ρ) j=if j < ρ.length/\j ∈ kp then look ρI (nt+ix.idxOf j) else look ρ j:=by
 unfold wb;cases kp with
 | nil=>simp
 | cons a r=>rw [Y0 (by simp),ot];simp only [Nat.zero_add,List.contains_iff_mem]
theorem Eb:(wb kp nt ix ρI ρ).length=ρ.length:=by
 have go:∀ (ρ:En) j,(NL kp nt ix ρI j ρ).length=ρ.length:=by
  intro ρ
  induction ρ with
  | nil=>intro j; rfl
  | cons x r ih=>intro j; simp [NL,ih]
 unfold wb;split
 ·rfl
 ·exact go _ _
section
variable {ix kp:List Nat}
def WI (md:List Md) (kp:List Nat) (ρ:En) (σ:L2.St) (W:Addr->Prop) (a:Addr):Prop:=W a/\∃ j s,j ∈ kp/\ai md j ≠ .pl/\look ρ j=some s/\Ln s=true/\σ[j]?=some (some (.ref a))
theorem Cell.Kq {K:PySem.W.Frag} {ok ok' okq okq':Addr->Prop} {s:S} {v:V} (h:Cell K A H ok okq s v) (m:∀ a,Ln s=true->v=.ref a->ok a->ok' a) (mq:∀ a,okq a->okq' a):Cell K A H ok' okq' s v:=by
 cases s with
 | d y25=>
  cases y25 with
  | lst l=>obtain ⟨a,xs,e,h1,h2,h3,h4⟩:=h;exact ⟨a,xs,e,h1,h2,m a rfl e h3,h4⟩
  | _=>exact h
 | pot ns i r m'=>obtain ⟨p,q,e,h1,h2,h3,h4,h5,h6⟩:=h;exact ⟨p,q,e,h1,h2,h3,m p rfl e h4,h5,mq q h6⟩
 | dc kvs=>obtain ⟨a,ws,e,h1,h2,h3,h4⟩:=h;exact ⟨a,ws,e,h1,h2,m a rfl e h3,h4⟩
 | dk kvs=>obtain ⟨a,ws,e,h1,h2,h3,h4⟩:=h;exact ⟨a,ws,e,h1,h2,m a rfl e h3,h4⟩
 | dm kvs=>obtain ⟨a,ws,e,h1,h2,h3,h4⟩:=h;exact ⟨a,ws,e,h1,h2,m a rfl e h3,h4⟩
 | _=>exact h.elim
theorem R.Km (r:R C md A W ρ σ H) {j:Nat} {s:S} {a:Addr} (hk:j ∉ kp) (hm:ai md j ≠ .pl) (e:look ρ j=some s) (i:Ln s=true) (ev:σ[j]?=some (some (.ref a))):¬ WI md kp ρ σ W a:=by rintro ⟨_,j',s',k',m',e',i',v'⟩;exact r.inj j j' s s' a (fun z=>hk (by rw [z]; exact k')) hm m' e e' i i' ev v'
theorem R.inner (r:R C md A W ρ σ H) (hx:ix.Nodup):R C (b6 md nt ix kp) A (WI md kp ρ σ W) (kA nt ix ρ) (cst nt ix σ) H where
 len:=by simp [cst,kA]
 wa:=fun a h=>r.wa a h.1
 ak:=r.ak
 base:=r.base
 wf:=fun a h=>r.wf a h.1
 ma:=r.ma
 fo:=r.fo
 slot:=fun k s e=>by
  obtain ⟨hk,j,e1,e2⟩:=mz e;obtain ⟨v,ev,c⟩:=r.slot j s e2;refine ⟨v,by rw [eO hk e1,getD_some.mpr ev],?_⟩;rw [cW hk e1];unfold my;cases em:ai md j with
  | pl=>
   rw [em] at c;cases s with
   | d x=>exact c
   | scr ns=>exact c
   | dc kvs=>exact c
   | dn kvs=>exact c
   | _=>cases c
  | ow=>
   rw [em] at c;dsimp only;split
   ·rename_i hc;refine Cell.Kq c (fun a i z o=>⟨⟨o.1,j,s,by simpa using hc,by rw [em]; simp,e2,i,by rw [ev,z]⟩,o.2⟩) (fun _ h=>h)
   ·rename_i hc;exact Cell.Kq c (fun a i z o=>r.Km (by simpa using hc) (by rw [em]; simp) e2 i (by rw [ev,z])) (fun _ h=>h)
  | lk=>
   rw [em] at c;dsimp only;have z:Cell C.K A H (fun a=>¬ WI md kp ρ σ W a) (fun _=>True) s v:=Cell.Kq c (fun a i z o w=>o w.1) (fun _ h=>h);split <;> exact z
  | io=>
   rw [em] at c;dsimp only;split
   ·rename_i hc;refine Cell.Kq c (fun a i z o=>⟨⟨o.1,j,s,by simpa using hc,by rw [em]; simp,e2,i,by rw [ev,z]⟩,o.2⟩) (fun _ h=>h)
   ·rename_i hc;exact Cell.Kq c (fun a i z o=>r.Km (by simpa using hc) (by rw [em]; simp) e2 i (by rw [ev,z])) (fun _ _=>trivial)
 inj:=fun k1 k2 s s' a hne m1 m2 e1 e2 i1 i2 l1 l2=>by
  obtain ⟨hk1,j1,f1,g1⟩:=mz e1;obtain ⟨hk2,j2,f2,g2⟩:=mz e2;rw [cW hk1 f1] at m1;rw [cW hk2 f2] at m2;rw [eO hk1 f1] at l1;rw [eO hk2 f2] at l2;have n1:ai md j1 ≠ .pl:=fun z=>m1 (by unfold my; rw [z]);have n2:ai md j2 ≠ .pl:=fun z=>m2 (by unfold my; rw [z]);refine r.inj j1 j2 s s' a (fun z=>hne ?_) n1 n2 g1 g2 i1 i2 (getD_some.mp (KZ l1)) (getD_some.mp (KZ l2));subst z;have:=kU hx f1 f2;grind
theorem Ext.mono (e:Ext W H H') (m:∀ a,W a->W' a):Ext W' H H':=fun b o n h=>e b o (fun w=>n (m b w)) h
theorem mD (h:j ∈ ix):ix[ix.idxOf j]?=some j:=by have hl:=List.idxOf_lt_length_of_mem h;rw [Z3 hl];congr 1;exact List.getElem_idxOf hl
theorem R.outer {ρI:En} {σI:L2.St} {H':Hp} (r:R C md A W ρ σ H) (hx:ix.Nodup) (hk:∀ j ∈ kp,j ∈ ix/\(ai md j=.ow∨ai md j=.io)) (r':R C (b6 md nt ix kp) A (WI md kp ρ σ W) ρI σI H') (x:Ext (WI md kp ρ σ W) H H')
 (f:Fix (fun j=>nt<=j) (cst nt ix σ) σI):R C md A W (wb kp nt ix ρI ρ) σ H':=by
 have xw:Ext W H H':=x.mono fun a h=>h.1;have kept:∀ j s,j ∈ kp->look ρI (nt+ix.idxOf j)=some s->∃ v,σ[j]?=some (some v)/\Kh C A (WI md kp ρ σ W) H' s v (ai md j):=fun j s hj e=>by
  obtain ⟨hi,hm⟩:=hk j hj;obtain ⟨v,ev,c⟩:=r'.slot _ s e;have e1:ix[nt+ix.idxOf j - nt]?=some j:=by rw [Nat.add_sub_cancel_left]; exact mD hi
  rw [cW (MV _ _) e1] at c;have em:my md kp j=ai md j:=by unfold my;rcases hm with hm | hm <;> (rw [hm]; simp [hj])
  rw [em] at c;rw [f _ (MV _ _),eO (MV _ _) e1] at ev;exact ⟨v,getD_some.mp (KZ ev),c⟩
 exact {
  len:=by rw [Eb]; exact r.len
  wa:=r.wa
  ak:=r'.ak
  base:=r'.base
  wf:=r.wf
  ma:=r.ma
  fo:=r.fo
  slot:=fun j s e=>by
   rw [rE] at e;split at e
   ·rename_i hj;obtain ⟨v,ev,c⟩:=kept j s hj.2 e;refine ⟨v,ev,?_⟩;rcases (hk j hj.2).2 with hm | hm
    ·rw [hm] at c ⊢;exact Cell.Kq c (fun a _ _ o=>⟨o.1.1,o.2⟩) (fun _ h=>h)
    ·rw [hm] at c ⊢;exact Cell.Kq c (fun a _ _ o=>⟨o.1.1,o.2⟩) (fun _ h=>h)
   ·rename_i hj;have hj':j ∉ kp:=fun z=>hj ⟨aV e,z⟩;obtain ⟨v,ev,c⟩:=r.slot j s e;refine ⟨v,ev,?_⟩;have cell:∀ ok okq:Addr->Prop,ai md j ≠ .pl->Cell C.K A H ok okq s v->Cell C.K A H' ok okq s v:=fun ok okq mj c=>by
     cases s with
     | d y31=>
      cases y31 with
      | lst l=>obtain ⟨a,xs,rfl,h1,h2,h3,h4⟩:=c;exact ⟨a,xs,rfl,x a _ (r.Km hj' mj e rfl ev) h1,h2,h3,r.JT xw h4⟩
      | _=>exact r.KU xw c
     | pot ns i r' m'=>obtain ⟨p,q,rfl,h1,h2,h3,h4,h5,h6⟩:=c;exact ⟨p,q,rfl,x p _ (r.Km hj' mj e rfl ev) h1,x q _ (fun w=>h5 (r.wa q w.1)) h2,h3,h4,h5,h6⟩
     | dc kvs=>obtain ⟨a,ws,rfl,h1,h2,h3,h4,h5⟩:=c;exact ⟨a,ws,rfl,x a _ (r.Km hj' mj e rfl ev) h1,h2,h3,h4,r.JT xw h5⟩
     | dk kvs=>obtain ⟨a,ws,rfl,h1,h2,h3,h4,h5⟩:=c;exact ⟨a,ws,rfl,x a _ (r.Km hj' mj e rfl ev) h1,h2,h3,h4,r.JT xw h5⟩
     | dm kvs=>obtain ⟨a,ws,rfl,⟨o,h1⟩,h2,h3,h4⟩:=c;exact ⟨a,ws,rfl,⟨o,x a _ (r.Km hj' mj e rfl ev) h1⟩,h2,h3,r.Lx xw h4⟩
     | _=>exact c.elim
    cases em:ai md j with
    | pl=>
     rw [em] at c;cases s with
     | d y=>exact r.KU xw c
     | scr ns=>obtain ⟨a,z,c⟩:=c; exact ⟨a,z,c.ext xw r.wk⟩
     | dc kvs=>obtain ⟨a,ws,z,c1,c2,c3,c4⟩:=c; exact ⟨a,ws,z,xw a _ (fun w=>c2 (r.wa a w)) c1,c2,c3,r.JT xw c4⟩
     | dn kvs=>obtain ⟨a,ws,z,⟨o,c1⟩,c2,c3⟩:=c; exact ⟨a,ws,z,⟨o,xw a _ (fun w=>c2 (r.wa a w)) c1⟩,c2,r.Lx xw c3⟩
     | _=>first | (cases c; done) | (cases e3'; done) | (cases e2; done) | (cases e6; done) | contradiction
    | _=>rw [em] at c; exact cell _ _ (by rw [em]; simp) c
  inj:=fun j1 j2 s s' a hne m1 m2 e1 e2 i1 i2 l1 l2=>by
   rw [rE] at e1 e2;have back:∀ j s,j ∈ kp->look ρI (nt+ix.idxOf j)=some s->Ln s=true->σ[j]?=some (some (.ref a))->WI md kp ρ σ W a:=fun j s hj e i l=>by
    obtain ⟨v,ev,c⟩:=kept j s hj e;rw [l] at ev; cases ev;rcases (hk j hj).2 with hm | hm <;> (rw [hm] at c; exact (Cell.at i c).2.2.1)
   by_cases c1:j1 < ρ.length/\j1 ∈ kp
   ·rw [Y1 c1] at e1;by_cases c2:j2 < ρ.length/\j2 ∈ kp
    ·rw [Y1 c2] at e2;have g1:ix[nt+ix.idxOf j1 - nt]?=some j1:=by rw [Nat.add_sub_cancel_left]; exact mD (hk j1 c1.2).1
     have g2:ix[nt+ix.idxOf j2 - nt]?=some j2:=by rw [Nat.add_sub_cancel_left]; exact mD (hk j2 c2.2).1
     have em:∀ j ∈ kp,my md kp j ≠ .pl:=fun j hj=>by
      unfold my;rcases (hk j hj).2 with hm | hm <;> (rw [hm]; simp [hj])
     refine r'.inj _ _ s s' a (fun z=>hne ?_) (by rw [cW (MV _ _) g1]; exact em j1 c1.2) (by rw [cW (MV _ _) g2]; exact em j2 c2.2) e1 e2 i1 i2
      (by rw [f _ (MV _ _),eO (MV _ _) g1,getD_some.mpr l1]) (by rw [f _ (MV _ _),eO (MV _ _) g2,getD_some.mpr l2])
     rw [z] at g1;exact KZ (g1.symm.trans g2)
    ·rw [Y0 c2] at e2;exact r.Km (fun z=>c2 ⟨aV e2,z⟩) m2 e2 i2 l2 (back j1 s c1.2 e1 i1 l1)
   ·rw [Y0 c1] at e1;by_cases c2:j2 < ρ.length/\j2 ∈ kp
    ·rw [Y1 c2] at e2;exact r.Km (fun z=>c1 ⟨aV e1,z⟩) m1 e1 i1 l1 (back j2 s' c2.2 e2 i2 l2)
    ·rw [Y0 c2] at e2;exact r.inj j1 j2 s s' a hne m1 m2 e1 e2 i1 i2 l1 l2 }
def qa (nt:Nat) (ix kp:List Nat) (fi:MI) (lp:List D->MB):MN:=fun ρ=>(fi ρ).bind fun y=>(lp y.1 (kA nt ix y.2) []).bind fun z=>some (.d (.lst z.2),wb kp nt ix z.1 y.2)
def fh (nt:Nat) (ix kp:List Nat) (fi:MI) (lp:List D->MB):ME:=fun ρ=>(fi ρ).bind fun y=>(lp y.1 (kA nt ix y.2) []).bind fun z=>some (.val (.lst z.2),wb kp nt ix z.1 y.2)
theorem zQ (hx:ix.Nodup) (hk:∀ j ∈ kp,j ∈ ix/\(ai md j=.ow∨ai md j=.io)) (hl:∀ j,lj=some j->j ∉ kp)
 (hi:LI C md lj wi fi) (hg:LG C (b6 md nt ix kp) (fun j=>nt<=j) g fg) (ht:LT C (b6 md nt ix kp) tt ft) (hb:LB C (b6 md nt ix kp) nt tb fb):LN C md (hZ nt ix wi (Nq g tt tb)) (qa nt ix kp fi (K5 fg ft fb)):=by
 intro A W ρ σ H Q s ρ' r e k;unfold qa at e;simp only [Z0] at e;obtain ⟨⟨ds,ρ1⟩,e1,⟨ρ2,as⟩,e2,e3⟩:=e;cases e3;refine hi A W ρ σ H _ ds ρ1 r e1 fun J H1 x1 r1 it=>?_;refine G4 hg ht hb (it (WI md kp ρ1 σ W) (fun a h=>h.1) fun j a s' z mj ej ij lj'=>r1.Km (hl j z) mj ej ij lj') (kA nt ix ρ1) (cst nt ix σ) [] [] _ ρ2 as (r1.inner hx) .nil e2 fun σ2 H2 acc x2 r2 ra f2=>?_;have r3:=r1.outer hx hk r2 x2 f2;intro l hl2;have s1:=aw (o:=.lst acc) hl2;exact k l H2 _ (x1.trans (x2.mono fun a h=>h.1)) r3 hl2 s1 ⟨acc,aj,(ra.apart hl2).same s1⟩
theorem zR (h:LN C md t f) (hf:∀ ρ o ρ',g ρ=some (o,ρ')->∃ l,o=.val (.lst l)/\f ρ=some (.d (.lst l),ρ')):LE C md t g:=by intro A W ρ σ H Q o ρ' r e k;obtain ⟨l,rfl,e'⟩:=hf ρ o ρ' e;refine h A W ρ σ H Q _ ρ' r e' fun a H1 H2 x1 r1 ha s1 n=>?_;obtain ⟨xs,h1,h2⟩:=n;refine k _ H2 (x1.trans (Jo.ext s1)) (r1.same s1) ?_;show Ji _ _ _ (.lst l) _;rw [Ji];exact ⟨a,xs,rfl,h1,r1.fresh ha,h2.mono fun _ _ o _=>o.1⟩
theorem zS (hx:ix.Nodup) (hk:∀ j ∈ kp,j ∈ ix/\(ai md j=.ow∨ai md j=.io)) (hl:∀ j,lj=some j->j ∉ kp)
 (hi:LI C md lj wi fi) (hg:LG C (b6 md nt ix kp) (fun j=>nt<=j) g fg) (ht:LT C (b6 md nt ix kp) tt ft) (hb:LB C (b6 md nt ix kp) nt tb fb):LE C md (hZ nt ix wi (Nq g tt tb)) (fh nt ix kp fi (K5 fg ft fb)):=by
 refine zR (zQ hx hk hl hi hg ht hb) fun ρ o ρ' e=>?_;unfold fh at e;unfold qa;simp only [Z0] at e ⊢;obtain ⟨y,e1,z,e2,e3⟩:=e;cases e3;exact ⟨z.2,rfl,y,e1,z,e2,rfl⟩
end
def bw (fg:MG) (fb:MS):List D->En->Option (Fl × En)
 | [],ρ=>some (.nx,ρ)
 | d::ds,ρ=>(fg d ρ).bind fun ρ1=>(fb ρ1).bind fun x=>match x.1 with
  | .nx=>bw fg fb ds x.2
  | .ct=>bw fg fb ds x.2
  | .brk=>some (.nx,x.2)
  | .ret s=>some (.ret s,x.2)
def cp (fi:MI) (fg:MG) (fb:MS):MS:=fun ρ=>(fi ρ).bind fun y=>bw fg fb y.1 y.2
def NX (fc:MT) (fb:MS):Nat->En->Option (Fl × En)
 | 0,_=>none
 | n+1,ρ=>(fc ρ).bind fun x=>if x.1=true then (fb x.2).bind fun y=>(match y.1 with
  | .nx=>NX fc fb n y.2
  | .ct=>NX fc fb n y.2
  | .brk=>some (.nx,y.2)
  | .ret s=>some (.ret s,y.2)) else some (.nx,x.2)
def cq (n:Nat) (fc:MT) (fb:MS):MS:=NX fc fb n
inductive Pe (C:Cn) (md:List Md) (A W:Addr->Prop) (H0:Hp) (σ:L2.St) (fg:MG) (fb:MS) (fl:Fl) (ρ':En) (ds:List D) (σ1:L2.St) (H1:Hp):Prop
 | mk:∀ A1 W1 ρ1,Gr A W H0 A1 W1 H1->R C md A1 W1 ρ1 σ1 H1->Fix (dD md) σ σ1->bw fg fb ds ρ1=some (fl,ρ')->Pe C md A W H0 σ fg fb fl ρ' ds σ1 H1
theorem zT (hg:LG C md (dD md) g fg) (hb:LS C md tb fb) {J:It} {A W:Addr->Prop} {ds:List D} {H0:Hp} (it:js C A W J ds H0) (ρ:En) (σ:L2.St) (D:Ends) (fl:Fl) (ρ':En) (r:R C md A W ρ σ H0)
 (e:bw fg fb ds ρ=some (fl,ρ')) (k:KS C md A W σ H0 D ρ' fl):∃ W:Nat->Nat->L2.St->Hp->Prop,(∃ m,W 0 m σ H0)/\∀ i m σ H,W i m σ H ->
 (J.stop i H/\D.nx σ H)∨(J.go i H/\∃ N:L2.St->Hp->Prop,(∀ σ' H',N σ' H'->∃ m',m' < m/\W (i+1) m' σ' H')/\∀ x H',J.yld i H x H'->g x σ H' fun σ2 H2=>tb { D with nx:=N,ct:=N,bk:=D.nx } σ2 H2):=by
 refine ⟨fun i m σ1 H1=>m=ds.length - i/\i<=ds.length/\Pe C md A W H0 σ fg fb fl ρ' (ds.drop i) σ1 H1,
  ⟨ds.length,by simp,K0 _,A,W,ρ,Gr.refl _ _ _,r,Fix.refl _ _,by simpa using e⟩,?_⟩
 rintro i m σ1 H1 ⟨rfl,hi,A1,W1,ρ1,g1,r1,f1,e1⟩;obtain ⟨i1,i2⟩:=it A1 W1 H1 g1 i;by_cases hlt:i < ds.length
 ·obtain ⟨go,yl⟩:=i1 ds[i] (by simp [hlt]);rw [List.drop_eq_getElem_cons hlt] at e1;unfold bw at e1;simp only [Z0] at e1;obtain ⟨ρ2,e2,⟨fl3,ρ3⟩,e3,e4⟩:=e1;refine .inr ⟨go,Pe C md A W H0 σ fg fb fl ρ' (ds.drop (i+1)),?_,?_⟩
  ·intro σ' H' h;exact ⟨ds.length - (i+1),by omega,rfl,hlt,h⟩
  ·intro x H'' y;obtain ⟨sm,px⟩:=yl x H'' y;replace px:=r1.LJ px;replace g1:Gr A W H0 A1 W1 H'':=g1.trans r.wa (fun _ _=>trivial) (Gr.JM (Jo.ext sm));replace r1:=r1.same sm;refine hg A1 W1 ρ1 σ1 _ x ds[i] ρ2 _ r1 px e2 fun σ2 H2 x2 r2 f2=>?_;refine hb A1 W1 ρ2 σ2 H2 _ fl3 ρ3 r2 e3 ?_;have gg:∀ {A3 W3:Addr->Prop} {H3:Hp} {ρ3:En} {σ3:L2.St},Gr A1 W1 H2 A3 W3 H3->R C md A3 W3 ρ3 σ3 H3->Gr A W H0 A3 W3 H3:=fun g3 r3=>by
    have ga:Gr A1 W1 _ _ _ _:=(Gr.JM x2).trans r1.wa (fun _ _=>trivial) g3;exact g1.trans r.wa (fun _ _=>trivial) ga
   cases fl3 with
   | brk=>cases e4; exact fun A3 W3 σ3 H3 g3 r3 f3=>k A3 W3 σ3 H3 (gg g3 r3) r3 ((f1.trans f2).trans f3)
   | ret s=>cases e4; exact fun A3 W3 σ3 v H3 g3 r3 f3 z=>k A3 W3 σ3 v H3 (gg g3 r3) r3 ((f1.trans f2).trans f3) z
   | _=>exact fun A3 W3 σ3 H3 g3 r3 f3=>⟨A3,W3,ρ3,gg g3 r3,r3,(f1.trans f2).trans f3,e4⟩
 ·have e0:i=ds.length:=by omega
  subst e0;rw [List.drop_length] at e1;cases e1;exact .inl ⟨i2 (JI _),k A1 W1 σ1 H1 g1 r1 f1⟩
theorem Ec (hi:LI C md none wi fi) (hg:LG C md (dD md) g fg) (hb:LS C md tb fb):LS C md (C6 wi g tb) (cp fi fg fb):=by intro A W ρ σ H D fl ρ' r e k;unfold cp at e;simp only [Z0] at e;obtain ⟨⟨ds,ρ1⟩,e1,e2⟩:=e;refine hi A W ρ σ H _ ds ρ1 r e1 fun J H1 x1 r1 it=>?_;exact zT hg hb (it W (fun _ h=>h) (fun _ _ _ z=>by cases z)) ρ1 σ D fl ρ' r1 e2 (KS.then r (Gr.JM x1) r1 (Fix.refl _ _) k)
inductive Pq (C:Cn) (md:List Md) (A W:Addr->Prop) (H0:Hp) (σ:L2.St) (fc:MT) (fb:MS) (fl:Fl) (ρ':En) (m:Nat) (σ1:L2.St) (H1:Hp):Prop
 | mk:∀ A1 W1 ρ1,Gr A W H0 A1 W1 H1->R C md A1 W1 ρ1 σ1 H1->Fix (dD md) σ σ1->NX fc fb m ρ1=some (fl,ρ')->Pq C md A W H0 σ fc fb fl ρ' m σ1 H1
theorem we (n:Nat) (hc:LT C md c fc) (hb:LS C md tb fb):LS C md (uY c tb) (cq n fc fb):=by
 intro A W ρ σ H D fl ρ' r e k;unfold cq at e;refine ⟨Pq C md A W H σ fc fb fl ρ',⟨n,A,W,ρ,Gr.refl _ _ _,r,Fix.refl _ _,e⟩,?_⟩;rintro m σ1 H1 ⟨A1,W1,ρ1,g1,r1,f1,e1⟩;cases m with
 | zero=>cases e1
 | succ m=>
  unfold NX at e1;simp only [Z0] at e1;obtain ⟨⟨b,ρ2⟩,e2,e3⟩:=e1;refine hc A1 W1 ρ1 σ1 H1 _ b ρ2 r1 e2 fun H2 x2 r2=>?_;have gg:∀ {A3 W3:Addr->Prop} {H3:Hp} {ρ3:En} {σ3:L2.St},Gr A1 W1 H2 A3 W3 H3->R C md A3 W3 ρ3 σ3 H3->Gr A W H A3 W3 H3:=fun g3 r3=>by
   have ga:Gr A1 W1 _ _ _ _:=(Gr.JM x2).trans r1.wa (fun _ _=>trivial) g3;exact g1.trans r.wa (fun _ _=>trivial) ga
  cases b with
  | false=>simp only [Lk,if_false] at e3;cases e3;exact iF (k A1 W1 σ1 H2 (gg (Gr.refl _ _ _) r2) r2 f1)
  | true=>
   simp only [if_true,Z0] at e3;obtain ⟨⟨fl3,ρ3⟩,e4,e5⟩:=e3;refine iG ⟨Pq C md A W H σ fc fb fl ρ' m,?_,?_⟩
   ·rintro σ' H' h;exact ⟨m,Nat.lt_succ_self m,h⟩
   ·refine hb A1 W1 ρ2 σ1 H2 _ fl3 ρ3 r2 e4 ?_;cases fl3 with
    | brk=>cases e5; exact fun A3 W3 σ3 H3 g3 r3 f3=>k A3 W3 σ3 H3 (gg g3 r3) r3 (f1.trans f3)
    | ret s=>cases e5; exact fun A3 W3 σ3 v H3 g3 r3 f3 z=>k A3 W3 σ3 v H3 (gg g3 r3) r3 (f1.trans f3) z
    | _=>exact fun A3 W3 σ3 H3 g3 r3 f3=>⟨A3,W3,ρ3,gg g3 r3,r3,f1.trans f3,e5⟩
def cX (n:Nat) (ss:List S):En:=ss.map some++List.replicate (n - ss.length) none
def rF:Option (Fl × En)->Option S
 | some (.ret s,_)=>some s
 | some (.nx,_)=>some (.d .non)
 | _=>none
def Kg (n np:Nat) (mb:MS) (ss:List S):Option S:=if ss.length=np then rF (mb (cX n ss)) else none
def ou:Option (Fl × En)->Option (S × S)
 | some (.ret s,ρ)=>((look ρ 0).bind fV).map fun s0=>(s,s0)
 | some (.nx,ρ)=>((look ρ 0).bind fV).map fun s0=>(.d .non,s0)
 | _=>none
def wg (n np:Nat) (mb:MS) (ss:List S):Option (S × S):=if ss.length=np then ou (mb (cX n ss)) else none
theorem cr:∀ {ss:List S} {k i:Nat},look (ss.map some++List.replicate k none) i=ss[i]?
 | [],0,i=>by simp [look]
 | [],k+1,i=>by
  rw [Yl,List.nil_append];have:=ju (nt:=k+1) (k:=i) (l:=[]);rw [Ma] at this;rw [this];split <;> simp [look]
 | s::r,k,0=>by simp [look]
 | s::r,k,i+1=>by
  simp only [Z6,OC,look,List.getElem?_cons_succ];exact cr
theorem SL.length {K:PySem.W.Frag} {H:Hp} {ok:Addr->Prop}:∀ {ss:List S} {vs:List V},SL K H ok ss vs->vs.length=ss.length
 | [],vs,h=>by rw [show vs=[] from h]; rfl
 | s::ss,vs,h=>by
  obtain ⟨v,r,rfl,_,h2⟩:=h;simp [SL.length h2]
theorem SL.get {K:PySem.W.Frag} {H:Hp} {ok:Addr->Prop}:∀ {ss:List S} {vs:List V} {i:Nat} {s:S},SL K H ok ss vs->ss[i]?=some s->∃ v,vs[i]?=some v/\vU K H ok s v
 | [],vs,i,s,h,e=>by simp at e
 | s'::ss,vs,0,s,h,e=>by
  obtain ⟨v,r,rfl,h1,_⟩:=h;simp at e; subst e;exact ⟨v,rfl,h1⟩
 | s'::ss,vs,i+1,s,h,e=>by
  obtain ⟨v,r,rfl,_,h2⟩:=h;simp at e;obtain ⟨w,e1,h3⟩:=SL.get h2 e;exact ⟨w,by simpa using e1,h3⟩
theorem eP {N:List Str} {vs:List V} {i:Nat} {v:V} (h:vs[i]?=some v):(L2.start N vs)[i]?=some (some v):=by unfold L2.start;obtain ⟨hl,_⟩:=Z9.mp h;rw [Yo (by simpa using hl),Kb,h];rfl
theorem R.start {K:PySem.W.Frag} {md:List Md} {N:List Str} {ss:List S} {vs:List V} {H:Hp} (h:SL K H (fun _=>True) ss vs) (hN:ss.length<=N.length) (hmd:∀ i,i < ss.length->ai md i=.pl) :
 R ⟨K,H,fun _=>False,fun _=>False,false⟩ md (fun _=>False) (fun _=>False) (cX N.length ss) (L2.start N vs) H where
 len:=by simp [L2.start,cX,h.length]
 wa:=fun _ h=>h
 ak:=fun _ h=>h.elim
 base:=fun _ _ h _=>h
 wf:=fun _ h=>h.elim
 ma:=fun _ h=>h
 fo:=fun h=>by cases h
 slot:=fun i s e=>by
  unfold cX at e;rw [cr] at e;obtain ⟨v,ev,c⟩:=h.get e;refine ⟨v,eP ev,?_⟩;rw [hmd i (Z9.mp e).1];cases s with
  | d x=>exact Ji.mono c fun _ _ _ _ z=>z
  | scr ns=>exact c
  | dc kvs=>obtain ⟨a,ws,z,c1,c2,c3,c4⟩:=c; exact ⟨a,ws,z,c1,fun z=>z,c3,Jj.mono c4 fun _ _ _ _ z=>z⟩
  | dn kvs=>obtain ⟨a,ws,z,c1,c2,c3⟩:=c; exact ⟨a,ws,z,c1,fun z=>z,c3.mono fun _ _ _ _ z=>z⟩
  | _=>cases c
 inj:=fun i j s s' a hne m1 m2 e1 e2 i1 i2 l1 l2=>by
  unfold cX at e1;rw [cr] at e1;exact m1 (hmd i (Z9.mp e1).1)
section
variable {K:PySem.W.Frag}
theorem qb (h:rF o=some r):(∃ ρ,o=some (.ret r,ρ))∨∃ ρ,o=some (.nx,ρ)/\r=.d .non:=by
 match o,h with
 | some (.ret s,ρ),h=>cases h; exact .inl ⟨ρ,rfl⟩
 | some (.nx,ρ),h=>cases h; exact .inr ⟨ρ,rfl,rfl⟩
theorem rG {x qual:Str} {st:Stmt} {f:Addr} {fd:FuncData} {N ps:List Str} {k:Nat} {md:List Md} {mb:MS} (F:J1 K x qual st f fd) (S0:Jm N ps (ag st)) (hp:ps.length<=N.length) (hmd:∀ i,i < ps.length->ai md i=.pl)
 (hb:∀ (cdv:Value) (A:Around) (outer:List Env) (s:Shared) (H:Hp) (E:XK),JU k (A.deeper (envOfC qual (ag st) s.heap.objs.size f cdv)) ->
  ∃ t,K2 (jc JV P w K mg base N qual (ag st) f cdv A outer s H E).Nl (bg st) t/\∀ C:Cn,C.K=K->LS C md t mb) :
 Ju P w K mg base JV (k+1) f fd ps (JL K (Kg N.length ps.length mb)):=by
 refine F.ok S0 (fun vs H Q E h=>?_) (fun cdv A outer s H vs Q E hr h=>?_)
 ·obtain ⟨ss,r,h1,h2,_⟩:=h;unfold Kg at h2;split at h2
  ·rw [h1.length]; assumption
  ·cases h2
 ·obtain ⟨ss,r,h1,h2,q⟩:=h;obtain ⟨t,ht,hl⟩:=hb cdv A outer s H E hr;refine ⟨t,ht,?_⟩;unfold Kg at h2;split at h2
  ·rename_i hlen;have R0:=R.start (N:=N) (md:=md) h1 (by exact La (YA hlen) hp) (fun i hi=>hmd i (by exact KL hi (YA hlen)));have same:∀ {A' W':Addr->Prop} {ρ':En} {σ':L2.St} {H':Hp},R ⟨K,H,fun _=>False,fun _=>False,false⟩ md A' W' ρ' σ' H'->Jo H H':=fun r b o e=>r.base b o e (fun z=>z);rcases qb h2 with ⟨ρ',e⟩ | ⟨ρ',e,rfl⟩
   ·exact hl ⟨K,H,fun _=>False,fun _=>False,false⟩ rfl _ _ _ _ _ _ _ ρ' R0 e fun A' W' σ' v H' g r' f' z=>q v H' (same r') (by rcases z with z | z; exact z; cases z.1)
   ·exact hl ⟨K,H,fun _=>False,fun _=>False,false⟩ rfl _ _ _ _ _ _ _ ρ' R0 e fun A' W' σ' H' g r' f'=>q .non H' (same r') (show Ji _ _ _ _ _ from dL)
  ·cases h2
def wj:S->Bool
 | .d x=>D.imm x
 | _=>false
theorem R.startM {md:List Md} {N:List Str} {s0:S} {ss:List S} {vs:List V} {H:Hp} {p q:Addr} (fr:Bool) (hfr:fr=true->∀ s ∈ ss,wj s=true) (io:v9 K H p q s0) (h:SL K H (fun a=>a ≠ p) ss vs) (hN:ss.length+1<=N.length) (hm0:ai md 0=.io) (hmd:∀ i,i < ss.length->ai md (i+1)=.pl) :
 R ⟨K,H,fun a=>a=p,fun a=>a=q,fr⟩ md (fun a=>a=p∨(fr=true/\a ≠ q/\∃ xs,H a=some (.lst xs))) (fun a=>a=p) (cX N.length (s0::ss)) (L2.start N (.ref p::vs)) H where
 len:=by simp [L2.start,cX,h.length]
 wa:=fun _ h=>.inl h
 ak:=fun a e=>by
  rcases e with e | ⟨_,_,e⟩
  ·cases s0 with
   | pot ns i r m=>exact .inl ⟨_,(Y9 H e).trans io.2.1⟩
   | d y17=>
    cases y17 with
    | lst l=>obtain ⟨_,xs,z,_⟩:=io; exact .inl ⟨xs,(Y9 H e).trans z⟩
    | _=>first | (cases io; done) | (cases e3'; done) | (cases e2; done) | (cases e6; done) | contradiction
   | _=>first | (cases io; done) | (cases e3'; done) | (cases e2; done) | (cases e6; done) | contradiction
  ·exact .inl e
 base:=fun _ _ h _=>h
 wf:=fun _ h=>.inr h
 ma:=fun _ h=>.inl h
 fo:=fun hf a xs h n=>.inr ⟨hf,n,xs,h⟩
 slot:=fun i s e=>by
  unfold cX at e;rw [cr] at e
  match i,e with
  | 0,e=>
   simp at e; subst e;refine ⟨.ref p,eP rfl,?_⟩;rw [hm0];cases s0 with
   | pot ns i r m=>
    refine ⟨p,q,rfl,io.2.1,io.2.2,.inl rfl,⟨rfl,rfl⟩,fun z=>?_,rfl⟩;rcases z with z | ⟨_,z,_⟩
    ·exact io.1 z
    ·exact z rfl
   | d y18=>
    cases y18 with
    | lst l=>obtain ⟨im,xs,z,z2⟩:=io;exact ⟨p,xs,rfl,z,.inl rfl,⟨rfl,rfl⟩,Jj.JH im z2⟩
    | _=>first | (cases io; done) | (cases e3'; done) | (cases e2; done) | (cases e6; done) | contradiction
   | _=>first | (cases io; done) | (cases e3'; done) | (cases e2; done) | (cases e6; done) | contradiction
  | i+1,e=>
   simp at e;obtain ⟨v,ev,c⟩:=h.get e;refine ⟨v,eP (by simpa using ev),?_⟩;rw [hmd i (Z9.mp e).1];have hmem:s ∈ ss:=Y5 e;cases s with
   | d x=>
    cases fr with
    | true=>exact Ji.JH (hfr rfl _ hmem) (Ji.rep c)
    | false=>exact Ji.mono c fun a _ o _ z=>by rcases z with z | z; exact o z; cases z.1
   | scr ns=>exact c
   | dc kvs=>
    obtain ⟨b,ws,z,c1,c2,c3,c4⟩:=c;cases fr with
    | true=>have hi:=hfr rfl _ hmem;cases hi
    | false=>
     refine ⟨b,ws,z,c1,fun y=>?_,c3,Jj.mono c4 fun a _ o _ z=>?_⟩
     ·rcases y with y | y
      ·exact c2 y
      ·cases y.1
     ·rcases z with z | z
      ·exact o z
      ·cases z.1
   | dn kvs=>
    obtain ⟨b,ws,z,c1,c2,c3⟩:=c;cases fr with
    | true=>have hi:=hfr rfl _ hmem;cases hi
    | false=>
     refine ⟨b,ws,z,c1,fun y=>?_,c3.mono fun a _ o _ z=>?_⟩
     ·rcases y with y | y
      ·exact c2 y
      ·cases y.1
     ·rcases z with z | z
      ·exact o z
      ·cases z.1
   | _=>first | (cases hmem; done) | (cases c; done) | (cases e3'; done) | (cases e2; done) | (cases e6; done) | contradiction
 inj:=fun i j s s' a hne m1 m2 e1 e2 i1 i2 l1 l2=>by
  unfold cX at e1 e2;rw [cr] at e1 e2;have z:∀ i s,(s0::ss)[i]?=some s->ai md i ≠ .pl->i=0:=fun i s e m=>by
   match i,e with
   | 0,_=>rfl
   | i+1,e=>exact absurd (hmd i (Z9.mp (by simpa using e)).1) m
  exact hne ((z i s e1 m1).trans (z j s' e2 m2).symm)
theorem tZ (h:ou o=some y):∃ ρ,look ρ 0=some y.2/\fV y.2=some y.2/\((o=some (.ret y.1,ρ))∨(o=some (.nx,ρ)/\y.1=.d .non)):=by
 match o,h with
 | some (.ret s,ρ),h=>replace h:((look ρ 0).bind fV).map (fun s0=>(s,s0))=some y:=h;simp only [Y3,Z0] at h;obtain ⟨s0,⟨s1,e1,e2⟩,rfl⟩:=h;obtain ⟨rfl,_⟩:=eM e2;exact ⟨ρ,e1,e2,.inl rfl⟩
 | some (.nx,ρ),h=>replace h:((look ρ 0).bind fV).map (fun s0=>((.d .non:S),s0))=some y:=h;simp only [Y3,Z0] at h;obtain ⟨s0,⟨s1,e1,e2⟩,rfl⟩:=h;obtain ⟨rfl,_⟩:=eM e2;exact ⟨ρ,e1,e2,.inr ⟨rfl,rfl⟩⟩
def iH (fr:Bool) (n np:Nat) (mb:MS) (ss:List S):Option (S × S):=if fr=true/\(ss.tail.all wj=false∨(ss.head?.map jr).getD false=false) then none else wg n np mb ss
theorem G5 {x qual:Str} {st:Stmt} {f:Addr} {fd:FuncData} {N ps:List Str} {k:Nat} {md:List Md} {mb:MS} (fr:Bool) (F:J1 K x qual st f fd) (S0:Jm N ps (ag st)) (hp:ps.length<=N.length) (hm0:ai md 0=.io) (hmd:∀ i,i+1 < ps.length->ai md (i+1)=.pl)
 (hb:∀ (cdv:Value) (A:Around) (outer:List Env) (s:Shared) (H:Hp) (E:XK),JU k (A.deeper (envOfC qual (ag st) s.heap.objs.size f cdv)) ->
  ∃ t,K2 (jc JV P w K mg base N qual (ag st) f cdv A outer s H E).Nl (bg st) t/\∀ C:Cn,C.K=K->C.free=fr->LS C md t mb) :
 Ju P w K mg base JV (k+1) f fd ps (LY K (iH fr N.length ps.length mb)):=by
 refine F.ok S0 (fun vs H Q E h=>?_) (fun cdv A outer s H vs Q E hr h=>?_)
 ·obtain ⟨p,q,s0,ss,vs',r,s1,rfl,io,h1,h2,_⟩:=h;unfold iH at h2;split at h2
  ·cases h2
  unfold wg at h2;split at h2
  ·rw [M8,h1.length]; assumption
  ·cases h2
 ·obtain ⟨p,q,s0,ss,vs',r,s1,rfl,io,h1,h2,kq⟩:=h;obtain ⟨t,ht,hl⟩:=hb cdv A outer s H E hr;refine ⟨t,ht,?_⟩;unfold iH at h2;split at h2
  ·cases h2
  rename_i hfr;have hfr':fr=true->∀ s ∈ ss,wj s=true:=fun z s hs=>by
   have:=hfr;have e:ss.all wj=true:=by
    cases e:ss.all wj with
    | true=>rfl
    | false=>exact absurd ⟨z,.inl e⟩ this
   exact L0.mp e s hs
  unfold wg at h2;split at h2
  ·rename_i hlen;rw [M8] at hlen;have R0:=R.startM (N:=N) (md:=md) fr hfr' io h1 (by exact La (YA hlen) hp) hm0 (fun i hi=>hmd i (by lia));obtain ⟨ρ',e1,e2,e3⟩:=tZ h2;obtain ⟨_,is1,im1⟩:=eM e2;dsimp only at e1 e2 e3 is1 im1;have fin:∀ {A' W':Addr->Prop} {σ':L2.St} {H':Hp},R ⟨K,H,fun a=>a=p,fun a=>a=q,fr⟩ md A' W' ρ' σ' H'->Fix (dD md) (L2.start N (.ref p::vs')) σ'->Oz p H H'/\v9 K H' p q s1/\(jr s0=true∨∃ l,s1=.d (.lst l)∨jr s0=jr s0):=fun {A' W' σ' H'} r' f'=>by
    refine ⟨fun b o n e=>r'.base b o e n,?_,.inr ⟨[],.inr rfl⟩⟩;obtain ⟨v,ev,c⟩:=r'.slot 0 _ e1;rw [f' 0 (.inr hm0),eP (i:=0) (v:=.ref p) rfl] at ev;cases ev;rw [hm0] at c;cases s1 with
    | pot ns i r m=>obtain ⟨p',q',z,g1,g2,g3,g4,g5,g6⟩:=c;cases z;have:q'=q:=g6;subst this;exact ⟨fun z=>g5 (by rw [z]; exact g3),g1,g2⟩
    | d y19=>
     cases y19 with
     | lst l=>obtain ⟨a,xs,z,g1,g2,g3,g4⟩:=c;cases z;exact ⟨im1 l rfl,xs,g1,g4.Ks⟩
     | _=>first | (cases c; done) | (cases im1; done) | (cases is1; done) | (cases e3'; done) | (cases e2; done) | (cases e6; done) | contradiction
    | _=>first | (cases c; done) | (cases im1; done) | (cases is1; done) | (cases e3'; done) | (cases e2; done) | (cases e6; done) | contradiction
   have newm:∀ {H':Hp} {v:V},Cg ⟨K,H,fun a=>a=p,fun a=>a=q,fr⟩ H' r v->(jr s0=true∨fr=false)->G3 K H H' q s0 r v:=fun z hs=>by
    rcases z with z | ⟨zf,x,e,z⟩
    ·exact .inl z
    ·rcases hs with hs | hs
     ·exact .inr ⟨hs,x,e,z⟩
     ·rw [show fr=true from zf] at hs; cases hs
   have hs:jr s0=true∨fr=false:=by
    cases hfq:fr with
    | false=>exact .inr rfl
    | true=>
     cases s0 with
     | pot y20 y21 y22 y23=>exact .inl rfl
     | d y24=>
      cases y24 with
      | lst l=>exact absurd ⟨hfq,.inr rfl⟩ hfr
      | _=>first | (cases io; done) | (cases e3'; done) | (cases e2; done) | (cases e6; done) | contradiction
     | _=>first | (cases io; done) | (cases e3'; done) | (cases e2; done) | (cases e6; done) | contradiction
   rcases e3 with e3 | ⟨e3,rfl⟩
   ·exact hl ⟨K,H,fun a=>a=p,fun a=>a=q,fr⟩ rfl rfl _ _ _ _ _ _ _ ρ' R0 e3 fun A' W' σ' v H' g r' f' z=>kq v H' (fin r' f').1 (fin r' f').2.1 (newm z hs)
   ·exact hl ⟨K,H,fun a=>a=p,fun a=>a=q,fr⟩ rfl rfl _ _ _ _ _ _ _ ρ' R0 e3 fun A' W' σ' H' g r' f'=>kq .non H' (fin r' f').1 (fin r' f').2.1 (.inl (show Ji _ _ _ _ _ from dL))
  ·cases h2
def gL (K:PySem.W.Frag):Sp:=fun vs H Q _=>∃ (a:Addr) (ns:List Int),vs=[.ref a]/\Kf K H a ns/\ns.length<=63/\∀ H',Q (.bl true) H'
theorem Ed {x qual:Str} {st:Stmt} {f:Addr} {fd:FuncData} {N:List Str} {k:Nat} {md:List Md} {mb:MS} (F:J1 K x qual st f fd) (S0:Jm N ["script"] (ag st)) (hmd:ai md 0=.pl)
 (ok:∀ ns:List Int,ns.length<=63->Kg N.length 1 mb [.scr ns]=some (.d (.bl true)))
 (hb:∀ (cdv:Value) (A:Around) (outer:List Env) (s:Shared) (H:Hp) (E:XK),JU k (A.deeper (envOfC qual (ag st) s.heap.objs.size f cdv)) ->
  ∃ t,K2 (jc JV P w K mg base N qual (ag st) f cdv A outer s H E).Nl (bg st) t/\∀ C:Cn,C.K=K->LS C md t mb) (hN:1<=N.length:=by decide) :
 Ju P w K mg base JV (k+1) f fd ["script"] (gL K):=by
 refine (rG F S0 hN (fun i hi=>by have:i=0:=(by simpa using hi); rw [this]; exact hmd) hb).imp fun vs H Q E h=>?_;obtain ⟨a,ns,rfl,h1,h2,h3⟩:=h;refine ⟨[.scr ns],_,⟨_,[],rfl,⟨a,rfl,h1⟩,rfl⟩,ok ns h2,fun v H' _ n=>?_⟩;have:Ji K H' (fun a=>H a=none) (.bl true) v:=n;rw [Ji] at this;subst this;exact h3 H'
def qc:Option S->Option (List Int)
 | some (.scr ns)=>some ns
 | _=>none
theorem gM (h:qc o=some ns):o=some (.scr ns):=by
 cases o with
 | some y25=>
  cases y25 with
  | scr m=>cases h; rfl
  | _=>cases h
 | _=>cases h
def Ee (c:Int):Int:=if c < 0 then -c else c
def rH (ns:List Int) (i r m n:Int):Int × Int × Int:=
 if r=0 then
  if (ns.length:Int)<=i then
   ((((m+1000003 * (i+1)+76543) * 48271 % 2147483647 * ((m+1000003 * (i+1)+76543) * 48271 % 2147483647) % 2147483647+40692 * (i+1)) * 69621 % 2147483629 / 8) % n,i+1,r)
  else if Ee (ns.getD i.toNat 0) < 10 ^ 18 then (ns.getD i.toNat 0 % n,i+1,r)
  else (Ee (ns.getD i.toNat 0) % n,i+1,Ee (ns.getD i.toNat 0) / n)
 else (r % n,i,r / n)
def G6:List S->Option (S × S)
 | [.pot ns i r m,.d (.int n)]=>if 0 < n/\n.natAbs.log2 < 9000/\0<=i then some (.d (.int (rH ns i r m n).1),.pot ns (rH ns i r m n).2.1 (rH ns i r m n).2.2 m) else none
 | _=>none
end
end Mir
namespace L2
open PySem.Spec PyProof.Rows
section
variable {K:PySem.W.Frag}
def zU (z:Str) (n:Int):Str:=if n < 1 then Str.empty else if (n == 1 || z.length == 0)=true then z else ⟨(List.replicate n.toNat z.cps).foldl (·++·) #[]⟩
theorem wm (z:Str) (n:Nat) (acc:Array Nat):((List.replicate n z.cps).foldl (·++·) acc).size=acc.size+n * z.length:=by
 induction n generalizing acc with
 | zero=>simp
 | succ n ih=>rw [LR,Oo,ih,Array.size_append,Nat.succ_mul]; show _=_+(_+z.cps.size); grind
def Ch:R2:=fun x y H Q=>∃ l k xs,x=.ref l/\y=.int k/\Rd H l (.lst xs)/\-(2 ^ 63)<=k/\k < 2 ^ 63/\xs.length * k.toNat<=sizeLine /\
 ∀ p,H p=none->Q (.ref p) (upd H p (.lst (List.replicate k.toNat xs).flatten))
theorem zV:JK X (binaryOp .Mult) Ch:=by
 intro pins s σ H x y v u Q I rx ry h;obtain ⟨l,k,xs,rfl,rfl,hH,h1,h2,hz,q⟩:=h;cases rx;obtain ⟨t,rfl⟩:=ry;obtain ⟨z,its,n,r,hl,e⟩:=I.NZ hH;have hlen:its.toArray.size * k.toNat<=sizeLine:=by rw [Z4,<- hl]; exact hz
 have hcap:¬ its.toArray.size * k.toNat > (2 ^ 63 - 1) / 8:=by
  have:(sizeLine:Nat)<=(2 ^ 63 - 1) / 8:=by decide
  grind
 have hfit:¬ (!Builtin.List.listFitsIndex k)=true:=by rw [fitsIndex_both h1 h2];exact MR
 have hlong:¬ Builtin.List.listTooLong (its.toArray.size * k.toNat)=true:=by rw [vh hlen];exact MR
 have hnew:List.foldl (fun x1 x2=>x1++x2) #[] (List.replicate (if its.toArray.isEmpty=true then 0 else k.toNat) its.toArray)=(List.replicate k.toNat its).flatten.toArray:=by
  have f0:∀ m:Nat,List.foldl (fun x1 x2=>x1++x2) #[] (List.replicate m its.toArray)=(List.replicate m its).flatten.toArray:=fun m=>by
   have:=kL its m [];rw [List.nil_append] at this;exact this
  rw [f0];cases its with
  | nil=>simp
  | cons a r'=>rw [Y0 (by simp)]
 refine wpAny_binaryOp_repeat_ref (T:="list") (U:="int") (by decide) ⟨_,e,rfl⟩ (fun s'=>typeIs_int s' k t) noFill_list_mul F.fills_int_mul F.slot_int_rmul repeat_list F.slot_int_index.lookup
  (call_meets F.slot_int_rmul (typeIs_int s k t) F.entry_int_rmul (F.args_int_rmul_2 _ _) (int___rmul___int_list k t l its.toArray n)
   ⟨e,rfl,⟨_,e,rfl⟩,call_meets F.slot_list_mul ⟨_,e,rfl⟩ F.entry_list_mul (F.args_list_mul_2 _ _) (AutoListH.list___mul___list_int_3 l its.toArray n k t hfit hcap hlong) ⟨e,?_⟩⟩)
 rw [hnew];exact ⟨.ref _,_,I.N7 (t':=s.toks) (r.rep k.toNat) (by rw [yY,Nat.mul_comm]; exact hz),rfl,q _ I.fresh⟩
def Ci:R2:=fun x y H Q=>match x,y with
 | .int i,.int j=>Lh i j/\Q (.int (i * j)) H
 | .ref a,.int j=>Ch (.ref a) (.int j) H Q
 | .str z,.int n=>(0<=n/\n<=1000/\z.length<=1000)/\Q (.str (zU z n)) H
 | _,_=>False
theorem zW:JK X (binaryOp .Mult) Ci:=by
 intro pins s σ H x y v u Q I rx ry h;cases x with
 | int i=>
  cases y with
  | int j=>exact ze pins s σ H _ _ v u Q I rx ry h
  | _=>exact False.elim h
 | ref a=>
  cases y with
  | int j=>exact zV pins s σ H _ _ v u Q I rx ry h
  | _=>exact False.elim h
 | str z=>
  cases y with
  | int n=>
   obtain ⟨⟨h0,h1,h2⟩,q⟩:=h;obtain ⟨t,rfl⟩:=rx; obtain ⟨t',rfl⟩:=ry;have small:z.length * n.toNat<=1000000:=by
    have:n.toNat<=1000:=by lia
    calc z.length * n.toNat<=1000 * 1000:=Nat.mul_le_mul h2 this
     _=1000000:=by decide
   refine PySem.P.mul_str (by rw [Y2 (by lia),Y2 (by lia)]; rfl) (fun hn _=>?_) (fun _ _=>?_) ?_
   ·have:(z.length:Int) * n<=2 ^ 63 - 1:=by
     have e:(z.length:Int) * n=((z.length * n.toNat:Nat):Int):=by rw [Int.natCast_mul,Int.toNat_of_nonneg h0]
     rw [e]; lia
    intro hgt;have:(2 ^ 63 - 1) / n * n<=2 ^ 63 - 1:=Int.ediv_mul_le _ (by lia);have:(z.length:Int)<=(2 ^ 63 - 1) / n:=by rw [Int.le_ediv_iff_mul_le (by grind)]; assumption
    lia
   ·show decide (z.length * n.toNat > sizeLine)=false;rw [Y2];have:(1000000:Nat) < sizeLine:=by decide
    lia
   ·unfold zU at q;have big:(1000000:Nat) < sizeLine:=by decide
    split
    ·rename_i hn;rw [Y1 hn] at q;exact ⟨by decide,.str _,H,I.tok _,⟨_,rfl⟩,q⟩
    ·rename_i hn;rw [Y0 hn] at q;split
     ·rename_i h3;rw [Y1 h3] at q;exact ⟨.str _,H,I,⟨_,rfl⟩,q⟩
     ·rename_i h3;rw [Y0 h3] at q;refine ⟨?_,.str _,H,I.tok _,⟨_,rfl⟩,q⟩;show Array.size _<=_;rw [wm];have:z.length * n.toNat=n.toNat * z.length:=Nat.mul_comm _ _;simp;grind
  | _=>exact False.elim h
 | _=>exact False.elim h
def Ef (K:PySem.W.Frag):V->Option Int->Option Int->Hp->VK->Prop:=fun x lo hi H Q=>Gz x lo hi H Q∨Go K x lo hi H Q∨Gi K x lo hi H Q
theorem wo (kt:KT K) (hK:X.K=K:=by rfl):M5 X (Ef K):=by subst hK;exact Oj.or (Ni.or Dj)
def Cj (xs:List V) (H:Hp) (Q:VK):Prop:=∃ i j,xs=[.int i,.int j]/\Q (.int (if j < i then j else i)) H
def Ck (xs:List V) (H:Hp) (Q:VK):Prop:=∃ i j,xs=[.int i,.int j]/\Q (.int (if j > i then j else i)) H
theorem qd (hc:X.calm=true):Jx X (.builtin "min") Cj:=sW hc
theorem qe (hc:X.calm=true):Jx X (.builtin "max") Ck:=sV hc
def G7 (K:PySem.W.Frag) (ta:TE):TT:=fun σ H Q=>ta σ H fun x H'=>∃ k,Dc K x H' k/\Q k H'
theorem Eg (kt:KT K) (ha:PE X a ta) (he:∀ whole,isTrue a X.env whole=(do let v <- whole; standAt a.pos; holding [v] (truthy v)):=by intro _; rfl) (hK:X.K=K:=by rfl):PT X a (G7 K ta):=by subst hK;exact u6 ha he
def Cl (K:PySem.W.Frag) (xs:List V) (H:Hp) (Q:VK):Prop:=l8 K xs H Q∨B8 xs H Q
theorem t7 (kt:KT K) (hc:X.calm=true) (hK:X.K=K:=by rfl):Jx X (.type "tuple") (Cl K):=by subst hK;exact (nX ⟨⟩).or (tP hc)
def Eh (K:PySem.W.Frag) (n:Nat) (neg:Bool):R2:=fun x y H Q=>Dv K n neg x y H Q∨(neg=true/\me x y H Q)
theorem t8 (kt:KT K) (hu:X.A.units+n+1 < cLine) (hK:X.K=K:=by rfl):JK X (compareOp .NotIn) (Eh K n true):=by
 subst hK;intro pins s σ H x y v u Q I rx ry h;rcases h with h | ⟨_,h⟩
 ·exact tz hu pins s σ H x y v u Q I rx ry h
 ·exact tQ pins s σ H x y v u Q I rx ry h
theorem wp (ts:List Str) (hc:X.calm=true) (S:JZ X scope ts (bM X.N scope.names)) (hi:PI X tg iter wi)
 (hg:∀ C s2 H2 fp,PG (aD X scope ts (bM X.N scope.names) C s2 H2 fp) tg g) (ht:∀ C s2 H2 fp,Nr (aD X scope ts (bM X.N scope.names) C s2 H2 fp) ifs tt) (he:∀ C s2 H2 fp,PE (aD X scope ts (bM X.N scope.names) C s2 H2 fp) elt te)
 (hs:∀ x,foldedSetIterable iter X.env x=pure x:=by intro _; rfl) :
 PE X (.ListComp elt [⟨tg,iter,ifs,0⟩] scope pos) (hZ ts.length (bM X.N scope.names) wi (Nq g tt (kN te))):=
 nS (ts:=ts) hc S hi (rb hc hg ht he) hs
end
end L2
namespace Mir
open PySem.Spec PyProof.Rows L2
def wq:D->D->Option D
 | .int i,.int j=>if Lh i j then some (.int (i * j)) else none
 | .lst l,.int k=>if -(2 ^ 63)<=k/\k < 2 ^ 63/\l.length * k.toNat<=sizeLine then some (.lst (List.replicate k.toNat l).flatten) else none
 | .str z,.int n=>if 0<=n/\n<=1000/\z.length<=1000 then some (.str (zU z n)) else none
 | _,_=>none
section
variable {K:PySem.W.Frag}
def ox (l:List D) (lo hi:Option Int):List D:=(l.drop (HT.JE l.length 0 lo)).take (HT.JE l.length l.length hi - HT.JE l.length 0 lo)
def Oy (d:D) (lo hi:Option Int):Option D:=match d with
 | .str z=>if z.length<=sizeLine then some (.str (Txt.slice z lo hi)) else none
 | .lst l=>some (.lst (ox l lo hi))
 | .tup l=>if HT.JE l.length 0 lo=0/\HT.JE l.length l.length hi=l.length then none else some (.tup (ox l lo hi))
 | _=>none
theorem Jj.cut {H:Hp} {ok:Addr->Prop} {l:List D} {xs:List V} {lo hi:Option Int} (r:Jj K H ok l xs):Jj K H ok (ox l lo hi) (kj xs lo hi):=by unfold ox kj;rw [r.length];exact (r.drop _).take _
theorem wr {H:Hp} {ok:Addr->Prop} {x:V} {d u:D} {lo hi:Option Int} {Q:VK} (h:JD K H ok d x) (g:Oy d lo hi=some u) (k:∀ v H',Jo H H'->Ji K H' (fun a=>ok a∨H a=none) u v->Q v H'):Ef K x lo hi H Q:=by
 cases d with
 | str z=>
  replace g:(if z.length<=sizeLine then some (D.str (Txt.slice z lo hi)) else none)=some u:=g;split at g
  ·rename_i hz; cases g; exact .inl ⟨z,h.str_inv,hz,k _ H (Jo.refl _) cV⟩
  ·cases g
 | lst l=>cases g;obtain ⟨p,xs,rfl,hp,rp⟩:=h.lst_inv;refine .inr (.inl ⟨p,xs,rfl,.inl (.inl hp),fun t ht=>?_⟩);have s:=aw (o:=.lst (kj xs lo hi)) ht;refine k _ _ s ?_;rw [Ji];exact ⟨t,_,rfl,aj,.inr ht,(rp.cut.same s).mono fun _ _ o _=>.inl o⟩
 | tup l=>
  replace g:(if HT.JE l.length 0 lo=0/\HT.JE l.length l.length hi=l.length then none else some (D.tup (ox l lo hi)))=some u:=g;split at g
  ·cases g
  ·rename_i hw;cases g;obtain ⟨p,xs,rfl,hp,rp⟩:=h.JJ;refine .inr (.inr ⟨p,xs,rfl,hp,by rw [rp.length]; exact hw,fun t ht=>?_⟩);have s:=aw (o:=.tup (kj xs lo hi)) ht;refine k _ _ s ?_;rw [Ji];exact ⟨t,_,rfl,aj,(rp.cut.same s).mono fun _ _ o _=>.inl o⟩
 | _=>cases g
def rJ:List D->Option D
 | [.int i,.int j]=>some (.int (if j < i then j else i))
 | _=>none
def rK:List D->Option D
 | [.int i,.int j]=>some (.int (if j > i then j else i))
 | _=>none
theorem KW.L6 (h:KW K H ok [d,e] vs):∃ v w,vs=[v,w]/\JD K H ok d v/\JD K H ok e w:=by obtain ⟨v,r,rfl,h1,h2⟩:=h;obtain ⟨w,rfl,h3⟩:=h2.Jy;exact ⟨v,w,rfl,h1,h3⟩
theorem zX:Na K Cj rJ:=by
 intro H ok vs ds u Q h g k;cases ds with
 | cons y33 y34=>
  cases y33 with
  | int i=>
   cases y34 with
   | cons y35 y36=>
    cases y35 with
    | int j=>
     cases y36 with
     | nil=>cases g;obtain ⟨v,w,rfl,h1,h2⟩:=h.L6;obtain rfl:=h1.int_inv; obtain rfl:=h2.int_inv;exact ⟨i,j,rfl,k _ H (Jo.refl _) ax⟩
     | _=>cases g
    | _=>cases g
   | _=>cases g
  | _=>cases g
 | _=>cases g
theorem zY:Na K Ck rK:=by
 intro H ok vs ds u Q h g k;cases ds with
 | cons y37 y38=>
  cases y37 with
  | int i=>
   cases y38 with
   | cons y39 y40=>
    cases y39 with
    | int j=>
     cases y40 with
     | nil=>cases g;obtain ⟨v,w,rfl,h1,h2⟩:=h.L6;obtain rfl:=h1.int_inv; obtain rfl:=h2.int_inv;exact ⟨i,j,rfl,k _ H (Jo.refl _) ax⟩
     | _=>cases g
    | _=>cases g
   | _=>cases g
  | _=>cases g
 | _=>cases g
theorem oy (z:Str):Jj K H ok (cn z) (dH z):=by
 unfold cn dH
 induction z.cps.toList with
 | nil=>exact .nil
 | cons c r ih=>exact .cons cV ih
def Jh:List D->Option D
 | [.lst l]=>some (.lst l)
 | [.tup l]=>some (.lst l)
 | [.str z]=>if z.length<=sizeLine then some (.lst (cn z)) else none
 | _=>none
def Ei:List D->Option D
 | [.lst l]=>some (.tup l)
 | [.tup l]=>some (.tup l)
 | [.str z]=>if z.length<=sizeLine then some (.tup (cn z)) else none
 | _=>none
theorem zZ:Na K (Cl K) Ei:=by
 intro H ok vs ds u Q h g k;cases ds with
 | cons y43 y44=>
  cases y43 with
  | lst l=>
   cases y44 with
   | nil=>exact .inl (v5 H ok vs _ u Q h g k)
   | _=>cases g
  | tup l=>
   cases y44 with
   | nil=>exact .inl (v5 H ok vs _ u Q h g k)
   | _=>cases g
  | str z=>
   cases y44 with
   | nil=>
    replace g:(if z.length<=sizeLine then some (D.tup (cn z)) else none)=some u:=g;split at g
    ·rename_i hz;cases g;obtain ⟨v,rfl,h1⟩:=h.Jy;obtain rfl:=h1.str_inv;refine .inr ⟨z,rfl,hz,fun t ht=>?_⟩;have s:=aw (o:=.tup (dH z)) ht;refine k _ _ s ?_;rw [Ji];exact ⟨t,_,rfl,aj,oy z⟩
    ·cases g
   | _=>cases g
  | _=>cases g
 | _=>cases g
def O8 (n:Nat) (neg:Bool) (d e:D):Option D:=match d,e with
 | .str y,.str z=>match y.cps.toList with
  | [c]=>if neg=true then some (.bl (!decide (c ∈ z.cps.toList))) else none
  | _=>none
 | d,e=>inD n neg d e
theorem z8 {y:Str} {c:Nat} (h:y.cps.toList=[c]):y=⟨#[c]⟩:=by
 obtain ⟨cps⟩:=y;have:cps=[c].toArray:=by rw [<- h]
 rw [this]
theorem z9:KR K (Eh K n neg) (O8 n neg):=by
 intro H ok x y d e u Q h1 h2 g k
 match d,e,g with
 | .str a,.str z,g=>
  replace g:(match a.cps.toList with | [c]=>if neg=true then some (D.bl (!decide (c ∈ z.cps.toList))) else none | _=>none)=some u:=g;split at g
  ·rename_i c hc;split at g
   ·rename_i hn;cases g;obtain rfl:=h1.str_inv; obtain rfl:=h2.str_inv;rw [z8 hc];exact .inr ⟨hn,vJ (k _ H (Jo.refl _) aW)⟩
   ·cases g
  ·cases g
 | d,.non,g=>exact .inl (eY H ok x y d _ u Q h1 h2 (by cases d <;> exact g) k)
 | d,.bl _,g=>exact .inl (eY H ok x y d _ u Q h1 h2 (by cases d <;> exact g) k)
 | d,.int _,g=>exact .inl (eY H ok x y d _ u Q h1 h2 (by cases d <;> exact g) k)
 | d,.tup _,g=>exact .inl (eY H ok x y d _ u Q h1 h2 (by cases d <;> exact g) k)
 | d,.lst _,g=>exact .inl (eY H ok x y d _ u Q h1 h2 (by cases d <;> exact g) k)
 | .non,.str z,g=>exact .inl (eY H ok x y _ _ u Q h1 h2 g k)
 | .bl _,.str z,g=>exact .inl (eY H ok x y _ _ u Q h1 h2 g k)
 | .int _,.str z,g=>exact .inl (eY H ok x y _ _ u Q h1 h2 g k)
 | .tup _,.str z,g=>exact .inl (eY H ok x y _ _ u Q h1 h2 g k)
 | .lst _,.str z,g=>exact .inl (eY H ok x y _ _ u Q h1 h2 g k)
end
abbrev MO:=En->Option (Option Int × En)
def LO (C:Cn) (md:List Md) (t:TO) (f:MO):Prop:=∀ (A W:Addr->Prop) (ρ:En) (σ:L2.St) (H:Hp) (Q:Option Int->Hp->Prop) (b:Option Int) (ρ':En),R C md A W ρ σ H->f ρ=some (b,ρ') ->
 (∀ H',Ext W H H'->R C md A W ρ' σ H'->Q b H')->t σ H Q
def wt:MO:=fun ρ=>some (none,ρ)
def Nu:D->Option Int
 | .int i=>some i
 | _=>none
theorem fW (h:Nu d=some i):d=.int i:=by cases d <;> first | (cases h; done) | (cases h; rfl)
def fB (f:ME):MO:=fun ρ=>(f ρ).bind fun x=>(res x.2 x.1).bind fun d=>(Nu d).bind fun i=>some (some i,x.2)
theorem G8:LO C md qX wt:=by intro A W ρ σ H Q b ρ' r e k;cases e;exact k H (Ext.refl _ _) r
theorem Aa (h:LE C md t f):LO C md (B0 t) (fB f):=by intro A W ρ σ H Q b ρ' r e k;unfold fB at e;simp -iota only [Z0] at e;obtain ⟨⟨o,ρ1⟩,e1,d,e2,i,e3,e4⟩:=e;cases e4;cases fW e3;exact h A W ρ σ H _ o _ r e1 fun v H1 x1 r1 p1=>⟨i,(p1.get r1 e2).int_inv,k H1 x1 r1⟩
def fX:List D->Option (List Str)
 | []=>some []
 | .str i::r=>(fX r).map (i::·)
 | _=>none
theorem kW:∀ {l:List D} {ns:List Str},fX l=some ns->l=ns.map D.str
 | [],ns,h=>by cases h; rfl
 | .str i::r,ns,h=>by
  replace h:(fX r).map (i::·)=some ns:=h;cases e:fX r with
  | none=>rw [e] at h; cases h
  | some m=>rw [e] at h; cases h; simp -iota [kW e]
theorem wu (ns:List Str):fX (ns.map D.str)=some ns:=by
 induction ns with
 | nil=>rfl
 | cons a r ih=>rw [Z6,fX,ih]; rfl
theorem jv {K:PySem.W.Frag} {H:Hp} {ok:Addr->Prop}:∀ {ns:List Str} {xs:List V},Jj K H ok (ns.map D.str) xs->xs=ns.map V.str
 | [],xs,h=>h.nil_inv
 | i::r,xs,h=>by
  obtain ⟨x,t,rfl,h1,h2⟩:=h.cons_inv;rw [Ji] at h1;rw [h1,jv h2]; rfl
def ww (z:Str):List D->Option D
 | [.lst l]=>(fX l).bind fun ys=>if (ys.map (·.length)).sum+ys.length * z.length<=16777216 then some (.str (Txt.join z ys)) else none
 | _=>none
def oz (z:Str) (f:MA):ME:=fun ρ=>(f ρ).bind fun x=>(dg x.2 x.1).bind fun ds=>(ww z ds).bind fun u=>some (.val u,x.2)
theorem Ab (h:LA C md t f):LE C md (Mv C.K "str" (B7 C.K) (tC (.str z)) t) (oz z f):=by
 intro A W ρ σ H Q o ρ' r e k;unfold oz at e;simp -iota only [Z0] at e;obtain ⟨⟨os,ρ1⟩,e1,ds,e2,u,e3,e4⟩:=e;cases e4;refine ⟨rfl,h A W ρ σ H _ os _ r e1 fun vs H1 x1 r1 p1=>?_⟩;cases ds with
 | cons y45 y46=>
  cases y45 with
  | lst l=>
   cases y46 with
   | nil=>
    replace e3:((fX l).bind fun ys=>if (ys.map (·.length)).sum+ys.length * z.length<=16777216 then some (D.str (Txt.join z ys)) else none)=some u:=e3;simp -iota only [Z0] at e3;obtain ⟨ys,e5,e6⟩:=e3;split at e6
    ·rename_i hz;cases e6;obtain ⟨v,rfl,h1⟩:=(p1.get r1 e2).Jy;obtain ⟨p,xs,rfl,hp,rp⟩:=h1.lst_inv;rw [kW e5] at rp;refine ⟨z,p,ys,rfl,rfl,.inl (.inl ?_),hz,k _ H1 x1 r1 (show Ji _ _ _ _ _ from cV)⟩;rw [<- jv rp];exact hp
    ·cases e6
   | _=>cases e3
  | _=>cases e3
 | _=>cases e3
def Ej:D->Option Bool
 | .non=>some false
 | .bl b=>some b
 | .int i=>some (i != 0)
 | .str y=>if y.length<=sizeLine then some ((y.length:Int) != 0) else none
 | .tup l=>some (!l.isEmpty)
 | .lst l=>some (!l.isEmpty)
def fD (f:ME):MT:=fun ρ=>(f ρ).bind fun x=>(res x.2 x.1).bind fun d=>(Ej d).bind fun b=>some (b,x.2)
theorem ii {α β:Type} {l:List α} {m:List β} (h:l.length=m.length):l.isEmpty=m.isEmpty:=by cases l <;> cases m <;> simp -iota at h ⊢
theorem Ek {t:TE} {f:ME} (h:LE C md t f):LT C md (G7 C.K t) (fD f):=by
 intro A W ρ σ H Q b ρ' r e k;unfold fD at e;simp -iota only [Z0] at e;obtain ⟨⟨o,ρ1⟩,e1,d,e2,b',e3,e4⟩:=e;cases e4;refine h A W ρ σ H _ o _ r e1 fun v H1 x1 r1 p1=>⟨b,?_,k H1 x1 r1⟩;have p:=p1.get r1 e2;cases d with
 | non=>cases e3; obtain rfl:=p.K1; rfl
 | bl c=>cases e3; obtain rfl:=p.Ko; rfl
 | int c=>cases e3; obtain rfl:=p.int_inv; rfl
 | str c=>
  obtain rfl:=p.str_inv;replace e3:(if c.length<=sizeLine then some ((c.length:Int) != 0) else none)=some b:=e3;split at e3
  ·rename_i hz; cases e3; exact ⟨hz,rfl⟩
  ·cases e3
 | tup l=>cases e3; obtain ⟨q,xs,rfl,hp,rp⟩:=p.JJ; exact .inr (.inl ⟨xs,hp,by rw [ii rp.length]⟩)
 | lst l=>cases e3; obtain ⟨q,xs,rfl,hp,rp⟩:=p.lst_inv; exact .inl ⟨xs,.inl (.inl hp),by rw [ii rp.length]⟩
theorem Ac (ha:LE C md ta fa):LT C md (BZ ta) (mB fa):=GU ha
def kX (i:Nat):ME:=fun ρ=>(qc (look ρ i)).bind fun ns=>some (.val (.int ns.length),ρ)
theorem Ad (hm:ai md i=.pl):LE C md (N6 (tE C.K) (bS (aS i) dB)) (kX i):=by intro A W ρ σ H Q o ρ' r e k;unfold kX at e;simp -iota only [Z0] at e;obtain ⟨ns,e1,e2⟩:=e;cases e2;obtain ⟨v,ev,c⟩:=r.slot i _ (gM e1);rw [hm] at c;obtain ⟨a,rfl,c⟩:=c;refine ⟨_,ev,_,ns.length,rfl,.inl ⟨_,c.sq,by simp⟩,k _ H (Ext.refl _ _) r (show Ji _ _ _ _ _ from ax)⟩
def wz (i:Nat) (f:ME):ME:=fun ρ=>(qc (look ρ i)).bind fun _=>(f ρ).bind fun x=>(res x.2 x.1).bind fun d=>(Nu d).bind fun j=>(qc (look x.2 i)).bind fun ns=>(Ku ns j).bind fun n=>some (.val (.int n),x.2)
theorem wA (h:Ku ns j=some n):Ku (ns.map V.int) j=some (V.int n):=by
 unfold Ku at h ⊢;rw [Z2];cases e:Mh ns.length j with
 | none=>rw [e] at h; cases h
 | some k=>rw [e] at h;have h:ns[k]?=some n:=h;show (ns.map V.int)[k]?=_;rw [Kb,h]; rfl
def Ae:Option S->Option S
 | some (.d x)=>some (.d x)
 | some (.scr ns)=>some (.scr ns)
 | some (.dc kvs)=>some (.dc kvs)
 | some (.dn kvs)=>some (.dn kvs)
 | _=>none
def dO (ρ:En):List Op->Option (List S)
 | []=>some []
 | o::os=>(Ae (GO ρ o)).bind fun d=>(dO ρ os).bind fun ds=>some (d::ds)
theorem J3.Lc (r:R C md A W ρ σ H):∀ {os:List Op} {vs:List V} {ss:List S},J3 C A σ H os vs->dO ρ os=some ss->SL C.K H (fun _=>True) ss vs
 | [],vs,ss,h,e=>by cases e; exact h
 | o::os,vs,ss,h,e=>by
  obtain ⟨v,t,rfl,h1,h2⟩:=h;unfold dO at e;simp -iota only [Z0] at e;obtain ⟨s,e1,ss',e2,e3⟩:=e;cases e3;refine ⟨v,t,rfl,?_,J3.Lc r h2 e2⟩
  match o,h1,e1 with
  | .val d,h1,e1=>cases e1; exact (Ji.top h1).any
  | .var i,h1,e1=>
   replace e1:Ae (look ρ i)=some s:=e1;cases el:look ρ i with
   | none=>rw [el] at e1; cases e1
   | some s'=>
    rw [el] at e1;obtain ⟨v',ev',c⟩:=r.slot i _ el;rw [show σ[i]?=some (some v) from h1] at ev'; cases ev'
    match s',e1,c with
    | .d x,e1,c=>cases e1; exact c.top.any
    | .scr ns,e1,c=>
     cases e1;cases em:ai md i with
     | pl=>rw [em] at c; exact c
     | _=>rw [em] at c; exact c.elim
    | .dn kvs,e1,c=>
     cases e1;cases em:ai md i with
     | pl=>rw [em] at c;obtain ⟨a,ws,z,c1,c2,c3⟩:=c;exact ⟨a,ws,z,c1,trivial,c3.mono fun _ _ _ _=>trivial⟩
     | _=>rw [em] at c; exact c.elim
    | .dc kvs,e1,c=>
     cases e1;have cc:∀ {ok okq:Addr->Prop},Cell C.K A H ok okq (.dc kvs) v->vU C.K H (fun _=>True) (.dc kvs) v:=fun c=>by
      obtain ⟨a,ws,z,c1,c2,c3,c4,c5⟩:=c;exact ⟨a,ws,z,c1,trivial,c4,Jj.mono c5 fun _ _ _ _=>trivial⟩
     cases em:ai md i with
     | pl=>rw [em] at c;obtain ⟨a,ws,z,c1,c2,c3,c4⟩:=c;exact ⟨a,ws,z,c1,trivial,c3,Jj.mono c4 fun _ _ _ _=>trivial⟩
     | ow=>rw [em] at c; exact cc (ok:=fun a=>W a/\C.H0 a=none) (okq:=fun _=>True) c
     | lk=>rw [em] at c; exact cc (ok:=fun a=>¬ W a) (okq:=fun _=>True) c
     | io=>rw [em] at c; exact cc (ok:=fun a=>W a/\C.M a) (okq:=C.Q) c
def aB (m:List S->Option S) (f:MA):ME:=fun ρ=>(f ρ).bind fun x=>(dO x.2 x.1).bind fun ss=>(m ss).bind fun r=>(Mi (some r)).bind fun d=>some (.val d,x.2)
def fY (m:List S->Option S) (f:MA):MN:=fun ρ=>(f ρ).bind fun x=>(dO x.2 x.1).bind fun ss=>(m ss).bind fun r=>(kz r).bind fun s=>some (s,x.2)
theorem wB (h:LA C md t f):LE C md (hV (JL C.K m) [] E t) (aB m f):=by intro A W ρ σ H Q o ρ' r e k;unfold aB at e;simp -iota only [Z0] at e;obtain ⟨⟨os,ρ1⟩,e1,ss,e2,s,e3,d,e4,e5⟩:=e;cases e5;cases dI e4;refine h A W ρ σ H _ os _ r e1 fun vs H1 x1 r1 p1=>?_;rw [Ma];refine ⟨ss,_,p1.Lc r1 e2,e3,fun v H2 s2 n=>?_⟩;exact k v H2 (x1.trans (Jo.ext s2)) (r1.same s2) (show Ji _ _ _ _ _ from n.OG.mono fun a _ o _=>r1.fresh o)
theorem wC (h:LA C md t f):LN C md (hV (JL C.K m) [] E t) (fY m f):=by intro A W ρ σ H Q s ρ' r e k;unfold fY at e;simp -iota only [Z0] at e;obtain ⟨⟨os,ρ1⟩,e1,ss,e2,s0,e3,s',e4,e5⟩:=e;cases e5;obtain ⟨l,rfl,rfl,hi⟩:=gJ e4;refine h A W ρ σ H _ os _ r e1 fun vs H1 x1 r1 p1=>?_;rw [Ma];refine ⟨ss,_,p1.Lc r1 e2,e3,fun v H2 s2 n=>?_⟩;obtain ⟨a,xs,rfl,h1,h2,h3⟩:=n;exact k a H1 H2 x1 r1 h1 s2 ⟨xs,h2,Jj.JH hi h3.Ks⟩
def qf (g:D->D->Option D) (fa fb:ME):MN:=fun ρ=>
 (fa ρ).bind fun x=>(fb x.2).bind fun y=>(res y.2 x.1).bind fun d=>(res y.2 y.1).bind fun e=>(g d e).bind fun u=>match u with
  | .lst l=>some (.d (.lst l),y.2)
  | _=>none
def OpN (K:PySem.W.Frag) (r:R2) (g:D->D->Option D):Prop:=∀ (H:Hp) (ok:Addr->Prop) (x y:V) (d e:D) (l:List D) (Q:VK),JD K H ok d x->JD K H ok e y->g d e=some (.lst l) ->
 (∀ p xs,H p=none->Jj K H ok l xs->Q (.ref p) (upd H p (.lst xs)))->r x y H Q
theorem Cm (h:OpN C.K r g) (ha:LE C md ta fa) (hb:LE C md tb fb):LN C md (LF r ta tb) (qf g fa fb):=by
 intro A W ρ σ H Q s ρ' r0 e k;unfold qf at e;simp -iota only [Z0] at e;obtain ⟨⟨o1,ρ1⟩,e1,⟨o2,ρ2⟩,e2,d,e3,c,e4,u,e5,e6⟩:=e;cases u with
 | lst l=>cases e6;refine ha A W ρ σ H _ o1 ρ1 r0 e1 fun v1 H1 x1 r1 p1=>?_;refine hb A W ρ1 σ H1 _ o2 _ r1 e2 fun v2 H2 x2 r2 p2=>?_;refine h H2 _ v1 v2 d c l Q ((p1.Jp r1 x2).get r2 e3) (p2.get r2 e4) e5 fun p xs hp q=>?_;have s:=aw (o:=.lst xs) hp;exact k p H2 _ (x1.trans x2) r2 hp s ⟨xs,aj,(q.apart hp).same s⟩
 | _=>cases e6
theorem El {K:PySem.W.Frag}:OpN K Ci wq:=by
 intro H ok x y d e u Q h1 h2 g k;cases d with
 | lst l=>
  cases e with
  | int j=>
   obtain ⟨p,xs,rfl,hp,rp⟩:=h1.lst_inv; obtain rfl:=h2.int_inv;replace g:(if -(2 ^ 63)<=j/\j < 2 ^ 63/\l.length * j.toNat<=sizeLine then some (D.lst (List.replicate j.toNat l).flatten) else none)=some (.lst u):=g;split at g
   ·rename_i hz;cases g;exact ⟨p,j,xs,rfl,rfl,.inl hp,hz.1,hz.2.1,by rw [rp.length]; exact hz.2.2,fun t ht=>k t _ ht (rp.rep j.toNat)⟩
   ·cases g
  | _=>cases g
 | int i=>
  cases e with
  | int j=>
   replace g:(if Lh i j then some (D.int (i * j)) else none)=some (.lst u):=g;split at g <;> cases g
  | _=>cases g
 | str z=>
  cases e with
  | int n=>
   replace g:(if 0<=n/\n<=1000/\z.length<=1000 then some (D.str (zU z n)) else none)=some (.lst u):=g;split at g <;> cases g
  | _=>cases g
 | _=>cases g
def t9 (md:List Md) (i j:Nat) (f:MA):MS:=fun ρ=>(f ρ).bind fun x=>(JB md x.2 x.1).bind fun ds=>match ds with
 | [d,e]=>some (.nx,(x.2.set i (some (.d d))).set j (some (.d e)))
 | _=>none
theorem Em (hi:ai md i=.pl) (hj:ai md j=.pl) (h:LA C md t f):LS C md (F6 i j t) (t9 md i j f):=by
 intro A W ρ σ H D fl ρ' r e k;unfold t9 at e;simp -iota only [Z0] at e;obtain ⟨⟨os,ρ1⟩,e1,ds,e2,e3⟩:=e;cases ds with
 | cons d y47=>
  cases y47 with
  | cons e y48=>
   cases y48 with
   | nil=>cases e3;refine h A W ρ σ H _ os _ r e1 fun vs H1 x1 r1 p1=>?_;obtain ⟨v,z,rfl,pv,pz⟩:=(p1.JB r1 e2).cons_inv;obtain ⟨w,y,rfl,pw,py⟩:=pz.cons_inv;obtain rfl:=py.nil_inv;refine ⟨v,w,rfl,k A W _ H1 (Gr.JM x1) ((r1.Nj hi pv).Nj hj pw) fun l hl=>?_⟩;rw [aC (fun z=>by rw [<- z] at hl; rcases hl with hl | hl <;> (rw [hj] at hl; cases hl)),aC (fun z=>by rw [<- z] at hl; rcases hl with hl | hl <;> (rw [hi] at hl; cases hl))]
   | _=>cases e3
  | _=>cases e3
 | _=>cases e3
def wD (i:Nat) (g:Int->Int->Int) (f:ME):MS:=fun ρ=>(look ρ i).bind fun s=>(Mi (some s)).bind fun d=>(Nu d).bind fun a=>(f ρ).bind fun x=>(res x.2 x.1).bind fun e=>(Nu e).bind fun b=>some (.nx,x.2.set i (some (.d (.int (g a b)))))
theorem Eo (hi:ai md i=.pl) (h:LE C md t f):LS C md (F7 i t (ipI g)) (wD i g f):=by intro A W ρ σ H D fl ρ' r e k;unfold wD at e;simp -iota only [Z0] at e;obtain ⟨s,e0,d,e1,a,e2,⟨o,ρ1⟩,e3,d',e4,b,e5,e6⟩:=e;cases e6;cases dI e1;cases fW e2;cases fW e5;obtain ⟨v,ev,c⟩:=r.slot i _ e0;rw [hi] at c;have c:Ji C.K H (fun a=>¬ A a) (.int a) v:=c;rw [Ji] at c;subst c;refine ⟨_,ev,h A W ρ σ H _ o _ r e3 fun v H1 x1 r1 p1=>⟨a,b,rfl,(p1.get r1 e4).int_inv,k A W _ H1 (Gr.JM x1) (r1.Nj hi ax) fun l hl=>?_⟩⟩;exact aC (fun z=>by rw [<- z] at hl; rcases hl with hl | hl <;> (rw [hi] at hl; cases hl))
end Mir
namespace L2
open PySem.Spec PyProof.Rows
theorem ua (hc:X.calm=true) (S:JZ X scope [x1,x2] (bM X.N scope.names)) (hi:PI X (.Tuple [.Name x1 p1,.Name x2 p2] tk tq0) iter wi)
 (hg:∀ C s2 H2 fp,PG (aD X scope [x1,x2] (bM X.N scope.names) C s2 H2 fp) (.Tuple [.Name x1 p1,.Name x2 p2] tk tq0) g) (ht:∀ C s2 H2 fp,Nr (aD X scope [x1,x2] (bM X.N scope.names) C s2 H2 fp) ifs tt) (he:∀ C s2 H2 fp,PE (aD X scope [x1,x2] (bM X.N scope.names) C s2 H2 fp) elt te)
 (hs:∀ x,foldedSetIterable iter X.env x=pure x:=by intro _; rfl) :
 PE X (.ListComp elt [⟨.Tuple [.Name x1 p1,.Name x2 p2] tk tq0,iter,ifs,0⟩] scope pos) (hZ 2 (bM X.N scope.names) wi (Nq g tt (kN te))):=
 wp [x1,x2] hc S hi hg ht he hs
section
variable {K:PySem.W.Frag} {T id:String}
theorem rM (kt:KT K) (pa:PlainAttrs T) (slot:Slot T name id) (hty:typeOf (.builtin id)=pure (.type "method_descriptor")) (hm:NY X id r) (ho:PE X o to)
 (hbase:attributeBase o name X.env (eval o X.env)=eval o X.env:=by rfl) (hline:(apos.endLine == cpos.line)=true:=by rfl) (hK:X.K=K:=by rfl):PE X (.Call (.Attribute o name apos) [] [] cpos) (Dl K T r to):=by
 subst hK;exact Dm pa slot hty hm ho hbase hline
theorem qg (kt:KT K) (pa:PlainAttrs T) (slot:Slot T name id) (hty:typeOf (.builtin id)=pure (.type "method_descriptor")) (hm:NY X id r) (ho:PE X o to) (ha:PA X (e::es) t)
 (hbase:attributeBase o name X.env (eval o X.env)=eval o X.env:=by rfl)
 (hfew:((backTo cpos (starEach (e::es) X.env)).all (fun x=>!x.1) && (backToKw cpos (keywordEach [] X.env)).all (fun x=>x.1.isSome)
  && decide ((e::es).length+([]:List Keyword).length+(if ([]:List Keyword).isEmpty then 0 else 1) < 30))=true:=by rfl)
 (hline:(apos.endLine == cpos.line)=true:=by rfl) (hs:starEach (e::es) X.env=(false,eval e X.env)::starEach es X.env:=by rfl) (hplain:(backTo cpos (starEach es X.env)).any (·.1)=false:=by rfl) (hK:X.K=K:=by rfl) :
 PE X (.Call (.Attribute o name apos) (e::es) [] cpos) (Mv K T r to t):=by
 subst hK;exact vg pa slot hty hm ho ha hbase hfew hline hs hplain
end
end L2
namespace Mir
open PySem.Spec PyProof.Rows L2
theorem wE (he:ix'=ix) (hx:ix.Nodup) (hk:∀ j ∈ kp,j ∈ ix/\(ai md j=.ow∨ai md j=.io)) (hl:∀ j,lj=some j->j ∉ kp)
 (hi:LI C md lj wi fi) (hg:LG C (b6 md nt ix kp) (fun j=>nt<=j) g fg) (ht:LT C (b6 md nt ix kp) tt ft) (hb:LB C (b6 md nt ix kp) nt tb fb):LE C md (hZ nt ix' wi (Nq g tt tb)) (fh nt ix kp fi (K5 fg ft fb)):=by
 subst he;exact zS hx hk hl hi hg ht hb
end Mir
namespace Mir
open L2
abbrev Lf:D->D->Option D:=zF (fun i j=>decide (i < j)) Ob
abbrev O5:D->D->Option D:=zF (fun i j=>decide (i<=j)) (fun x y=>!Ob y x)
abbrev Mg:D->D->Option D:=zF (fun i j=>decide (j < i)) (fun x y=>Ob y x)
def jw:Nat->List Md->Bool
 | 0,_=>true
 | _+1,[]=>true
 | n+1,m::r=>(match m with | .pl=>true | _=>false) && jw n r
theorem jx:∀ {n:Nat} {md:List Md},jw n md=true->∀ i,i < n->ai md i=.pl
 | 0,md,h,i,hi=>absurd hi (Nat.not_lt_zero _)
 | n+1,[],h,i,hi=>rfl
 | n+1,m::r,h,0,hi=>by
  simp only [jw,Lv] at h;cases m <;> simp at h <;> rfl
 | n+1,m::r,h,i+1,hi=>by
  simp only [jw,Lv] at h;exact jx (n:=n) (md:=r) h.2 i (by omega)
theorem wF (h:jw n md=true):∀ i,i+1 < n+1->ai (m::md) (i+1)=.pl:=fun i hi=>jx h i (by omega)
end Mir
namespace Mir
open PySem.Spec PyProof.Rows L2
section
variable {K:PySem.W.Frag} {st:Stmt}
abbrev G9 (P:Program) (w:World) (K:PySem.W.Frag) (mg:Str->Option Value) (base:Heap) (qual:Str) (st:Stmt) (f:Addr) (N:List Str) (k:Nat) (md:List Md) (mb:MS):Prop:=
 ∀ (cdv:Value) (A:Around) (outer:List Env) (s:Shared) (H:Hp) (E:XK),JU k (A.deeper (envOfC qual (ag st) s.heap.objs.size f cdv)) ->
  ∃ t,K2 (jc JV P w K mg base N qual (ag st) f cdv A outer s H E).Nl (bg st) t/\∀ C:Cn,C.K=K->LS C md t mb
theorem aA (F:J1 K x qual st f fd) (S0:Jm N ps (ag st)) (hn:N.length=n) (hp:ps.length=np) (hm:m=Kg n np mb) (hle:Nat.ble np n=true) (hmd:jw np md=true)
 (hb:G9 P w K mg base qual st f N k md mb):Ju P w K mg base JV (k+1) f fd ps (JL K m):=by
 subst hn hp hm;exact rG F S0 (NT hle) (jx hmd) hb
abbrev Ha (fr:Bool) (P:Program) (w:World) (K:PySem.W.Frag) (mg:Str->Option Value) (base:Heap) (qual:Str) (st:Stmt) (f:Addr) (N:List Str) (k:Nat) (md:List Md) (mb:MS):Prop:=
 ∀ (cdv:Value) (A:Around) (outer:List Env) (s:Shared) (H:Hp) (E:XK),JU k (A.deeper (envOfC qual (ag st) s.heap.objs.size f cdv)) ->
  ∃ t,K2 (jc JV P w K mg base N qual (ag st) f cdv A outer s H E).Nl (bg st) t/\∀ C:Cn,C.K=K->C.free=fr->LS C md t mb
theorem mE (fr:Bool) (F:J1 K x qual st f fd) (S0:Jm N ps (ag st)) (hn:N.length=n) (hp:ps.length=np+1) (hm:m=iH fr n (np+1) mb) (hle:Nat.ble (np+1) n=true) (he:md=.io::md') (hmd:jw np md'=true)
 (hb:Ha fr P w K mg base qual st f N k md mb):Ju P w K mg base JV (k+1) f fd ps (LY K m):=by
 subst hn hm he;rw [<- hp] at hle ⊢;exact G5 fr F S0 (NT hle) rfl (fun i hi=>wF hmd i (by omega)) hb
theorem Af (F:J1 K x qual st f fd) (S0:Jm N ["script"] (ag st)) (hn:N.length=n) (hm:m=Kg n 1 mb) (hle:Nat.ble 1 n=true) (hmd:ai md 0=.pl)
 (ok:∀ ns:List Int,ns.length<=63->m [.scr ns]=some (.d (.bl true))) (hb:G9 P w K mg base qual st f N k md mb):Ju P w K mg base JV (k+1) f fd ["script"] (gL K):=by
 subst hn hm;exact Ed F S0 hmd ok hb (NT hle)
end
end Mir
namespace Srt
open PySem.W PyProof.Rows
def run {α:Type} (c:Nat->Nat->Bool):KasT α->α
 | .ret a=>a
 | .ask i j k=>run c (k (c i j))
theorem cY {α β:Type} (c:Nat->Nat->Bool) (f:α->KasT β):∀ t:KasT α,run c (t.bind f)=run c (f (run c t))
 | .ret _=>rfl
 | .ask i j k=>cY c f (k (c i j))
theorem mF {α:Type} (c:Nat->Nat->Bool) (i j:Nat) (k:Bool->KasT α):run c (.ask i j k)=run c (k (c i j)):=rfl
section
variable (O:KeyOrd) (key:Nat->O.α)
abbrev cm:Nat->Nat->Bool:=fun i j=>O.blt (key i) (key j)
def at_ (p:Array Nat) (i:Nat):O.α:=key (p.getD i 0)
def Up (p:Array Nat) (k:Nat):Prop:=∀ i j,i<=j->j < k->O.kle (at_ O key p i) (at_ O key p j)
def Dn (p:Array Nat) (k:Nat):Prop:=∀ i j,i<=j->j < k->O.kle (at_ O key p j) (at_ O key p i)
variable {O key}
theorem dP (h:p[i]?=q[j]?):at_ O key p i=at_ O key q j:=by unfold at_;rw [Yi,Yi,h]
theorem ub (hs:src < p.size) (hd:d<=src) (k:Nat) :
 at_ O key (bubble p src d) k=if k=src - d then at_ O key p src else if src - d < k/\k<=src then at_ O key p (k - 1) else at_ O key p k:=by
 have e:=getElem?_bubble hs d hd k;split
 ·rw [Y1 (by assumption)] at e; exact dP e
 ·rw [Y0 (by assumption)] at e;split
  ·rw [Y1 (by assumption)] at e; exact dP e
  ·rw [Y0 (by assumption)] at e; exact dP e
theorem gN {p:Array Nat} {i j:Nat} (hj:j<=p.size) (k:Nat) :
 at_ O key (kas_rev p i j) k=if i<=k/\k < j then at_ O key p (i+j - 1 - k) else at_ O key p k:=by
 have e:=getElem?_mirror_all (i:=i) hj k;unfold kas_rev;split
 ·rw [Y1 (by assumption)] at e; exact dP e
 ·rw [Y0 (by assumption)] at e; exact dP e
theorem Up.rev (hn:n<=p.size) (h:Dn O key p n):Up O key (kas_rev p 0 n) n:=by intro i j hij hj;rw [gN hn,gN hn,Y1 ⟨by grind,by exact Nat.lt_of_le_of_lt hij hj⟩,Y1 ⟨by grind,by exact hj⟩];exact h _ _ (by grind) (by grind)
theorem Dn.Nz {p:Array Nat} {n q m:Nat} (hn:n<=p.size) (hm:m<=n) (h:Dn O key p n) (he:∀ k,m<=k->k < n->at_ O key p k=at_ O key p (n - 1)):∀ k,k < n->at_ O key (kas_rev p m n) k=at_ O key p k:=by
 intro k hk;rw [gN hn];split
 ·rw [he _ (by grind) (by grind),he k (by lia) (by exact hk)]
 ·rfl
theorem qh (p:Array Nat):∀ (f n:Nat),1<=n->Up O key p n->n<=run (cm O key) (kas_asc p f n)/\run (cm O key) (kas_asc p f n)<=n+f/\Up O key p (run (cm O key) (kas_asc p f n))
 | 0,n,_,h=>⟨JI _,JI _,h⟩
 | f+1,n,h1,h=>by
  show n<=run (cm O key) (if _ then _ else _)/\run (cm O key) (if _ then _ else _)<=_/\Up O key p (run (cm O key) (if _ then _ else _));by_cases hc:cm O key (p.getD n 0) (p.getD (n - 1) 0)=true
  ·rw [Y1 hc]; exact ⟨JI _,by show n<=_; grind,h⟩
  ·rw [Y0 hc];have hle:O.kle (at_ O key p (n - 1)) (at_ O key p n):=by unfold KeyOrd.kle; simpa [cm,at_] using hc
   have h':Up O key p (n+1):=by
    intro i j hij hj;by_cases hjn:j=n
    ·subst hjn;by_cases hin:i=j
     ·subst hin; exact Yw _
     ·exact KeyOrd.kle_trans (h i (j - 1) (by lia) (by omega)) hle
    ·exact h i j hij (by lia)
   obtain ⟨a,b,c⟩:=qh p f (n+1) (by grind) h';exact ⟨by lia,by lia,c⟩
structure N2 (O:KeyOrd) (key:Nat->O.α) (p0:Array Nat) (top:Nat) (p:Array Nat) (n q:Nat):Prop where
 pm:p.Perm p0
 lo:q < n
 hi:n<=top
 dn:Dn O key p n
 eq:∀ k,n - 1 - q<=k->k < n->at_ O key p k=at_ O key p (n - 1)
def DS (O:KeyOrd) (key:Nat->O.α) (p0:Array Nat) (top:Nat) (r:Array Nat × Nat × Nat):Prop:=N2 O key p0 top r.1 r.2.1 r.2.2
theorem iS (p0:Array Nat) (top:Nat) (ht:top<=p0.size):∀ (f:Nat) (p:Array Nat) (n q:Nat),n+f=top->N2 O key p0 top p n q ->
 DS O key p0 top (run (cm O key) (kas_desc f p n q))
 | 0,p,n,q,_,h=>h
 | f+1,p,n,q,hf,h=>by
  have hsz:p.size=p0.size:=h.pm.size_eq;have hq:=h.lo;unfold kas_desc;rw [mF];by_cases hc:cm O key (p.getD n 0) (p.getD (n - 1) 0)=true
  ·simp only [Y1 hc];have hlt:O.klt (at_ O key p n) (at_ O key p (n - 1)):=hc;have step:∀ p':Array Nat,p'.Perm p->(∀ k,k < n->at_ O key p' k=at_ O key p k)->at_ O key p' n=at_ O key p n->N2 O key p0 top p' (n+1) 0:=by
    intro p' pm eq en;refine ⟨pm.trans h.pm,by grind,by lia,?_,?_⟩
    ·intro i j hij hj;by_cases hjn:j=n
     ·subst hjn;by_cases hin:i=j
      ·subst hin; exact Yw _
      ·rw [en,eq i (by lia)];exact KeyOrd.kle_trans (KeyOrd.kle_of_klt hlt) (h.dn i (j - 1) (by lia) (by lia))
     ·rw [eq i (by lia),eq j (by lia)]; exact h.dn i j hij (by omega)
    ·intro k h1 h2;have:k=n:=by grind
     subst this; rfl
   by_cases hq0:q > 0
   ·simp only [Y1 hq0];refine iS p0 top ht f _ (n+1) 0 (by lia) (step _ (mirror_perm _ _ _ _) (Dn.Nz (q:=q) (by lia) (by grind) h.dn fun k h1 h2=>h.eq k (by lia) h2) ?_);rw [gN (by omega),Y0 (by grind)]
   ·simp only [Y0 hq0];exact iS p0 top ht f _ (n+1) 0 (by omega) (step p (Array.Perm.refl _) (fun _ _=>rfl) rfl)
  ·simp only [Y0 hc];rw [mF];by_cases hd:cm O key (p.getD (n - 1) 0) (p.getD n 0)=true
   ·simp only [Y1 hd]; exact h
   ·simp only [Y0 hd];have e:at_ O key p n=at_ O key p (n - 1):=O.total _ _ (by simpa [cm,at_] using hc) (by simpa [cm,at_] using hd);refine iS p0 top ht f p (n+1) (q+1) (by omega) ⟨h.pm,by grind,by omega,?_,?_⟩
    ·intro i j hij hj;by_cases hjn:j=n
     ·subst hjn;by_cases hin:i=j
      ·subst hin; exact Yw _
      ·rw [e]; exact h.dn i (j - 1) (by omega) (by omega)
     ·exact h.dn i j hij (by omega)
    ·intro k h1 h2;show _=at_ O key p n;by_cases hk:k=n
     ·rw [hk]
     ·rw [e]; exact h.eq k (by lia) (by lia)
def O1 (O:KeyOrd) (key:Nat->O.α) (p0:Array Nat) (top:Nat) (r:Nat × Array Nat):Prop:=r.2.Perm p0/\1<=r.1/\r.1<=top/\Up O key r.2 r.1
theorem oA {p0 p:Array Nat} {n top:Nat} (ht:top<=p0.size) (pm:p.Perm p0) (h1:1<=n) (hn:n<=top) (h:Dn O key p n):O1 O key p0 top (run (cm O key) (kas_tail3 n top p)):=by have hsz:p.size=p0.size:=pm.size_eq;unfold kas_tail3;rw [cY];obtain ⟨a,b,c⟩:=qh (O:=O) (key:=key) (kas_rev p 0 n) (top - n) n h1 (Up.rev (by lia) h);exact ⟨(mirror_perm _ _ _ _).trans pm,by show 1<=run _ _; exact La h1 a,by show run _ _<=_; lia,c⟩
theorem ik {p0 p:Array Nat} {n top:Nat} (ht:top<=p0.size) (pm:p.Perm p0) (hn:n+1<=top) (h:Dn O key p (n+1)):O1 O key p0 top (run (cm O key) (kas_descPart n top p)):=by
 unfold kas_descPart;rw [cY];have d:=iS (O:=O) (key:=key) p0 top ht (top - (n+1)) p (n+1) 0 (by grind) ⟨pm,by grind,hn,h,fun k h1 h2=>by rw [show k=n+1 - 1 by lia]⟩;generalize run (cm O key) (kas_desc (top - (n+1)) p (n+1) 0)=r at d;obtain ⟨p',n',q'⟩:=r;have hsz:p'.size=p0.size:=(N2.pm d).size_eq;have hq:q' < n':=N2.lo d;have hh:n'<=top:=N2.hi d;have d:N2 O key p0 top p' n' q':=d;simp only;split
 ·refine oA ht ((mirror_perm _ _ _ _).trans d.pm) (by grind) d.hi ?_;intro i j hij hj;have e:=Dn.Nz (q:=q') (m:=n' - (q'+1)) (by lia) (by grind) d.dn fun k h1 h2=>d.eq k (by lia) h2;rw [e i (by exact Nat.lt_of_le_of_lt hij hj),e j hj];exact d.dn i j hij hj
 ·exact oA ht d.pm (by lia) d.hi d.dn
theorem wG {p0:Array Nat} {top:Nat} (h1:1<=top) (ht:top<=p0.size):O1 O key p0 top (run (cm O key) (kas_count top p0)):=by
 unfold kas_count;rw [cY];have hu:Up O key p0 1:=fun i j hij hj=>by
  have:i=j:=by grind
  subst this; exact Yw _
 obtain ⟨a,b,c⟩:=qh (O:=O) (key:=key) p0 (top - 1) 1 (JI _) hu;have stop:∀ f n,1<=n->run (cm O key) (kas_asc p0 f n) ≠ n+f->O.klt (at_ O key p0 (run (cm O key) (kas_asc p0 f n))) (at_ O key p0 (run (cm O key) (kas_asc p0 f n) - 1)):=by
  intro f
  induction f with
  | zero=>intro n _ h; exact absurd rfl h
  | succ f ih=>
   intro n hn h;have e:run (cm O key) (kas_asc p0 (f+1) n)=run (cm O key) (if cm O key (p0.getD n 0) (p0.getD (n - 1) 0)=true then .ret n else kas_asc p0 f (n+1)):=rfl;rw [e] at h ⊢;by_cases hc:cm O key (p0.getD n 0) (p0.getD (n - 1) 0)=true
   ·rw [Y1 hc] at h ⊢; exact hc
   ·rw [Y0 hc] at h ⊢; exact ih (n+1) (by grind) (by grind)
 have st:=stop (top - 1) 1 (JI _);generalize run (cm O key) (kas_asc p0 (top - 1) 1)=n at a b c st;by_cases hn:(n == top)=true
 ·rw [Y1 hn];have:n=top:=by simpa using hn
  exact ⟨Array.Perm.refl _,by show 1<=n; exact a,by show n<=top; exact (YA this),c⟩
 ·rw [Y0 hn];have hne:n ≠ top:=by simpa using hn
  have hlt:=st (by lia);by_cases h2:n > 1
  ·rw [Y1 h2];show O1 O key p0 top (run (cm O key) (if _ then _ else _));by_cases hc:cm O key (p0.getD 0 0) (p0.getD (n - 1) 0)=true
   ·rw [Y1 hc]; exact ⟨Array.Perm.refl _,by show 1<=n; exact a,by show n<=top; grind,c⟩
   ·rw [Y0 hc];have he:∀ k,k < n->at_ O key p0 k=at_ O key p0 (n - 1):=fun k hk=>by
     have h3:O.kle (at_ O key p0 (n - 1)) (at_ O key p0 0):=by unfold KeyOrd.kle; simpa [cm,at_] using hc
     exact KeyOrd.kle_antisymm (c k (n - 1) (by grind) (by lia)) (KeyOrd.kle_trans h3 (c 0 k (by omega) hk))
    refine ik ht (mirror_perm _ _ _ _) (by lia) ?_;have er:∀ k,k < n->at_ O key (kas_rev p0 0 n) k=at_ O key p0 (n - 1):=fun k hk=>by
     rw [gN (by grind),Y1 ⟨by omega,hk⟩]; exact he _ (by grind)
    have en:at_ O key (kas_rev p0 0 n) n=at_ O key p0 n:=by rw [gN (by grind),Y0 (by grind)]
    intro i j hij hj;by_cases hjn:j=n
    ·subst hjn;by_cases hin:i=j
     ·subst hin; exact Yw _
     ·rw [en,er i (by lia)]; exact KeyOrd.kle_of_klt hlt
    ·rw [er i (by lia),er j (by lia)]; exact Yw _
  ·rw [Y0 h2];have h11:n=1:=by lia
   subst h11;refine ik ht (Array.Perm.refl _) (by lia) ?_;intro i j hij hj;by_cases hj0:j=0
   ·have:i=0:=by grind
    subst this; subst hj0; exact Yw _
   ·have hj1:j=1:=by grind
    subst hj1;by_cases hi:i=1
    ·subst hi; exact Yw _
    ·have:i=0:=by grind
     subst this; exact KeyOrd.kle_of_klt hlt
theorem jy (hs:Up O key p k):∀ (f l r:Nat),r - l<=f->l<=r->r<=k->(∀ i,i < l->O.kle (at_ O key p i) (at_ O key p k))->(∀ i,r<=i->i < k->O.klt (at_ O key p k) (at_ O key p i)) ->
 run (cm O key) (kas_place p k f l r)<=k/\(∀ i,i < run (cm O key) (kas_place p k f l r)->O.kle (at_ O key p i) (at_ O key p k))/\∀ i,run (cm O key) (kas_place p k f l r)<=i->i < k->O.klt (at_ O key p k) (at_ O key p i)
 | 0,l,r,hf,hlr,hr,hl,hh=>by
  have:l=r:=by grind
  subst this;exact ⟨hr,hl,hh⟩
 | f+1,l,r,hf,hlr,hr,hl,hh=>by
  unfold kas_place;by_cases hge:l ≥ r
  ·have:l=r:=by lia
   subst this;rw [Y1 hge]; exact ⟨hr,hl,hh⟩
  ·rw [Y0 hge];rw [mF];by_cases hc:cm O key (p.getD k 0) (p.getD ((l+r) / 2) 0)=true
   ·rw [Y1 hc];exact jy hs f l ((l+r) / 2) (by grind) (by lia) (by lia) hl fun i h1 h2=>KeyOrd.klt_of_klt_of_kle (show O.klt (at_ O key p k) (at_ O key p ((l+r) / 2)) from hc) (hs _ _ h1 h2)
   ·rw [Y0 hc];refine jy hs f ((l+r) / 2+1) r (by grind) (by lia) hr (fun i h1=>?_) hh;exact KeyOrd.kle_trans (hs i ((l+r) / 2) (by lia) (by lia)) (by unfold KeyOrd.kle; simpa [cm,at_] using hc)
theorem wH (p0:Array Nat):∀ (f:Nat) (p:Array Nat) (k:Nat),p.Perm p0->k+f<=p0.size->Up O key p k->(run (cm O key) (kas_bin f p k)).Perm p0/\Up O key (run (cm O key) (kas_bin f p k)) (k+f)
 | 0,p,k,pm,_,h=>⟨pm,h⟩
 | f+1,p,k,pm,hk,h=>by
  have hsz:p.size=p0.size:=pm.size_eq;unfold kas_bin;rw [cY];obtain ⟨a,b,c⟩:=jy (O:=O) (key:=key) (p:=p) (k:=k) h k 0 k (by grind) (by grind) (JI _) (fun i hi=>by grind) (fun i h1 h2=>by lia);generalize run (cm O key) (kas_place p k k 0 k)=l at a b c;have hb:=ub (O:=O) (key:=key) (p:=p) (src:=k) (d:=k - l) (by lia) (by grind);rw [show k - (k - l)=l by lia] at hb;have h':Up O key (bubble p k (k - l)) (k+1):=by
   intro i j hij hj;rw [hb i,hb j];by_cases hi:i=l
   ·subst hi;rw [Y1 rfl];by_cases hji:j=i
    ·rw [Y1 hji]; exact Yw _
    ·rw [Y0 hji,Y1 ⟨by lia,by lia⟩]; exact KeyOrd.kle_of_klt (c (j - 1) (by lia) (by grind))
   ·rw [Y0 hi];by_cases hil:i < l
    ·rw [Y0 (show ¬ (l < i/\i<=k) by lia)];by_cases hjl:j=l
     ·rw [Y1 hjl]; exact b i hil
     ·rw [Y0 hjl];by_cases hj2:l < j/\j<=k
      ·rw [Y1 hj2]; exact h i (j - 1) (by grind) (by grind)
      ·rw [Y0 hj2]; exact h i j hij (by lia)
    ·rw [Y1 ⟨by lia,by lia⟩,Y0 (show ¬ j=l by lia),Y1 ⟨by lia,by lia⟩];exact h (i - 1) (j - 1) (by grind) (by grind)
  obtain ⟨x,y⟩:=wH p0 f (bubble p k (k - l)) (k+1) ((bubble_perm _ _ _).trans pm) (by lia) h';exact ⟨x,by rwa [show k+(f+1)=k+1+f by grind]⟩
theorem Ag (h2:2<=n):(run (cm O key) (kas_sort n)).Perm (List.range n).toArray/\Up O key (run (cm O key) (kas_sort n)) n:=by
 have hsz:(List.range n).toArray.size=n:=by simp
 unfold kas_sort;rw [cY];obtain ⟨a,b,c,d⟩:=wG (O:=O) (key:=key) (p0:=(List.range n).toArray) (top:=n) (by grind) (by exact YA hsz.symm);generalize run (cm O key) (kas_count n (List.range n).toArray)=r at a b c d;split
 ·have:=wH (O:=O) (key:=key) (List.range n).toArray (n - max r.1 1) r.2 (max r.1 1) a (by lia) (by rw [show max r.1 1=r.1 by lia]; exact d)
  rwa [show max r.1 1+(n - max r.1 1)=n by lia] at this
 ·have:r.1=n:=by lia
  exact ⟨a,by rw [<- this]; exact d⟩
end
end Srt
namespace Srt
open PySem.W PyProof.Rows L2
def bY (N:Nat) {α:Type} (P:α->Prop):KasT α->Prop
 | .ret a=>P a
 | .ask i j k=>i < N/\j < N/\∀ b,bY N P (k b)
theorem bF {N:Nat} {α β:Type} {f:α->KasT β} {P:α->Prop} {R:β->Prop} (hf:∀ a,P a->bY N R (f a)):∀ t:KasT α,bY N P t->bY N R (t.bind f)
 | .ret a,h=>hf a h
 | .ask i j k,h=>⟨h.1,h.2.1,fun b=>bF hf (k b) (h.2.2 b)⟩
theorem aP {N:Nat} {α:Type} {P:α->Prop} {c:Prop} [Decidable c] {a b:KasT α} (h1:c->bY N P a) (h2:¬ c->bY N P b):bY N P (if c then a else b):=by
 split
 ·exact h1 (by assumption)
 ·exact h2 (by assumption)
def In (N:Nat) (p:Array Nat):Prop:=∀ i,p.getD i 0 < N
theorem In.perm (hN:0 < N) (h:In N p) (pm:q.Perm p):In N q:=by
 intro i;rw [Yi];cases e:q[i]? with
 | none=>exact hN
 | some x=>show x < N;have hx:x ∈ q:=Array.mem_of_getElem? e;have hp:x ∈ p:=pm.mem_iff.mp hx;obtain ⟨j,hj,ej⟩:=Array.mem_iff_getElem.mp hp;have:=h j;rw [Yi,Array.getElem?_eq_getElem hj,ej] at this;exact this
section
variable {N:Nat} (hN:0 < N)
include hN
theorem In.rev (h:In N p) (i j:Nat):In N (kas_rev p i j):=h.perm hN (mirror_perm _ _ _ _)
theorem wI {p:Array Nat} (h:In N p):∀ f n,bY N (fun _=>True) (kas_asc p f n)
 | 0,n=>trivial
 | f+1,n=>⟨h _,h _,fun b=>aP (fun _=>trivial) fun _=>wI h f (n+1)⟩
theorem mG:∀ f (p:Array Nat) n q,In N p->bY N (fun r=>In N r.1) (kas_desc f p n q)
 | 0,p,n,q,h=>h
 | f+1,p,n,q,h=>⟨h _,h _,fun b=>aP (fun _=>aP (fun _=>mG f _ _ _ (h.rev hN _ _)) fun _=>mG f _ _ _ h) fun _=>⟨h _,h _,fun d=>aP (fun _=>h) fun _=>mG f _ _ _ h⟩⟩
theorem rN {p:Array Nat} (h:In N p) (n m:Nat):bY N (fun r=>In N r.2) (kas_tail3 n m p):=bF (P:=fun _=>True) (R:=fun r=>In N r.2) (f:=fun m=>.ret (m,kas_rev p 0 n)) (fun a _=>h.rev hN 0 n) _ (wI hN (h.rev hN _ _) _ _)
theorem jz {p:Array Nat} (h:In N p) (n m:Nat):bY N (fun r=>In N r.2) (kas_descPart n m p):=by unfold kas_descPart;refine bF (P:=fun r=>In N r.1) (fun r hr=>?_) _ (mG hN _ _ _ _ h);exact aP (fun _=>rN hN (hr.rev hN _ _) _ _) fun _=>rN hN hr _ _
theorem Ah {p:Array Nat} (h:In N p) (m:Nat):bY N (fun r=>In N r.2) (kas_count m p):=by unfold kas_count;refine bF (P:=fun _=>True) (fun n _=>?_) _ (wI hN h _ _);exact aP (fun _=>h) fun _=>aP (fun _=>⟨h _,h _,fun c=>aP (fun _=>h) fun _=>jz hN (h.rev hN _ _) _ _⟩) fun _=>jz hN h _ _
theorem mH {p:Array Nat} (h:In N p) (k:Nat):∀ f l r,bY N (fun _=>True) (kas_place p k f l r)
 | 0,l,r=>trivial
 | f+1,l,r=>by
  unfold kas_place;exact aP (fun _=>trivial) fun _=>⟨h _,h _,fun c=>aP (fun _=>mH h k f _ _) fun _=>mH h k f _ _⟩
theorem Co:∀ f (p:Array Nat) k,In N p->bY N (fun _=>True) (kas_bin f p k)
 | 0,p,k,h=>trivial
 | f+1,p,k,h=>by
  unfold kas_bin;exact bF (P:=fun _=>True) (fun l _=>Co f _ _ (h.perm hN (bubble_perm _ _ _))) _ (mH hN h k _ _ _)
end
theorem Ep {n:Nat} (h:0 < n):bY n (fun _=>True) (kas_sort n):=by
 have hp:In n (List.range n).toArray:=by
  intro i;rw [Yi];cases e:(List.range n).toArray[i]? with
  | none=>exact h
  | some x=>show x < n;have:x ∈ (List.range n).toArray:=Array.mem_of_getElem? e;simpa using this
 unfold kas_sort;refine bF (P:=fun r=>In n r.2) (fun r hr=>?_) _ (Ah h hp _);exact aP (fun _=>Co h _ _ _ hr) fun _=>trivial
theorem kY {N:Nat} {α:Type} {P:α->Prop} {c:Nat->Nat->Bool} {cmp:Nat->Nat->(Bool->Shared->Prop)->Shared->Prop} {Q:α->Shared->Prop} {s:Shared} (hc:∀ i j C,i < N->j < N->C (c i j) s->cmp i j C s) :
 ∀ t:KasT α,bY N P t->Q (run c t) s->t.kasWp cmp Q s
 | .ret a,_,h=>h
 | .ask i j k,g,h=>hc i j _ g.1 g.2.1 (kY hc (k (c i j)) (g.2.2 _) h)
theorem fE:∀ a:List Int,HT.aI a a=false
 | []=>rfl
 | x::a=>by rw [HT.aQ,Y1 rfl]; exact fE a
theorem gO:∀ a b c:List Int,HT.aI a b=true->HT.aI b c=true->HT.aI a c=true
 | [],[],_,h,_=>by rw [HT.cN] at h; cases h
 | [],_::_,[],_,h=>by rw [HT.bx] at h; cases h
 | [],_::_,_::_,_,_=>rfl
 | _::_,[],_,h,_=>by rw [HT.bx] at h; cases h
 | _::_,_::_,[],_,h=>by rw [HT.bx] at h; cases h
 | x::a,y::b,z::c,h,k=>by
  rw [HT.aQ] at h k ⊢;split at h
  ·split at k
   ·rw [Y1 (by grind)]; exact gO a b c h k
   ·have:=of_decide_eq_true k;rw [Y0 (by grind)]; exact decide_eq_true (by grind)
  ·have h1:=of_decide_eq_true h;split at k
   ·rw [Y0 (by grind)]; exact decide_eq_true (by grind)
   ·have:=of_decide_eq_true k;rw [Y0 (by lia)]; exact decide_eq_true (by exact Int.lt_trans h1 this)
theorem mI:∀ a b c:List Int,HT.aI a c=true->HT.aI a b=true∨HT.aI b c=true
 | [],_,[],h=>by rw [HT.cN] at h; cases h
 | _::_,_,[],h=>by rw [HT.bx] at h; cases h
 | [],[],z::c,_=>.inr rfl
 | [],y::b,z::c,_=>.inl rfl
 | x::a,[],z::c,_=>.inr rfl
 | x::a,y::b,z::c,h=>by
  rw [HT.aQ] at h;rw [HT.aQ,HT.aQ];by_cases h1:x=y
  ·subst h1;rw [Y1 rfl];by_cases h2:x=z
   ·subst h2;rw [Y1 rfl] at h ⊢;exact mI a b c h
   ·rw [Y0 h2] at h ⊢; exact .inr h
  ·rw [Y0 h1];by_cases h3:x < y
   ·exact .inl (decide_eq_true h3)
   ·refine .inr ?_;split at h
    ·rw [Y0 (by grind)]; exact decide_eq_true (by lia)
    ·have:=of_decide_eq_true h;rw [Y0 (by grind)]; exact decide_eq_true (by omega)
theorem gP:∀ a b:List Int,HT.aI a b=false->HT.aI b a=false->a=b
 | [],[],_,_=>rfl
 | [],y::b,h,_=>by rw [HT.dF] at h; cases h
 | x::a,[],_,h=>by rw [HT.dF] at h; cases h
 | x::a,y::b,h,k=>by
  rw [HT.aQ] at h k;by_cases e:x=y
  ·subst e;rw [Y1 rfl] at h k;rw [gP a b h k]
  ·rw [Y0 e] at h;rw [Y0 (YI e)] at k;have:=of_decide_eq_false h;have:=of_decide_eq_false k;lia
def IF:KeyOrd:=⟨List Int,HT.aI,fE,gO,mI,gP⟩
theorem Ai (h:Q (decide (i < j)) s):wpAny (model prog w) A (oneLt' b (.int i t) (.int j u)) Q E s:=by
 cases b with
 | true=>exact oneLt_int h
 | false=>exact kat_one _ _ (lt_int (show PySem.W.BoolBack Q (.bool (decide (i < j))) s from h))
theorem rO:∀ {us vs:List Value} {ns ms:List Int} (i:Nat),IntsAre us ns->IntsAre vs ms->fin=decide (ns.length < ms.length)->Q (HT.aI ns ms) s->KatLex prog w A b fin Q (us.zip vs) i s
 | [],[],ns,ms,i,h1,h2,hf,h=>by
  cases h1; cases h2;rw [hf]; exact h
 | [],v::vs,ns,ms,i,h1,h2,hf,h=>by
  cases h1; cases h2;rw [hf];exact h
 | u::us,[],ns,ms,i,h1,h2,hf,h=>by
  cases h1; cases h2;rw [hf];exact h
 | u::us,v::vs,ns,ms,i,h1,h2,hf,h=>by
  cases h1 with
  | cons x t h1=>
   rename_i ns;cases h2 with
   | cons y t' h2=>
    rename_i ms;rw [List.zip_cons_cons];refine kat_cons ?_;refine SeqAt.EqAt.int_int (A:=A) (s:=s) x t y t' prog w _ _ ?_;rw [HT.aQ] at h;by_cases e:x=y
    ·subst e;rw [Y1 rfl] at h;rw [show (x == x)=true by simp];exact kat_yes (rO (i+1) h1 h2 (by rw [hf]; simp) h)
    ·rw [Y0 e] at h;rw [show (x == y)=false by simpa using e];exact kat_no (Ai h)
theorem wJ {vs:List Value} (hl:vs.length < 2):(arrOf (SortSt.mk' general' (vs.toArray.zip vs.toArray) #[] 7 none)).map (·.2)=(List.map (fun i=>vs.getD i Value.none) (List.range vs.length)).toArray:=by
 show (vs.toArray.zip vs.toArray).map (·.2)=_;cases vs with
 | nil=>simp
 | cons v r=>
  cases r with
  | nil=>simp
  | cons u r=>exact absurd (Nat.lt_of_succ_lt_succ hl) (Nat.not_lt_zero _ <| Nat.lt_of_succ_lt_succ ·)
theorem Aj {O:KeyOrd} {key:Nat->O.α} {a:Addr} {vs:List Value} {n:Nat} {P:PySem.Fin->Shared->Prop} {E:Value->Shared->Prop} (ho:s.heap.get? a=some (seqObj "list" vs.toArray n)) (h64:vs.length < 64)
 (hk:2<=vs.length->∀ s':Shared,(∀ b o,b ≠ a->s.heap.get? b=some o->s'.heap.get? b=some o)->∃ κ,(∀ (Q:SortKind->Shared->Prop) (E:Value->Shared->Prop),Q κ s'->wpAny (model prog w) A (keyKind' vs.toArray) Q E s')/\∀ i j C,i < vs.length->j < vs.length->C (O.blt (key i) (key j)) s'->kas_ask prog w A κ vs i j C s')
 (h:∀ q:List Nat,q.Perm (List.range vs.length)->(∀ i j,i<=j->j < vs.length->O.kle (key (q.getD i 0)) (key (q.getD j 0)))->P (.done (.ret .none)) { s with heap:=sortedHeap s.heap a vs (q.map fun i=>vs.getD i Value.none).toArray }) :
 wpAny (model prog w) A (Builtin.«list.sort» ⟨[.ref a],[]⟩) P E s:=by
 obtain ⟨e1,g1⟩:∃ e1,(s.heap.update a (Obj.mapSeq fun _=>#[])).get? a=some (seqObj "list" #[] e1):=⟨_,get?_update_seq ho fun _=>#[]⟩;rw [list_sort_plain];have la:a < s.heap.objs.size:=JO ho;apply Jk; apply listItems_at ho rfl;apply Jk; refine listUpdate_at ho rfl ?_ (by simp -iota [Yt]; lia) (K0 _);apply Jk; apply seqEpoch_at g1 rfl;apply Jk; refine wpAny_newTuple ?_ (by show vs.length<=_; rw [Yt]; omega);apply Jk; refine wpAny_newList ?_ (K0 _);apply Yh;generalize eh:((s.heap.update a (Obj.mapSeq fun _=>(#[]:Array Value))).push (seqObj "tuple" vs.toArray 0)).push (seqObj "list" #[] 0)=hh;have g6:hh.get? a=some (seqObj "list" #[] e1):=by subst eh;rw [Heap.get?_push_ne _ _ _ (by rw [size_push',Heap.size_update]; exact Kn (Nat.lt_succ_of_lt la))];rw [Heap.get?_push_ne _ _ _ (by rw [Heap.size_update]; exact Kn la)];exact g1
 have gk:∀ b o,b ≠ a->s.heap.get? b=some o->hh.get? b=some o:=by subst eh;intro b o hb hg;exact Z7 _ (Z7 _ ((Heap.get?_update_ne _ _ _ _ hb).trans hg))
 have hf:∀ out,sortedHeap s.heap a vs out=hh.update a (Obj.mapSeq fun _=>out):=fun out=>by subst eh; rfl
 show wpAny (model prog w) A _ P E { s with heap:=hh };dsimp only;by_cases h2:vs.toArray.size < 2
 ·have hl:vs.length < 2:=by simpa using h2
  simp -iota only [Y1 h2];apply Jk; apply Jq;rw [StateT.run_pure];apply Jk; apply Jq;dsimp only;apply Jk; apply seqEpoch_at g6 rfl;have eo:=wJ hl;apply Jk;refine listUpdate_at g6 rfl ?_ (K0 _) (by rw [eo]; simp -iota [Yt]; lia);simp -iota only [bne_self_eq_false,Lk,if_false];apply Jq;rw [eo];have:=h (List.range vs.length) (List.Perm.refl _) (fun i j hij hj=>by
   have:i=j:=by grind
   subst this; exact Yw _)
  rw [hf] at this;exact this
 ·have hl:2<=vs.length:=by simpa using h2
  simp -iota only [Y0 h2];obtain ⟨κ,k1,k2⟩:=hk hl { s with heap:=hh } gk;apply Jk;apply k1;have so:=Ag (O:=O) (key:=key) hl;generalize hp:run (cm O key) (kas_sort vs.length)=p at so;have psz:p.size=vs.length:=by rw [so.1.size_eq]; simp
  apply Jk;refine wpAny_mono (kat_run (κ:=κ) (E:=fun _ _=>False) (Q:=fun st' s'=>s'={ s with heap:=hh }/\arrOf st'=p.map (kas_item (vs.toArray.zip vs.toArray))/\failedOf st'=none) (G:=fun p' s'=>p'=p/\s'={ s with heap:=hh }) rfl hl h64
   (fun p' st' s' a1 a2 a3 a4=>⟨a4.2,by rw [a2,a4.1],a3⟩) (kY k2 _ (Ep (by grind)) ⟨hp,rfl⟩)) ?_ (fun _ _ z=>z.elim)
  rintro ⟨⟨⟩,st'⟩ s' ⟨rfl,ha,hff⟩;dsimp only at ha hff ⊢;have eo:=kat_snds rfl ha;rw [eo];apply Jk; apply seqEpoch_at g6 rfl;apply Jk;refine listUpdate_at g6 rfl ?_ (K0 _) (by simp -iota [Yt,psz]; lia);rw [hff];simp -iota only [bne_self_eq_false,Lk,if_false];apply Jq;have:=h p.toList (by have:=Array.perm_iff_toList_perm.mp so.1; simpa using this) (fun i j hij hj=>by
   have:=so.2 i j hij hj;unfold at_ at this;rw [Yi,Yi] at this;rw [Z5,Z5];simpa using this)
  rw [hf] at this;exact this
theorem oB (ho:s.heap.get? l=some o) (hc:o.cls=.type "tuple") (hd:o.data=.seq vs.toArray n) (hz:vs.length<=sizeLine)
 (h:Q vs { s with heap:=(s.heap.push (seqObj "list" #[] 0)).update s.heap.objs.size (Obj.mapSeq (·++vs.toArray)) }):wpAny (model prog w) A (collect (.ref l)) Q E s:=by
 have g':(s.heap.push (seqObj "list" #[] 0)).get? l=some o:=Z7 _ ho;have gn:(s.heap.push (seqObj "list" #[] 0)).get? s.heap.objs.size=some (seqObj "list" #[] 0):=Kv _ rfl;unfold collect;apply Jk;apply wpAny_runValue;apply codeAny_builtin entry_proto_collect';show wpAny _ _ (do again (.builtin "list.__iadd__" ⟨[<- newList [],.ref l],[]⟩)) _ _ _;apply Jk;refine wpAny_newList ?_ (K0 _);apply Jq;refine ⟨Code.quiet_builtin _ (by decide +kernel),codeAny_builtin entry_list_iadd' ?_⟩;show wpAny _ _ (Builtin.List.listExtendWith _ _ _) _ _ _;unfold Builtin.List.listExtendWith;apply Jk;refine wpAny_typeOf (T:="tuple") ⟨o,g',hc⟩ ?_;have tt:(Value.type "tuple" == Value.type "tuple")=true:=rfl;rw [Y1 (by rw [tt]; simp)];apply Jk;refine listItems_at g' hd ?_;apply Jk;refine listItems_at gn rfl ?_;rw [Y0 (by simp)];apply Jk;refine listUpdate_at gn rfl ?_ (K0 _) (by simp; lia);apply Jq;have gu:=get?_update_seq gn (·++vs.toArray);apply Jk;refine wpAny_load gu ?_;show wpAny _ _ (pure ((#[]:Array Value)++vs.toArray).toList) _ _ _;rw [show ((#[]:Array Value)++vs.toArray).toList=vs by simp];apply Jq;exact h
theorem uc {O:KeyOrd} {key:Nat->O.α} {l:Addr} {vs:List Value} {Q:Value->Shared->Prop} {E:Value->Shared->Prop} (hcol:∀ (A:Around) (Q:List Value->Shared->Prop) (E:Value->Shared->Prop),Q vs { s with heap:=(s.heap.push (seqObj "list" #[] 0)).update s.heap.objs.size (Obj.mapSeq (·++vs.toArray)) }->wpAny (model prog w) A (collect (.ref l)) Q E s) (h64:vs.length < 64)
 (hk:2<=vs.length->∀ (A:Around) (s':Shared),(∀ b o,s.heap.get? b=some o->s'.heap.get? b=some o)->∃ κ,(∀ (Q:SortKind->Shared->Prop) (E:Value->Shared->Prop),Q κ s'->wpAny (model prog w) A (keyKind' vs.toArray) Q E s')/\∀ i j C,i < vs.length->j < vs.length->C (O.blt (key i) (key j)) s'->kas_ask prog w A κ vs i j C s')
 (h:∀ q:List Nat,q.Perm (List.range vs.length)->(∀ i j,i<=j->j < vs.length->O.kle (key (q.getD i 0)) (key (q.getD j 0)))->Q (.ref (s.heap.objs.size+1)) { s with heap:=sortedAll s.heap vs (q.map fun i=>vs.getD i Value.none).toArray }) :
 wpAny (model prog w) A (call (.builtin "sorted") [.ref l]) Q E s:=by
 apply Calls.call_function_entry kind_sorted plain_sorted entry_sorted (args_sorted1 _);unfold Builtin.«sorted»;apply Jk (m:=checkCount "sorted" 1 1 _); apply Jq;apply Jk; refine hcol _ _ _ ?_;apply Jk; refine wpAny_newList ?_ (by rw [Yt]; omega);have hz:((s.heap.push (seqObj "list" #[] 0)).update s.heap.objs.size (Obj.mapSeq (·++vs.toArray))).objs.size=s.heap.objs.size+1:=by rw [Heap.size_update,size_push']
 generalize e1:(s.heap.push (seqObj "list" #[] 0)).update s.heap.objs.size (Obj.mapSeq (·++vs.toArray))=h1 at hz;have kp:∀ b o,s.heap.get? b=some o->h1.get? b=some o:=fun b o e=>by
  subst e1;exact (Heap.get?_update_ne _ _ _ _ (Kn (JO e))).trans (Z7 _ e)
 dsimp only;have ea:∀ out,sortedAll s.heap vs out=sortedHeap (h1.push (seqObj "list" vs.toArray 0)) (s.heap.objs.size+1) vs out:=fun out=>by subst e1; rfl
 rw [hz];have hoL:(h1.push (seqObj "list" vs.toArray 0)).get? (s.heap.objs.size+1)=some (seqObj "list" vs.toArray 0):=by rw [<- hz]; exact Kv _ rfl
 apply Jk;apply Yh;refine Y7 slot_list_sort ⟨_,hoL,rfl⟩ entry_list_sort (Aj (O:=O) (key:=key) hoL h64 (fun h2 s' hs=>hk h2 _ s' fun b o e=>hs b o (fun z=>?_) (Z7 _ (kp b o e))) fun q q1 q2=>⟨_,rfl,?_⟩) (args_list_sort _)
 ·exact absurd z (Kn (Nat.lt_succ_of_lt (JO e)))
 ·apply Jq;refine ⟨_,rfl,?_⟩;have:=h q q1 q2;rw [ea] at this;exact this
def IG (K:PySem.W.Frag) (H:Hp) (ys:List V) (ks:List (List Int)):Prop:=ks.length=ys.length/\∀ (i:Nat) (y:V),ys[i]?=some y->∃ b n ns,y=.ref b/\ks[i]?=some (n::ns)/\JW K H b ((n::ns).map V.int)
def Cp (ks:List (List Int)) (q:List Nat):Prop:=∀ i j,i<=j->j < ks.length->HT.aI (ks.getD (q.getD j 0) []) (ks.getD (q.getD i 0) [])=false
def wK (K:PySem.W.Frag) (xs:List V) (H:Hp) (Q:VK):Prop:=∃ a ys ks,xs=[.ref a]/\(J0 K H a ys∨JW K H a ys)/\ys.length < 64/\IG K H ys ks /\
 ∀ q:List Nat,q.Perm (List.range ys.length)->Cp ks q->∀ l,H l=none->Q (.ref l) (upd H l (.lst (q.map fun i=>ys.getD i .non)))
theorem kZ:∀ {ns:List Int} {its:List Value},Vals (ns.map V.int) its->IntsAre its ns:=by
 intro ns
 induction ns with
 | nil=>intro its h; cases h; exact .nil
 | cons n ns ih=>
  intro its h;rcases h with _ | ⟨r,t⟩;obtain ⟨k,rfl⟩:=r;exact .cons n k (ih t)
theorem oC:∀ {vs:List Value} {fs:List Value},vs.length=fs.length->(∀ (i:Nat) (v:Value),vs[i]?=some v->∃ a o xs n f,v=.ref a/\h.get? a=some o/\o.cls=.type "tuple"/\o.data=.seq xs n/\xs[0]?=some f/\fs[i]?=some f)->KatTups h vs fs
 | [],[],_,_=>trivial
 | [],_::_,e,_=>by simp at e
 | _::_,[],e,_=>by simp at e
 | v::vs,f::fs,e,k=>by
  obtain ⟨a,o,xs,n,f',rfl,h1,h2,h3,h4,h5⟩:=k 0 v rfl;have:f'=f:=by simpa using h5.symm
  subst this;exact .cons h1 h2 h3 h4 (oC (by simpa using e) fun i v' hv=>k (i+1) v' (by simpa using hv))
theorem ud:Jx X (.builtin "sorted") (wK X.K):=by
 intro pins s σ H xs us Q I r h;obtain ⟨a,ys,ks,rfl,hq,h64,⟨hkl,hks⟩,q⟩:=h;obtain ⟨u,rfl,rx⟩:=cG r;cases rx;obtain ⟨its,r',hz,hcol⟩:∃ its,Vals ys its/\ys.length<=sizeLine/\∀ (A:Around) (Q:List Value->Shared->Prop) (E:Value->Shared->Prop),Q its { s with heap:=(s.heap.push (seqObj "list" #[] 0)).update s.heap.objs.size (Obj.mapSeq (·++its.toArray)) }->wpAny (model X.prog X.w) A (collect (.ref a)) Q E s:=by
  rcases hq with hq | hq
  ·obtain ⟨its,r',pl,hz⟩:=I.list hq;exact ⟨its,r',hz,fun A Q E z=>collect_list pl.isList z (by rw [<- r'.length]; exact hz)⟩
  ·obtain ⟨its,r',⟨o,ho,hc,n,hd⟩,hz⟩:=I.tuple hq;exact ⟨its,r',hz,fun A Q E z=>oB ho hc hd (by rw [<- r'.length]; exact hz) z⟩
 have hlen:=r'.length;refine uc (O:=IF) (key:=fun i=>ks.getD i []) hcol (by lia) ?_ ?_
 ·intro h2 A s' kp;have one:∀ (i:Nat) (v:Value),its[i]?=some v->∃ b o xs n m ms,v=.ref b/\s'.heap.get? b=some o/\o.cls=.type "tuple"/\o.data=.seq xs n/\IntsAre xs.toList (m::ms)/\ks.getD i []=m::ms:=by intro i v hv;have hi:i < its.length:=(Z9.mp hv).1;obtain ⟨y,hy⟩:∃ y,ys[i]?=some y:=⟨_,Z3 (by lia)⟩;obtain ⟨v',hv',rv⟩:=r'.get hy;rw [hv] at hv'; cases hv';obtain ⟨b,m,ms,rfl,hk,ht⟩:=hks i y hy;cases rv;obtain ⟨ts,rt,⟨o,ho,hc,n,hd⟩,_⟩:=I.tuple ht;exact ⟨b,o,ts.toArray,n,m,ms,rfl,kp b o ho,hc,hd,by simpa using kZ rt,by rw [Z5,hk]; rfl⟩
  refine ⟨tuples' (Value.type "int" != Value.type "tuple"),fun Q' E' hQ=>?_,fun i j C hi hj hC=>?_⟩
  ·have fst:∀ i:Nat,∃ f:Value,∀ v:Value,its[i]?=some v->∃ b o xs n,v=.ref b/\s'.heap.get? b=some o/\o.cls=.type "tuple"/\o.data=.seq xs n/\xs[0]?=some f/\∃ m t,f=.int m t:=by
    intro i;cases e:its[i]? with
    | none=>exact ⟨.none,fun v hv=>by cases hv⟩
    | some v=>
     obtain ⟨b,o,xs,n,m,ms,rfl,h1,h2,h3,h4,_⟩:=one i v e;generalize el:xs.toList=l at h4;cases h4 with
     | cons m t h4=>refine ⟨.int m t,fun v' hv'=>?_⟩;cases hv';exact ⟨b,o,xs,n,rfl,h1,h2,h3,by rw [<- YH,el]; rfl,m,t,rfl⟩
   obtain ⟨f,hf⟩:=Classical.axiomOfChoice fst;have hall:∀ v ∈ (List.range its.length).map f,∃ m t,v=.int m t:=by intro v hv;obtain ⟨i,hi,rfl⟩:=Ke.mp hv;have hi':=List.mem_range.mp hi;obtain ⟨_,_,_,_,_,_,_,_,_,z⟩:=hf i _ (Z3 hi');exact z
   refine kat_kind (fs:=(List.range its.length).map f) (T:=.type "int") (oC (by simp) fun i v hv=>?_) (by simp; grind) (fun v hv=>?_) (by decide) hQ
   ·obtain ⟨b,o,xs,n,h1,h2,h3,h4,h5,_⟩:=hf i v hv;have hi:i < its.length:=(Z9.mp hv).1;exact ⟨b,o,xs,n,f i,h1,h2,h3,h4,h5,by simp [hi]⟩
   ·obtain ⟨m,t,rfl⟩:=hall v hv;exact .now
  ·obtain ⟨v,hv⟩:∃ v,its[i]?=some v:=⟨_,Z3 hi⟩;obtain ⟨v',hv'⟩:∃ v,its[j]?=some v:=⟨_,Z3 hj⟩;obtain ⟨b,o,xs,n,m,ms,rfl,h1,h2,h3,h4,h5⟩:=one i v hv;obtain ⟨b',o',xs',n',m',ms',rfl,h1',h2',h3',h4',h5'⟩:=one j v' hv';unfold kas_ask;rw [Z5,Z5,hv,hv'];refine kat_lt h1 h3 h1' h3' (rO 0 h4 h4' ?_ ?_)
   ·rw [<- h4.length,<- h4'.length]; simp
   ·have:C (HT.aI (ks.getD i []) (ks.getD j [])) s':=hC
    rwa [h5,h5'] at this
 ·intro p p1 p2;obtain ⟨e,he⟩:=sortedAll_at s.heap its (p.map fun i=>its.getD i Value.none).toArray;refine ⟨.ref (s.heap.objs.size+1),_,I.laid (t':=s.toks) (fun b o hb=>sortedAll_old hb) (Nat.le_succ _) (show Jr X.prog X.w _ _ _ (.lst (p.map fun i=>ys.getD i .non)) from ⟨?_,p.map fun i=>its.getD i Value.none,e,?_,he⟩),rfl,q p (by rw [hlen]; exact p1) (fun i j hij hj=>p2 i j hij (by grind)) _ (I.hok.fresh (Nat.le_succ _))⟩
  ·have:=p1.length_eq;simp at this;simp [this,Yt]; lia
  ·have all:∀ l:List Nat,(∀ i ∈ l,i < ys.length)->Vals (l.map fun i=>ys.getD i .non) (l.map fun i=>its.getD i Value.none):=by
    intro l
    induction l with
    | nil=>intro _; exact .nil
    | cons i l ih=>intro hl;obtain ⟨y,hy⟩:∃ y,ys[i]?=some y:=⟨_,Z3 (hl i (by simp))⟩;obtain ⟨u,hu,ru⟩:=r'.get hy;refine .cons ?_ (ih fun j hj=>hl j (by simp [hj]));dsimp only;rw [Z5,Z5,hy,hu];exact ru
   exact all p fun i hi=>by have:=p1.mem_iff.mp hi; rw [List.mem_range] at this; lia
end Srt
namespace Srt
open PySem.W PyProof.Rows L2 Mir
def wL (K:PySem.W.Frag) (xs:List V) (H:Hp) (Q:VK):Prop:=∃ a ns,xs=[.ref a]/\J0 K H a (ns.map V.int)/\ns.length < 64 /\
 ∀ ms:List Int,ms.Perm ns->ms.Pairwise (·<=·)->∀ l,H l=none->Q (.ref l) (upd H l (.lst (ms.map V.int)))
theorem eG (h:IntsAre its ns):Vals (ns.map V.int) its:=by
 induction h with
 | nil=>exact .nil
 | cons _ t _ ih=>exact .cons ⟨t,rfl⟩ ih
theorem qi:Jx X (.builtin "sorted") (wL X.K):=by intro pins s σ H xs us Q I r h;obtain ⟨a,ns,rfl,hq,h64,q⟩:=h;obtain ⟨u,rfl,rx⟩:=cG r;cases rx;obtain ⟨its,r',pl,hz⟩:=I.list hq;have hlen:=r'.length;rw [Z2] at hlen;refine sorted_ints pl.isList (kZ r') (by lia) fun out ms m1 m2 m3=>?_;obtain ⟨e,he⟩:=sortedAll_at s.heap its out;have hl2:=m2.length_eq;exact ⟨.ref (s.heap.objs.size+1),_,I.laid (t':=s.toks) (fun b o hb=>sortedAll_old hb) (Nat.le_succ _) (show Jr X.prog X.w _ _ _ (.lst (ms.map V.int)) from ⟨by rw [Z2,Yt]; lia,out.toList,e,eG m1,he⟩),rfl,q ms m2 m3 _ (I.hok.fresh (Nat.le_succ _))⟩
def wM (K:PySem.W.Frag) (xs:List V) (H:Hp) (Q:VK):Prop:=wK K xs H Q∨wL K xs H Q
theorem qj {X:Cx} {K:PySem.W.Frag} (kt:KT K) (hK:X.K=K:=by rfl):Jx X (.builtin "sorted") (wM K):=by
 subst hK;intro pins s σ H xs us Q I r h;rcases h with h | h
 ·exact ud pins s σ H xs us Q I r h
 ·exact qi pins s σ H xs us Q I r h
def gQ (k:List Int):D:=.tup (k.map D.int)
def fZ:List D->Option (List (List Int))
 | []=>some []
 | .tup l::r=>(ck l).bind fun k=>if k=[] then none else (fZ r).bind fun ks=>some (k::ks)
 | _=>none
theorem gR:∀ {l:List D} {ks:List (List Int)},fZ l=some ks->l=ks.map gQ/\∀ k ∈ ks,k ≠ []
 | [],ks,h=>by cases h; exact ⟨rfl,by simp⟩
 | .tup l::r,ks,h=>by
  unfold fZ at h;simp only [Z0] at h;obtain ⟨k,h1,h2⟩:=h;split at h2
  ·cases h2
  ·simp only [Z0] at h2;obtain ⟨ks',h3,h4⟩:=h2;cases h4;obtain ⟨e,f⟩:=gR h3;refine ⟨by rw [Z6,<- e,gQ,<- eL h1],fun k' hk=>?_⟩;rcases JS.mp hk with rfl | hk
   ·assumption
   ·exact f k' hk
 | .non::r,ks,h=>by cases h
 | .bl _::r,ks,h=>by cases h
 | .int _::r,ks,h=>by cases h
 | .str _::r,ks,h=>by cases h
 | .lst _::r,ks,h=>by cases h
theorem oD:∀ (ks:List (List Int)),(∀ k ∈ ks,k ≠ [])->fZ (ks.map gQ)=some ks
 | [],_=>rfl
 | k::ks,h=>by
  show fZ (.tup (k.map D.int)::ks.map gQ)=_;unfold fZ;rw [of,Z1,Y0 (h k (by simp)),oD ks fun k' hk=>h k' (by simp [hk])];rfl
abbrev bZ (a b:List Int):Bool:=!HT.aI b a
def jA (ks:List (List Int)):List (List Int):=ks.mergeSort bZ
def oE (ns:List Int):List Int:=ns.mergeSort fun a b=>decide (a<=b)
def iq:List D->Option D
 | [.lst l]=>match ck l with
  | some ns=>if ns.length < 64 then some (.lst ((oE ns).map D.int)) else none
  | none=>(fZ l).bind fun ks=>if ks.length < 64 then some (.lst ((jA ks).map gQ)) else none
 | [.tup l]=>(fZ l).bind fun ks=>if ks.length < 64 then some (.lst ((jA ks).map gQ)) else none
 | _=>none
theorem oF (a b c:List Int) (h:bZ a b=true) (k:bZ b c=true):bZ a c=true:=by
 unfold bZ at *;have h1:HT.aI b a=false:=by simpa using h
 have k1:HT.aI c b=false:=by simpa using k
 cases e:HT.aI c a with
 | false=>rfl
 | true=>
  rcases mI c b a e with z | z
  ·rw [k1] at z; cases z
  ·rw [h1] at z; cases z
theorem oG (a b:List Int):(bZ a b || bZ b a)=true:=by
 unfold bZ;cases e:HT.aI b a with
 | false=>rfl
 | true=>
  cases e2:HT.aI a b with
  | false=>rfl
  | true=>have:=gO a b a e2 e;rw [fE] at this; cases this
theorem cu (ks:List (List Int)):(jA ks).Perm ks:=List.mergeSort_perm _ _
theorem jB (ks:List (List Int)):(jA ks).Pairwise fun a b=>bZ a b=true:=List.pairwise_mergeSort oF oG _
theorem wN (p:ls.Perm ks) (r:ls.Pairwise fun a b=>bZ a b=true):ls=jA ks:=by refine List.Perm.eq_of_pairwise (le:=fun a b=>bZ a b=true) (fun a b _ _ h k=>?_) r (jB ks) (p.trans (cu ks).symm);unfold bZ at h k;exact gP a b (by simpa using k) (by simpa using h)
theorem qk (ks:List Int):(oE ks).Perm ks:=List.mergeSort_perm _ _
theorem qm (ks:List Int):(oE ks).Pairwise (·<=·):=by have:=List.pairwise_mergeSort (le:=fun (a b:Int)=>decide (a<=b)) (fun a b c h k=>by simp at *; exact Int.le_trans h k) (fun a b=>by simp; lia) ks;exact this.imp fun h=>by simpa using h
theorem wO (p:ls.Perm ks) (r:ls.Pairwise (·<=·)):ls=oE ks:=
 List.Perm.eq_of_pairwise (le:=fun (a b:Int)=>a<=b) (fun a b _ _ h k=>Int.le_antisymm h k) r (qm ks) (p.trans (qk ks).symm)
theorem kB (hq:q.length=ks.length) (h:Cp ks q):(q.map fun i=>ks.getD i []).Pairwise fun a b=>bZ a b=true:=by rw [List.pairwise_iff_getElem];intro i j hi hj hij;simp only [Z2] at hi hj;have:=h i j (by exact (L8 hij)) (by exact KL hj (YA hq));rw [Z5 (l:=q),Z5 (l:=q),Z3 hi,Z3 hj] at this;simp only [Option.getD_some] at this;simp only [List.getElem_map,bZ,this];rfl
theorem ue {ks:List (List Int)} {q:List Nat} (hq:q.Perm (List.range ks.length)):(q.map fun i=>ks.getD i []).Perm ks:=by
 have h1:=hq.map fun i=>ks.getD i [];have h2:((List.range ks.length).map fun i=>ks.getD i [])=ks:=by
  apply List.ext_getElem?;intro i;rw [Kb];by_cases hi:i < ks.length
  ·simp [hi]
  ·simp [hi]
 rwa [h2] at h1
theorem k6 {K:PySem.W.Frag} {H:Hp} {ok:Addr->Prop} {p:Addr} {xs:List V} {ks:List (List Int)} {Q:VK} (sq0:J0 K H p xs∨JW K H p xs) (rp:Jj K H ok (ks.map gQ) xs) (hne:∀ k ∈ ks,k ≠ []) (h64:ks.length < 64)
 (k:∀ v H',Jo H H'->Ji K H' (fun a=>ok a∨H a=none) (.lst ((jA ks).map gQ)) v->Q v H'):wK K [.ref p] H Q:=by
 have hln:=rp.length;rw [Z2] at hln;have each:∀ (i:Nat) (y:V),xs[i]?=some y->∃ b n ns,y=.ref b/\ks[i]?=some (n::ns)/\JW K H b ((n::ns).map V.int)/\Ji K H ok (gQ (n::ns)) y:=by
  intro i y hy;have hi:i < ks.length:=by rw [<- hln]; exact (Z9.mp hy).1
  have hk:ks[i]?=some ks[i]:=Z3 hi;obtain ⟨y',hy',ry⟩:=rp.get (i:=i) (d:=gQ ks[i]) (by rw [Kb,hk]; rfl);rw [hy] at hy'; cases hy';have nk:=hne _ (YJ hi);generalize ks[i]=kk at ry nk hk;have ry':=ry;unfold gQ at ry;rw [Ji] at ry;obtain ⟨b,zs,rfl,sq,rz⟩:=ry;rw [di rz] at sq;cases kk with
  | nil=>exact absurd rfl nk
  | cons n ns=>exact ⟨b,n,ns,rfl,hk,sq,ry'⟩
 refine ⟨p,xs,ks,rfl,sq0,by exact Nat.lt_of_le_of_lt (YA hln) h64,⟨hln.symm,fun i y hy=>let ⟨b,n,ns,a1,a2,a3,_⟩:=each i y hy; ⟨b,n,ns,a1,a2,a3⟩⟩,fun q q1 q2 l hl=>?_⟩;have s:=aw (o:=.lst (q.map fun i=>xs.getD i .non)) hl;refine k _ _ s ?_;rw [hln] at q1;have ql:q.length=ks.length:=by have:=q1.length_eq; simpa using this
 rw [<- wN (ue q1) (kB ql q2),Ji];refine ⟨l,_,rfl,aj,.inr hl,Jj.same (ok:=fun a=>ok a∨H a=none) ?_ s⟩;have all:∀ q:List Nat,(∀ i ∈ q,i < ks.length)->Jj K H (fun a=>ok a∨H a=none) ((q.map fun i=>ks.getD i []).map gQ) (q.map fun i=>xs.getD i .non):=by
  intro q
  induction q with
  | nil=>intro _; exact .nil
  | cons i q ih=>intro hq;have hi:i < ks.length:=hq i (by simp);obtain ⟨b,n,ns,a1,a2,a3,a4⟩:=each i xs[i] (Z3 (by omega));refine .cons ?_ (ih fun j hj=>hq j (by simp [hj]));dsimp only;rw [Z5,Z5,a2,Z3 (by omega)];exact a4.mono fun a xs o _=>.inl o
 exact all q fun i hi=>by have:=q1.mem_iff.mp hi; simpa using this
theorem Nd {K:PySem.W.Frag}:Na K (wM K) iq:=by
 intro H ok vs ds u Q h g k;cases ds with
 | cons y3 y4=>
  cases y3 with
  | lst l=>
   cases y4 with
   | nil=>
    obtain ⟨v,rfl,h1⟩:=h.Jy;obtain ⟨p,xs,rfl,hp,rp⟩:=h1.lst_inv;unfold iq at g;simp only at g;cases e:ck l with
    | some ns=>
     rw [e] at g;simp only at g;split at g
     ·cases g;rw [eL e] at rp;refine .inr ⟨p,ns,rfl,.inl (.inl (by rw [<- di rp]; exact hp)),by assumption,fun ms m1 m2 l hl=>?_⟩;have s:=aw (o:=.lst (ms.map V.int)) hl;refine k _ _ s ?_;rw [<- wO m1 m2,Ji];refine ⟨l,_,rfl,aj,.inr hl,?_⟩;have all:∀ ms:List Int,Jj K (upd H l (.lst (ms.map V.int))) (fun a=>ok a∨H a=none) (ms.map D.int) (ms.map V.int):=by
       intro ms;generalize upd H l (.lst (ms.map V.int))=H'
       induction ms with
       | nil=>exact .nil
       | cons m ms ih=>exact .cons (by rw [Ji]) ih
      exact all ms
     ·cases g
    | none=>
     rw [e] at g;simp only [Z0] at g;obtain ⟨ks,e2,g⟩:=g;split at g
     ·rename_i h64;cases g;obtain ⟨el,hne⟩:=gR e2;subst el;exact .inl (k6 (.inl (.inl (.inl hp))) rp hne h64 k)
     ·cases g
   | _=>cases g
  | tup l=>
   cases y4 with
   | nil=>
    obtain ⟨v,rfl,h1⟩:=h.Jy;obtain ⟨p,xs,rfl,hp,rp⟩:=h1.JJ;unfold iq at g;simp only [Z0] at g;obtain ⟨ks,e2,g⟩:=g;split at g
    ·rename_i h64;cases g;obtain ⟨el,hne⟩:=gR e2;subst el;exact .inl (k6 (.inr hp) rp hne h64 k)
    ·cases g
   | _=>cases g
  | _=>cases g
 | _=>cases g
end Srt
namespace Mir
open L2
def kill:List Nat->En->En
 | [],ρ=>ρ
 | k::ks,ρ=>kill ks (ρ.set k none)
def am (ks:List Nat) (f:MS):MS:=fun ρ=>(f ρ).bind fun x=>some (x.1,kill ks x.2)
theorem gS (h:look (ρ.set i none) j=some s):look ρ j=some s:=by
 by_cases e:i=j
 ·subst e;by_cases hl:i < ρ.length
  ·rw [aY hl] at h; cases h
  ·rw [List.set_eq_of_length_le (by lia)] at h; exact h
 ·rwa [au e] at h
theorem R.OV (r:R C md A W ρ σ H) (i:Nat):R C md A W (ρ.set i none) σ H:=
 ⟨by rw [K9]; exact r.len,r.wa,r.ak,r.base,r.wf,r.ma,r.fo,fun j s h=>r.slot j s (gS h),fun j k s s' a n m1 m2 e1 e2=>r.inj j k s s' a n m1 m2 (gS e1) (gS e2)⟩
theorem R.kill:∀ (ks:List Nat) {ρ:En},R C md A W ρ σ H->R C md A W (Mir.kill ks ρ) σ H
 | [],ρ,r=>r
 | k::ks,ρ,r=>R.kill ks (r.OV k)
theorem Ak (h:LS C md t f):LS C md t (am ks f):=by
 intro A W ρ σ H D fl ρ' r e k;unfold am at e;simp only [Z0] at e;obtain ⟨⟨fl1,ρ1⟩,e1,e2⟩:=e;cases e2;refine h A W ρ σ H D fl1 ρ1 r e1 ?_;dsimp only at k;cases fl1 with
 | ret s=>exact fun A' W' σ' v H' g r' f' z=>k A' W' σ' v H' g (r'.kill ks) f' z
 | _=>exact fun A' W' σ' H' g r' f'=>k A' W' σ' H' g (r'.kill ks) f'
end Mir
namespace Mir
open PySem.Spec PyProof.Rows L2
def b5:List D->Option (List Key)
 | []=>some []
 | .int i::r=>(b5 r).map (.inl i::·)
 | .str x::r=>(b5 r).map (.inr x::·)
 | _=>none
def aE {κ:Type} [DecidableEq κ]:List (κ × D)->κ->Option D
 | [],_=>none
 | (k',d)::r,k=>if k'=k then some d else aE r k
def gb {κ:Type} [DecidableEq κ] (kvs:List (κ × D)) (k:κ) (d:D):List (κ × D):=if (aE kvs k).isSome=true then kvs.map (fun kv=>if kv.1=k then (kv.1,d) else kv) else kvs++[(k,d)]
def LK:Option S->Option (List (List Key × D))
 | some (.dc kvs)=>some kvs
 | _=>none
theorem cv (h:LK o=some kvs):o=some (.dc kvs):=by
 cases o with
 | some y2=>
  cases y2 with
  | dc l=>cases h; rfl
  | _=>cases h
 | _=>cases h
def oH:D->Option (List D)
 | .tup l=>some l
 | _=>none
theorem gT (h:oH d=some l):d=.tup l:=by
 cases d with
 | tup l=>cases h; rfl
 | _=>cases h
section
variable {K:PySem.W.Frag}
theorem ce:∀ {l:List D} {k:List Key} {xs:List V},b5 l=some k->Jj K H ok l xs->xs=k.map kV
 | [],k,xs,e,r=>by cases e; rw [r.nil_inv]; rfl
 | .int i::l,k,xs,e,r=>by
  replace e:(b5 l).map (Sum.inl i::·)=some k:=e;cases e1:b5 l with
  | none=>rw [e1] at e; cases e
  | some k'=>rw [e1] at e; cases e;obtain ⟨x,t,rfl,h1,h2⟩:=r.cons_inv;rw [Ji] at h1;rw [ce e1 h2,h1]; rfl
 | .str i::l,k,xs,e,r=>by
  replace e:(b5 l).map (Sum.inr i::·)=some k:=e;cases e1:b5 l with
  | none=>rw [e1] at e; cases e
  | some k'=>rw [e1] at e; cases e;obtain ⟨x,t,rfl,h1,h2⟩:=r.cons_inv;rw [Ji] at h1;rw [ce e1 h2,h1]; rfl
 | .non::l,k,xs,e,r=>by cases e
 | .bl _::l,k,xs,e,r=>by cases e
 | .tup _::l,k,xs,e,r=>by cases e
 | .lst _::l,k,xs,e,r=>by cases e
section
variable {κ:Type} [DecidableEq κ]
theorem Jt.cons_inv (h:Jt K H ok ((k,d)::r) ws):∃ v t,ws=(k,v)::t/\Ji K H ok d v/\Jt K H ok r t:=by
 obtain ⟨h1,h2⟩:=h;cases ws with
 | nil=>simp at h1
 | cons w t=>rw [Z6,Z6] at h1 h2;injection h1 with a1 a2;obtain ⟨x,y,e,p1,p2⟩:=h2.cons_inv;injection e with e1 e2;obtain ⟨wk,wv⟩:=w;dsimp only at a1 e1;subst a1; subst e1;exact ⟨wv,t,rfl,p1,a2,by rw [e2]; exact p2⟩
theorem Jt.nil_inv (h:Jt K H ok [] ws):ws=[]:=by
 have:=h.1;cases ws with
 | nil=>rfl
 | cons w t=>simp at this
theorem Jt.cons (h:Ji K H ok d v) (t:Jt K H ok r ws):Jt K H ok ((k,d)::r) ((k,v)::ws):=
 ⟨by rw [Z6,Z6,t.1],.cons h t.2⟩
theorem Jt.nil:Jt (κ:=κ) K H ok [] []:=⟨rfl,.nil⟩
theorem Jt.length (h:Jt K H ok kvs ws):ws.length=kvs.length:=by have:=Y9 List.length h.1;simpa using this
theorem ge:∀ {kvs:List (κ × D)} {ws:List (κ × V)} (k:κ),Jt K H ok kvs ws->(∀ d,aE kvs k=some d->∃ v,eV ws k=some v/\Ji K H ok d v)/\(aE kvs k=none->eV ws k=none)
 | [],ws,k,h=>by rw [h.nil_inv]; exact ⟨fun d e=>(by cases e),fun _=>rfl⟩
 | (k',d)::r,ws,k,h=>by
  obtain ⟨v,t,rfl,h1,h2⟩:=h.cons_inv;unfold aE;by_cases e:k'=k
  ·rw [Y1 e,fN e];exact ⟨fun d' e'=>by cases e'; exact ⟨v,rfl,h1⟩,fun e'=>by cases e'⟩
  ·rw [Y0 e,fO e];exact ge k h2
theorem Jt.map (hv:Ji K H ok d v):∀ {kvs:List (κ × D)} {ws:List (κ × V)},Jt K H ok kvs ws ->
 Jt K H ok (kvs.map fun kv=>if kv.1=k then (kv.1,d) else kv) (ws.map fun kv=>if kv.1=k then (kv.1,v) else kv)
 | [],ws,h=>by rw [h.nil_inv]; exact .nil
 | (k',d')::r,ws,h=>by
  obtain ⟨v',t,rfl,h1,h2⟩:=h.cons_inv;rw [Z6,Z6];by_cases e:k'=k
  ·simp only [Y1 e]; exact .cons hv (Jt.map hv h2)
  ·simp only [Y0 e]; exact .cons h1 (Jt.map hv h2)
theorem Jt.snoc (hv:Ji K H ok d v):∀ {kvs:List (κ × D)} {ws:List (κ × V)},Jt K H ok kvs ws->Jt K H ok (kvs++[(k,d)]) (ws++[(k,v)])
 | [],ws,h=>by rw [h.nil_inv]; exact .cons hv .nil
 | (k',d')::r,ws,h=>by
  obtain ⟨v',t,rfl,h1,h2⟩:=h.cons_inv;exact .cons h1 (Jt.snoc hv h2)
theorem Jt.put {k:κ} {d:D} {v:V} {kvs:List (κ × D)} {ws:List (κ × V)} (h:Jt K H ok kvs ws) (hv:Ji K H ok d v):Jt K H ok (gb kvs k d) (dC ws k v):=by
 obtain ⟨a1,a2⟩:=ge k h;unfold gb dC;have e:(ws.any fun kv=>decide (kv.1=k))=(aE kvs k).isSome:=by
  rw [jf];cases e:aE kvs k with
  | none=>rw [a2 e]; rfl
  | some d'=>obtain ⟨v',e',_⟩:=a1 d' e; rw [e']; rfl
 rw [e];split
 ·exact Jt.map hv h
 ·exact Jt.snoc hv h
end
end
theorem R.dict (r:R C md A W ρ σ H) (e:look ρ i=some (.dc kvs)) (ew:σ[i]?=some (some w)) :
 ∃ a ws,w=.ref a/\H a=some (.dT ws)/\Jt C.K H (fun b=>¬ A b) kvs ws:=by
 obtain ⟨v,ev,c⟩:=r.slot i _ e;rw [ew] at ev; cases ev;cases em:ai md i with
 | pl=>rw [em] at c; obtain ⟨a,ws,z,c1,c2,c3⟩:=c; exact ⟨a,ws,z,c1,c3⟩
 | _=>rw [em] at c; obtain ⟨a,ws,z,c1,c2,c3,c4⟩:=c; exact ⟨a,ws,z,c1,c4⟩
theorem Al {K:PySem.W.Frag}:KR K (jl K) JC:=fun H ok x y d e u Q h1 h2 g k=>.inl (GZ H ok x y d e u Q h1 h2 g k)
def gf (i:Nat) (f:ME):ME:=fun ρ=>(LK (look ρ i)).bind fun _=>(f ρ).bind fun x=>(res x.2 x.1).bind fun d=>(oH d).bind fun l=>(b5 l).bind fun k=>(LK (look x.2 i)).bind fun kvs=>(aE kvs k).bind fun u=>some (.val u,x.2)
theorem An (h:LE C md t f):LE C md (LF (jl C.K) (aS i) t) (gf i f):=by intro A W ρ σ H Q o ρ' r e k;unfold gf at e;simp only [Z0] at e;obtain ⟨kvs0,e0,⟨o1,ρ1⟩,e1,d,e2,l,e3,key,e4,kvs,e5,u,e6,e7⟩:=e;cases e7;cases gT e3;obtain ⟨v,ev,_⟩:=r.slot i _ (cv e0);refine ⟨v,ev,h A W ρ σ H _ o1 _ r e1 fun v1 H1 x1 r1 p1=>.inr (.inl ?_)⟩;obtain ⟨a,ws,rfl,c1,c2⟩:=r1.dict (cv e5) ev;obtain ⟨b,xs,rfl,q1,q2⟩:=(p1.get r1 e2).JJ;rw [ce e4 q2] at q1;obtain ⟨v',w1,w2⟩:=(ge key c2).1 u e6;exact ⟨a,b,ws,key,v',rfl,rfl,c1,q1,w1,k v' H1 x1 r1 w2⟩
theorem Ao (hm:ai md i=.pl) (h:LE C md t f):LE C md (LF (jl C.K) (aS i) t) (wz i f):=by intro A W ρ σ H Q o ρ' r e k;unfold wz at e;simp only [Z0] at e;obtain ⟨ns0,e0,⟨o1,ρ1⟩,e1,d,e2,j,e3,ns,e4,n,e5,e6⟩:=e;cases e6;cases fW e3;obtain ⟨v,ev,_⟩:=r.slot i _ (gM e0);refine ⟨v,ev,h A W ρ σ H _ o1 _ r e1 fun v1 H1 x1 r1 p1=>.inl ?_⟩;obtain ⟨v',ev',c⟩:=r1.slot i _ (gM e4);rw [ev] at ev'; cases ev';rw [hm] at c;obtain ⟨a,rfl,c⟩:=c;obtain rfl:=(p1.get r1 e2).int_inv;exact ⟨_,_,.inl c.sq,wA e5,k _ H1 x1 r1 (show Ji _ _ _ _ _ from ax)⟩
def gj (m:List S->Option S) (fa:MA) (f:ME):ME:=fun ρ=>(fa ρ).bind fun x=>(dO x.2 x.1).bind fun ss=>(m ss).bind fun s=>(LK (some s)).bind fun kvs=>(f x.2).bind fun y=>(res y.2 y.1).bind fun d=>(oH d).bind fun l=>(b5 l).bind fun k=>(aE kvs k).bind fun u=>(cD (some u)).bind fun u=>some (.val u,y.2)
theorem uf (ha:LA C md t fa) (h:LE C md u f):LE C md (LF (jl C.K) (hV (JL C.K m) [] E t) u) (gj m fa f):=by intro A W ρ σ H Q o ρ' r e k;unfold gj at e;simp only [Z0] at e;obtain ⟨⟨os,ρ1⟩,e1,ss,e2,s,e3,kvs,e4,⟨o2,ρ2⟩,e5,d,e6,l,e7,key,e8,u0,e9,u1,e10,e11⟩:=e;cases e11;cases gT e7;have es:=cv e4;cases es;obtain ⟨z1,z2⟩:=gI e10;cases z1;refine ha A W ρ σ H _ os ρ1 r e1 fun vs H1 x1 r1 p1=>?_;refine ⟨ss,_,by rw [Ma]; exact p1.Lc r1 e2,e3,fun v H2 s2 n=>?_⟩;obtain ⟨a,ws,rfl,n1,n2,n3,n4⟩:=n;have r2:=r1.same s2;refine h A W ρ1 σ H2 _ o2 ρ2 r2 e5 fun v3 H3 x3 r3 p3=>.inr (.inl ?_);obtain ⟨b,xs,rfl,q1,q2⟩:=(p3.get r3 e6).JJ;rw [ce e8 q2] at q1;have na:¬ A a:=r1.fresh n1;have hH3:H3 a=some (.dT ws):=x3 a _ (fun w=>na (r2.wa a w)) n2;obtain ⟨v',w1,w2⟩:=(ge key ⟨n3,n4⟩).1 u0 e9;exact ⟨a,b,ws,key,v',rfl,rfl,hH3,q1,w1,k v' H3 ((x1.trans (Jo.ext s2)).trans x3) r3 (Ji.JH z2 (Rep.JF (x3.JF r2.wk) z2 w2.rep))⟩
end Mir
namespace L2
open PySem.Spec PyProof.Rows
theorem jC {r:Addr} {lo hi:Int} {t u v:Tok} {Q:Value->Shared->Prop} (hr:IsRange s.heap r lo hi 1 t u v) (h1:-(2 ^ 62)<=lo) (h2:lo < 2 ^ 62) (h3:-(2 ^ 62)<=hi) (h4:hi < 2 ^ 62)
 (h:Q (.ref s.heap.objs.size) { s with heap:=s.heap.push { cls:=.type "range_iterator",data:=.fields #[rawInt (lo+(Builtin.Range.rangeSize lo hi 1 - 1) * 1),rawInt (Builtin.Range.rangeSize lo hi 1),rawInt (-1)] } }) :
 wpAny (model prog w) A (call (.builtin "range.__reversed__") [.ref r]) Q E s:=by
 have hT:s.TypeIs (.ref r) "range":=⟨_,hr,rfl⟩;refine Y7 F.slot_range_reversed hT F.entry_range_reversed ?_ (F.args_range_reversed_1 _);unfold Builtin.«range.__reversed__»;refine Jk (Yx (a:=Value.ref r) rfl ?_);have e:Builtin.Range.rangeSize lo hi 1=if lo < hi then hi - lo else 0:=rangeSize_one lo hi
 have en:-(2 ^ 63)<=Builtin.Range.rangeSize lo hi 1/\Builtin.Range.rangeSize lo hi 1 < 2 ^ 63:=by rw [e]; split <;> lia
 unfold Builtin.Range.rangeFields;refine Jk (Jk (YB hr rfl (x:=.int lo t) rfl ?_));refine Jk (Yx (a:=some lo) rfl ?_);refine Jk (YB hr rfl (x:=.int hi u) rfl ?_);refine Jk (Yx (a:=some hi) rfl ?_);refine Jk (YB hr rfl (x:=.int 1 v) rfl ?_);refine Jk (Yx (a:=some 1) rfl ?_);refine Jq ?_;dsimp only;have fit:∀ i:Int,-(2 ^ 63)<=i->i < 2 ^ 63->Builtin.Range.rangeFitsLong i=true:=fun i a b=>by
  unfold Builtin.Range.rangeFitsLong; simp only [Lv,decide_eq_true_eq]; exact ⟨a,b⟩
 have sm:(Builtin.Range.rangeFitsLong lo && Builtin.Range.rangeFitsLong hi && Builtin.Range.rangeFitsLong 1 && Builtin.Range.rangeFitsLong (-1) && Builtin.Range.rangeFitsLong (lo - 1) && Builtin.Range.rangeFitsLong (Builtin.Range.rangeSize lo hi 1))=true:=by rw [fit lo (by lia) (by lia),fit hi (by lia) (by lia),fit 1 (by decide) (by decide),fit (-1) (by decide) (by decide),fit (lo - 1) (by lia) (by lia),fit _ en.1 en.2]; rfl
 simp only [sm,Bool.not_true,Lk,if_false,if_true];exact Jk (Y6 (Jq ⟨_,rfl,h⟩))
theorem jD {r:Addr} {lo hi:Int} {t u v:Tok} {Q1:Value->Shared->Prop} (hr:IsRange s.heap r lo hi 1 t u v) (h1:-(2 ^ 62)<=lo) (h2:lo < 2 ^ 62) (h3:-(2 ^ 62)<=hi) (h4:hi < 2 ^ 62)
 (h:Q1 (.ref s.heap.objs.size) { s with heap:=s.heap.push { cls:=.type "range_iterator",data:=.fields #[rawInt (lo+(Builtin.Range.rangeSize lo hi 1 - 1) * 1),rawInt (Builtin.Range.rangeSize lo hi 1),rawInt (-1)] } }) :
 codeAny (model prog w) A (.call (.builtin "reversed.__new__") ⟨[.type "reversed",.ref r],[]⟩) (wants Q1 E) s:=by
 have hT:s.TypeIs (.ref r) "range":=⟨_,hr,rfl⟩;apply codeAny_of_tree;show wpAny _ A.in1 (checkBuiltinCall "reversed.__new__" ⟨[.type "reversed",.ref r],[]⟩ >>= fun _=>again (.builtin "reversed.__new__" ⟨[.type "reversed",.ref r],[]⟩)) _ _ s;apply Jk; apply Yx (F.newCall_reversed_1 _); apply Jq;refine ⟨plainId_quiet F.plain_reversed_new _,codeAny_builtin F.entry_reversed_new ?_⟩;rw [Around.under_plainId F.plain_reversed_new _];unfold Builtin.«reversed.__new__»;apply Jk; apply Yx (newClass_reversed _)
 (try dsimp only)
 apply Jk; apply Yx (a:=()) (by first | rfl | kernel_rfl);apply Jk; apply Yx (a:=()) (by first | rfl | kernel_rfl)
 (try dsimp only)
 apply Jk; apply wpAny_specialOf hT F.slot_range_reversed.lookup
 (try dsimp only)
 apply Jk; apply Yx (F.slot_range_reversed.bind _)
 (try dsimp only)
 have no:¬ ((Value.builtin "range.__reversed__" == Value.none)=true):=MR
 first
  | rw [Y0 no]
  | (show wpAny _ _ (if (Value.builtin "range.__reversed__" == Value.none)=true then _ else _) _ _ _; rw [Y0 no])
 apply Jk; apply Yy;refine Jk (m:=runValue (.call (.builtin "range.__reversed__") ⟨[.ref r],[]⟩)) (show wpAny _ _ (call (.builtin "range.__reversed__") [.ref r]) _ _ _ from jC hr h1 h2 h3 h4 ?_)
 first
  | exact Jq h
  | exact Jk (Jq (Jq h))
theorem iI:isSubtype (.type "range_iterator") (.type "reversed")=pure false:=by rw [isSubtype_type]; kernel_rfl
theorem jE {r:Addr} {lo hi:Int} {t u v:Tok} {Q:Value->Shared->Prop} (hr:IsRange s.heap r lo hi 1 t u v) (h1:-(2 ^ 62)<=lo) (h2:lo < 2 ^ 62) (h3:-(2 ^ 62)<=hi) (h4:hi < 2 ^ 62)
 (h:Q (.ref s.heap.objs.size) { s with heap:=s.heap.push { cls:=.type "range_iterator",data:=.fields #[rawInt (lo+(Builtin.Range.rangeSize lo hi 1 - 1) * 1),rawInt (Builtin.Range.rangeSize lo hi 1),rawInt (-1)] } }) :
 wpAny (model prog w) A (call (.type "reversed") [.ref r]) Q E s:=by
 refine callType_other (U:="range_iterator") (Q₁:=fun o s1=>o=.ref s.heap.objs.size/\s1={ s with heap:=s.heap.push { cls:=.type "range_iterator",data:=.fields #[rawInt (lo+(Builtin.Range.rangeSize lo hi 1 - 1) * 1),rawInt (Builtin.Range.rangeSize lo hi 1),rawInt (-1)] } })
  (by decide +kernel) F.create_reversed ⟨_,_,F.mro_reversed⟩ F.made_reversed iI (F.typeCall_reversed_1 _) (jD hr h1 h2 h3 h4 ⟨rfl,rfl⟩) ?_
 rintro o s1 ⟨rfl,rfl⟩;exact ⟨⟨_,Kv _ rfl,rfl⟩,h⟩
def Pw (hi:Int) (n:Nat):It:=⟨fun i _=>i < n,fun i H x H'=>H'=H/\x=.int (hi - 1 - i),fun i _=>n<=i⟩
theorem ug {P:Program} {w:World} {K:PySem.W.Frag} {tg:Expr} (it:Addr) (hi:Int) (n:Nat):Turn P w K tg (Pw hi n) [it] it (fun i h=>IsRangeIter h it (hi - 1+(i:Nat) * (-1)) ((n:Int) - (i:Nat)) (-1)) where
 mem:=by simp
 obj:=fun i h st b hb=>by
  have e:b=it:=by simpa using hb
  subst e;exact ⟨_,st,fun v z=>by
   have z':Data.fields _=Data.cell v:=z;cases z'⟩
 keep:=fun i h h' st k=>k it (by simp) _ st
 item:=by intro X hP hw hK hc i pins s σ H E I hf st hg;subst hP hw hK;obtain ⟨f0,f1,f2,f3,f4,f5⟩:=hf it (by simp);have W:=Walks.range (prog:=X.prog) (w:=X.w) (I.ok.hd hc) it (hi - 1) (-1) n;refine W.item i s _ _ hg st fun v h' tk hv st' kk=>?_;obtain ⟨t,rfl⟩:=hv;have I1:Inv X pins σ H { s with heap:=h',toks:=tk }:=I.turned (fun b o hb e=>kk b o (by simpa using hb) e) f0 f1 f3 f4 f5;refine ⟨_,rfl,ja (s:={ s with heap:=h',toks:=tk }) (n:="range_iterator") st' rfl rfl (by decide) ⟨.int (hi - 1 - i),H,I1,⟨t,?_⟩,⟨rfl,rfl⟩,st',fun b hb=>(hf b hb).1⟩⟩;congr 1;grind
 done:=by intro X hP hw hK hc i pins s σ H E I hf st hg;subst hP hw hK;obtain ⟨f0,f1,f2,f3,f4,f5⟩:=hf it (by simp);exact wpAny_pyNext_range_end (I.ok.hd hc) st (by have:n<=i:=hg; lia) fun h' eb=>⟨rfl,I.turned (t':=s.toks) (fun b o hb e=>eb b o hb e) f0 f1 f3 f4 f5⟩
 self:=fun _ _ _ _ _ st h=>wpAny_pyIter_rangeiter st h
def Cq (ta:TA):TE:=fun σ H Q=>ta σ H fun vs H1=>∃ j:Int,vs=[.int j]/\∀ p,H1 p=none->Q (.ref p) (upd H1 p (.Mf 0 j))
theorem Ap {pins:List (Addr × Obj)} {σ:St} {H:Hp} {s:Shared} {Q:VK} {lo hi:Int} {t u v:Tok} {tk:Nat} (I:Inv X pins σ H s) (q:∀ p,H p=none->Q (.ref p) (upd H p (.Mf lo hi))) :
 EP X pins σ Q (.ref s.heap.objs.size) { s with heap:=s.heap.push { cls:=.type "range",data:=.fields #[.int lo t,.int hi u,.int 1 v] },toks:=tk }:=
 ⟨.ref s.heap.objs.size,_,I.laid (o:=.Mf lo hi) (fun _ _ q=>Z7 _ q) (JI _) ⟨t,u,v,Kv _ rfl⟩,rfl,q _ (I.hok.fresh (JI _))⟩
theorem uh (hg:Gl X "range") (hm:X.mg "range"=none) (ha:PA X [a] ta) (hs:starEach [a] X.env=[(false,eval a X.env)]:=by rfl):PE X (.Call (.Name "range" p) [a] [] pos) (Cq ta):=by
 intro pins s σ H Q I h;refine Call_ (cM I hg hm boot_range (Yd (Jw (ha pos pins s σ H _ I h) fun us s1 ⟨vs,H1,I1,r1,q1⟩=>?_) hs rfl));obtain ⟨j,e,q⟩:=q1;subst e;cases r1 with
 | cons r rr=>cases rr;obtain ⟨t,rfl⟩:=r;exact call_range_1 (Ap I1 q)
def Hb (ta:TA):TI:=fun σ H R=>ta σ H fun vs H1=>∃ p lo hi,vs=[.ref p]/\H1 p=some (.Mf lo hi)/\(-(2 ^ 62)<=lo/\lo < 2 ^ 62/\-(2 ^ 62)<=hi/\hi < 2 ^ 62)/\R (Pw (lo+(hi - lo).toNat) (hi - lo).toNat) H1
theorem Er {a:Expr} {ta:TA} {p pos:Pos} (hg:Gl X "reversed") (hm:X.mg "reversed"=none) (ha:PA X [a] ta) (hs:starEach [a] X.env=[(false,eval a X.env)]:=by rfl):PI X tg (.Call (.Name "reversed" p) [a] [] pos) (Hb ta):=by
 intro pins s σ H R I h;refine Call_ (cM I hg hm boot_reversed (Yd (Jw (ha pos pins s σ H _ I h) fun us s1 ⟨vs,H1,I1,r1,q1⟩=>?_) hs rfl));obtain ⟨r,lo,hi,e,hr,⟨q1,q2,q3,q4⟩,q⟩:=q1;subst e;cases r1 with
 | cons rr rs=>
  cases rs;cases rr;obtain ⟨t,u,v,hr⟩:=(show Jr X.prog X.w H1 s1.heap r (.Mf lo hi) from I1.hok r _ hr);refine jE hr q1 q2 q3 q4 ?_;have en:(((hi - lo).toNat:Nat):Int)=Builtin.Range.rangeSize lo hi 1:=by rw [rangeSize_one]; split <;> grind
  have st:IsRangeIter (s1.heap.push { cls:=.type "range_iterator",data:=.fields #[rawInt (lo+(Builtin.Range.rangeSize lo hi 1 - 1) * 1),rawInt (Builtin.Range.rangeSize lo hi 1),rawInt (-1)] }) s1.heap.objs.size (lo+(((hi - lo).toNat:Nat):Int) - 1+((0:Nat):Int) * (-1)) ((((hi - lo).toNat:Nat):Int) - ((0:Nat):Int)) (-1):=by
   have e1:lo+(((hi - lo).toNat:Nat):Int) - 1+((0:Nat):Int) * (-1)=lo+(Builtin.Range.rangeSize lo hi 1 - 1) * 1:=by rw [<- en]; lia
   have e2:(((hi - lo).toNat:Nat):Int) - ((0:Nat):Int)=Builtin.Range.rangeSize lo hi 1:=by rw [<- en]; lia
   rw [e1,e2];exact Kv _ rfl
  refine wpAny_pyIter_rangeiter st ?_;refine ⟨s1.heap.objs.size,[s1.heap.objs.size],_,_,H1,rfl,I1.kept (t':=s1.toks) fun b o e=>Z7 _ e,ug _ (lo+(((hi - lo).toNat:Nat):Int)) (hi - lo).toNat,st,fun b hb=>?_,q⟩;have e:b=s1.heap.objs.size:=by simpa using hb
  subst e;exact I1.Ll (JI _) (I1.hok.fresh (JI _))
end L2
namespace Mir
open PySem.Spec PyProof.Rows L2
theorem Aq (hm:ai md x=.ow∨ai md x=.io) (hi:LE C md ti fi):LG C md fx (lW (aS x) ti jm) (dM md x fi):=by
 intro A W ρ σ H v d ρ' Q r p e k;unfold dM at e;simp -iota only [Z0] at e;obtain ⟨s0,e0,⟨o,ρ1⟩,e1,i,e2,s,e3,e4⟩:=e;cases e4;obtain ⟨l,kk,j,f1,rfl,f2,rfl⟩:=tV e3;obtain ⟨w,hw,_⟩:=r.slot x s0 e0;refine ⟨w,hw,?_⟩;refine hi A W ρ σ H _ o ρ1 r e1 fun v1 H1 x1 r1 p1=>.inl ?_;obtain ⟨w',hw',h1⟩:=r1.slot x _ f1;rw [hw] at hw'; cases hw';obtain ⟨a,xs,rfl,g1,g2⟩:∃ a xs,w=.ref a/\H1 a=some (.lst xs)/\Jj C.K H1 (fun b=>¬ A b) l xs:=by rcases hm with hm | hm <;> (rw [hm] at h1; obtain ⟨a,xs,q1,q2,q3,q4,q5⟩:=h1; exact ⟨a,xs,q1,q2,q5⟩)
 obtain rfl:=(p1.get r1 e2).int_inv;refine ⟨a,xs,kk,j,rfl,rfl,g1,by rw [g2.length]; exact f2,?_⟩;obtain ⟨H2,e5,b2,h2⟩:=My.ie H1 a (.lst (xs.set j v));rw [e5];have pv:=r.KU x1 p;obtain ⟨x2,r2⟩:=r1.write hm f1 rfl rfl hw b2 (.inl ⟨_,h2⟩) (s':=.d (.lst (l.set j d))) fun ok okq oa aa wa st c=>by
  obtain ⟨a',xs',q1,q2,q3,q4,q5⟩:=c;cases q1;rw [g1] at q2; cases q2;refine ⟨a,_,rfl,h2,aa,oa,?_⟩;have:=(q5.set j pv);exact r1.JT (fun c o nc h=>b2 c o (fun z=>nc (by rw [z]; exact wa)) h) this
 exact k σ H2 (x1.trans x2) r2 (Fix.refl _ _)
def fF (md:List Md) (x:Nat) (fa:MA):MG:=fun d ρ=>(LK (look ρ x)).bind fun _=>(fa ρ).bind fun y=>(JB md y.2 y.1).bind fun ds=>(b5 ds).bind fun k=>(LK (look y.2 x)).bind fun kvs=>if ds.length<=sizeLine/\kvs.length < sizeLine then some (y.2.set x (some (.dc (gb kvs k d)))) else none
theorem Ar (hm:ai md x=.ow∨ai md x=.io) (h:LA C md t fa):LG C md fx (lW (aS x) (u8 t) jm) (fF md x fa):=by
 intro A W ρ σ H v d ρ' Q r p e k;unfold fF at e;simp -iota only [Z0] at e;obtain ⟨kvs0,e0,⟨os,ρ1⟩,e1,ds,e2,key,e3,kvs,e4,e5⟩:=e;split at e5
 ·rename_i hz;cases e5;obtain ⟨w,hw,_⟩:=r.slot x _ (cv e0);refine ⟨w,hw,?_⟩;refine h A W ρ σ H _ os ρ1 r e1 fun vs H1 x1 r1 p1=>?_;have q:=p1.JB r1 e2;refine ⟨by rw [q.length]; exact hz.1,fun pa hp=>.inr (.inl ?_)⟩;have s:=aw (o:=.tup vs) hp;have r2:=r1.same s;obtain ⟨a,ws,rfl,c1,c2⟩:=r2.dict (cv e4) hw;have ek:=ce e3 q;subst ek;refine ⟨a,pa,ws,key,rfl,rfl,c1,aj,by rw [c2.length]; exact hz.2,?_⟩;have pv:Ji C.K (upd H1 pa (.tup (key.map kV))) (fun b=>¬ A b) d v:=(r.KU x1 p).same s;generalize upd H1 pa (.tup (key.map kV))=H2 at *;obtain ⟨H3,e6,b3,h3⟩:=My.ie H2 a (.dT (dC ws key v));rw [e6];obtain ⟨x2,r3⟩:=r2.write hm (cv e4) rfl rfl hw b3 (.inr (.inl ⟨_,h3⟩)) (s':=.dc (gb kvs key d)) fun ok okq oa aa wa st c=>by
   obtain ⟨a',ws',q1,q2,q3,q4,q5⟩:=c;cases q1;rw [c1] at q2; cases q2;have pt:=Jt.put (k:=key) q5 pv;exact ⟨a,_,rfl,h3,aa,oa,pt.1,r2.JT (fun c o nc h=>b3 c o (fun z=>nc (by rw [z]; exact wa)) h) pt.2⟩
  exact k σ H3 ((x1.trans (Jo.ext s)).trans x2) r3 (Fix.refl _ _)
 ·cases e5
def qo:MN:=fun ρ=>some (.dc [],ρ)
theorem As:LN C md pX qo:=by intro A W ρ σ H Q s ρ' r e k;cases e;refine .inl ?_;intro p hp;exact k p H _ (Ext.refl _ _) r hp (aw hp) ⟨[],aj,.nil⟩
theorem R.anon (r:R C md A W ρ σ H) (hp:H p=none) (mo:jo (some o)):R C md (fun b=>A b∨b=p) W ρ σ (upd H p o):=by
 have s1:=aw (o:=o) hp;have hn:∀ b,(A b∨b=p)->A b∨H b=none:=fun b h=>h.imp id fun e=>by rw [e]; exact hp
 exact {
  len:=r.len
  wa:=fun b h=>.inl (r.wa b h)
  ak:=fun b h=>by
   rcases h with h | h
   ·exact (r.ak b h).imp (fun ⟨xs,e⟩=>⟨xs,s1 _ _ e⟩) (fun z=>z.imp (fun ⟨xs,e⟩=>⟨xs,s1 _ _ e⟩) (fun z=>z.imp (fun ⟨xs,e⟩=>⟨xs,s1 _ _ e⟩) (fun ⟨xs,e⟩=>⟨xs,s1 _ _ e⟩)))
   ·rw [h,aj]; exact mo
  base:=fun b o h1 h2=>s1 _ _ (r.base b o h1 h2)
  wf:=r.wf
  ma:=fun b h=>.inl (r.ma b h)
  fo:=fun hf b xs h n=>.inl (r.fo hf b xs h n)
  slot:=fun j t e=>by
   obtain ⟨w,e1,h1⟩:=r.slot j t e;refine ⟨w,e1,?_⟩;cases em:ai md j with
   | pl=>
    rw [em] at h1;cases t with
    | scr ns=>obtain ⟨a,z,h1⟩:=h1; exact ⟨a,z,h1.same s1⟩
    | dc kvs=>
     obtain ⟨c,ws,z,h1,h2,h3,h4⟩:=h1;refine ⟨c,ws,z,s1 _ _ h1,fun w=>?_,h3,Jj.Jp (My.aF s1) (fun b xs o z=>⟨s1 _ _ z,fun w=>?_⟩) h4⟩
     ·rcases hn c w with y | y
      ·exact h2 y
      ·rw [y] at h1; cases h1
     ·rcases hn b w with y | y
      ·exact o y
      ·rw [y] at z; cases z
    | dn kvs=>
     obtain ⟨c,ws,z,⟨o,h1⟩,h2,h3⟩:=h1;refine ⟨c,ws,z,⟨o,s1 _ _ h1⟩,fun w=>?_,h3.Jp (My.aF s1) fun b xs o z=>⟨s1 _ _ z,fun w=>?_⟩⟩
     ·rcases hn c w with y | y
      ·exact h2 y
      ·rw [y] at h1; cases h1
     ·rcases hn b w with y | y
      ·exact o y
      ·rw [y] at z; cases z
    | d x=>
     refine Ji.Jp (My.aF s1) (fun b xs o z=>⟨s1 _ _ z,fun w=>?_⟩) h1;rcases hn b w with y | y
     ·exact o y
     ·rw [y] at z; cases z
    | _=>cases h1
   | _=>rw [em] at h1; exact Cell.grow s1 (fun b h=>.inl h) hn (fun b _ h=>h) h1
  inj:=r.inj }
theorem R.adopt (r0:R C md A W ρ0 σ H0) (hp:H0 p=none) (r:R C md (fun b=>A b∨b=p) W ρ σ H) (hd:H p=some (.dT []))
 (hlk:∀ j,ai md j ≠ .lk) (hm:ai md i=.ow) (b3:Oz p H H3) (h3:H3 p=some (.dT ws)) (c:Jt C.K H (fun b=>¬ (A b∨b=p)) kvs ws) :
 R C md (fun b=>A b∨b=p) (fun b=>W b∨b=p) (ρ.set i (some (.dc kvs))) (σ.set i (some (.ref p))) H3:=by
 have nw:¬ W p:=fun w=>r0.fresh hp (r0.wa p w);have h00:C.H0 p=none:=r0.h0 hp;have ex:Ext (fun b=>b=p) H H3:=fun c o n h=>b3 c o n h;have k1:∀ a,a=p->jo (H a):=fun a e=>by rw [e]; exact .inr (.inl ⟨_,hd⟩)
 have stPL:∀ {d:List D} {v:List V},Jj C.K H (fun b=>¬ (A b∨b=p)) d v->Jj C.K H3 (fun b=>¬ (A b∨b=p)) d v:=fun h=>h.Jp (ex.JF k1) fun a xs o z=>⟨ex a _ (fun w=>o (.inr w)) z,o⟩;have stP:∀ {d:D} {v:V},Ji C.K H (fun b=>¬ (A b∨b=p)) d v->Ji C.K H3 (fun b=>¬ (A b∨b=p)) d v:=fun h=>h.Jp (ex.JF k1) fun a xs o z=>⟨ex a _ (fun w=>o (.inr w)) z,o⟩;have hσ:∀ j s a,ai md j ≠ .pl->look ρ j=some s->Ln s=true->σ[j]?=some (some (.ref a))->a ≠ p:=fun j s a mj ej ij lj z=>by
  obtain ⟨w,e1,h1⟩:=r.slot j s ej;rw [lj] at e1; cases e1;subst z;cases em:ai md j with
  | pl=>exact mj em
  | lk=>exact hlk j em
  | _=>rw [em] at h1; exact nw (Cell.at ij h1).2.2.1
 have cell:∀ {ok ok' okq:Addr->Prop} {t:S} {v:V},(∀ a,Ln t=true->v=.ref a->a ≠ p)->(∀ a,a ≠ p->ok a->ok' a)->Cell C.K (fun b=>A b∨b=p) H ok okq t v->Cell C.K (fun b=>A b∨b=p) H3 ok' okq t v:=fun {ok ok' okq t v} nv hok h=>by
  cases t with
  | d y13=>
   cases y13 with
   | lst l=>obtain ⟨a,xs,e,g1,g2,g3,g4⟩:=h;exact ⟨a,xs,e,b3 a _ (nv a rfl e) g1,g2,hok a (nv a rfl e) g3,stPL g4⟩
   | _=>exact stP h
  | pot ns i r m=>obtain ⟨a,q,e,g1,g2,g3,g4,g5,g6⟩:=h;exact ⟨a,q,e,b3 a _ (nv a rfl e) g1,b3 q _ (fun z=>g5 (.inr z)) g2,g3,hok a (nv a rfl e) g4,g5,g6⟩
  | dc kvs=>obtain ⟨a,ws,e,g1,g2,g3,g4,g5⟩:=h;exact ⟨a,ws,e,b3 a _ (nv a rfl e) g1,g2,hok a (nv a rfl e) g3,g4,stPL g5⟩
  | dk kvs=>obtain ⟨a,ws,e,g1,g2,g3,g4,g5⟩:=h;exact ⟨a,ws,e,b3 a _ (nv a rfl e) g1,g2,hok a (nv a rfl e) g3,g4,stPL g5⟩
  | dm kvs=>obtain ⟨a,ws,e,⟨o,g1⟩,g2,g3,g4⟩:=h;exact ⟨a,ws,e,⟨o,b3 a _ (nv a rfl e) g1⟩,g2,hok a (nv a rfl e) g3,g4.Jp (ex.JF k1) fun a xs o z=>⟨ex a _ (fun w=>o (.inr w)) z,o⟩⟩
  | _=>exact h.elim
 exact {
  len:=by rw [K9,K9]; exact r.len
  wa:=fun b h=>h.imp (fun w=>by have:=r.wa b w; rcases this with z | z; exact z; exact absurd (by rw [<- z]; exact w) nw) id
  ak:=fun b h=>by
   by_cases hb:b=p
   ·rw [hb]; exact .inr (.inl ⟨_,h3⟩)
   ·exact (r.ak b h).imp (fun ⟨xs,e⟩=>⟨xs,b3 _ _ hb e⟩) (fun z=>z.imp (fun ⟨xs,e⟩=>⟨xs,b3 _ _ hb e⟩) (fun z=>z.imp (fun ⟨xs,e⟩=>⟨xs,b3 _ _ hb e⟩) (fun ⟨xs,e⟩=>⟨xs,b3 _ _ hb e⟩)))
  base:=fun b o h1 h2=>b3 b o (fun z=>by rw [z,h00] at h1; cases h1) (r.base b o h1 h2)
  wf:=fun b h=>by
   rcases h with h | h
   ·exact r.wf b h
   ·rw [h]; exact .inl h00
  ma:=fun b h=>r.ma b h
  fo:=fun hf b xs h n=>r.fo hf b xs h n
  slot:=fun j t e=>by
   by_cases hij:i=j
   ·subst hij;have hl:=aV e;rw [K9] at hl;rw [aY hl] at e;cases e;refine ⟨.ref p,aR (by rw [r.len]; exact hl),?_⟩;rw [hm];exact ⟨p,ws,rfl,h3,.inr rfl,⟨.inr rfl,h00⟩,c.1,stPL c.2⟩
   ·rw [au hij] at e;obtain ⟨w,e1,h1⟩:=r.slot j t e;refine ⟨w,by rw [aC hij]; exact e1,?_⟩;have nv:ai md j ≠ .pl->∀ a,Ln t=true->w=.ref a->a ≠ p:=fun mj a it z=>hσ j t a mj e it (by rw [e1,z]);cases em:ai md j with
    | pl=>
     rw [em] at h1;cases t with
     | scr ns=>obtain ⟨a,z,h1⟩:=h1; exact ⟨a,z,h1.ext ex k1⟩
     | dc kvs=>obtain ⟨a,ws,z,g1,g2,g3,g4⟩:=h1; exact ⟨a,ws,z,b3 a _ (fun y=>g2 (.inr y)) g1,g2,g3,stPL g4⟩
     | dn kvs=>obtain ⟨a,ws,z,⟨o,g1⟩,g2,g3⟩:=h1;exact ⟨a,ws,z,⟨o,b3 a _ (fun y=>g2 (.inr y)) g1⟩,g2,g3.Jp (ex.JF k1) fun a xs o z=>⟨ex a _ (fun w=>o (.inr w)) z,o⟩⟩
     | d x=>exact stP h1
     | _=>first | (cases h1; done) | (cases e3'; done) | (cases e2; done) | (cases e6; done) | contradiction
    | lk=>rw [em] at h1; exact cell (nv (by rw [em]; simp)) (fun a na o z=>by rcases z with z | z; exact o z; exact na z) h1
    | _=>rw [em] at h1; exact cell (nv (by rw [em]; simp)) (fun a _ o=>⟨.inl o.1,o.2⟩) h1
  inj:=fun j k t t' b hjk m1 m2 e1 e2 i1 i2 l1 l2=>by
   by_cases n1:i=j
   ·subst n1;have hl:=aV e1;rw [K9] at hl;rw [aR (by rw [r.len]; exact hl)] at l1;cases l1;rw [au hjk] at e2;rw [aC hjk] at l2;exact hσ k t' _ m2 e2 i2 l2 rfl
   ·by_cases n2:i=k
    ·subst n2;have hl:=aV e2;rw [K9] at hl;rw [aR (by rw [r.len]; exact hl)] at l2;cases l2;rw [au n1] at e1;rw [aC n1] at l1;exact hσ j t _ m1 e1 i1 l1 rfl
    ·rw [au n1] at e1;rw [au n2] at e2;rw [aC n1] at l1;rw [aC n2] at l2;exact r.inj j k t t' b hjk m1 m2 e1 e2 i1 i2 l1 l2 }
def ui:List Md->Bool
 | []=>true
 | .lk::_=>false
 | _::r=>ui r
theorem rP:∀ {md:List Md} (j:Nat),ui md=true->ai md j ≠ .lk
 | [],j,_=>by cases j <;> simp -iota [ai]
 | m::md,0,h=>by
  cases m <;> first | (simp -iota [ui] at h; done) | simp -iota [ai]
 | m::md,j+1,h=>by
  have:ui md=true:=by cases m <;> first | (simp -iota [ui] at h; done) | exact h
  exact rP (md:=md) j this
def jF (md:List Md) (i:Nat) (fa:MA) (fv:ME):MS:=fun ρ=>(fa ρ).bind fun y=>(JB md y.2 y.1).bind fun ds=>(b5 ds).bind fun k=>(fv y.2).bind fun z=>(K6 md z.2 z.1).bind fun d=>if ds.length<=sizeLine then some (.nx,z.2.set i (some (.dc [(k,d)]))) else none
theorem wP (hm:ai md i=.ow) (hl:ui md=true) (h:LA C md t fa) (hv:LE C md tv fv):LS C md (lX (Cb (u8 t) tv) (dE i)) (jF md i fa fv):=by
 intro A W ρ σ H D fl ρ' r e k;unfold jF at e;simp -iota only [Z0] at e;obtain ⟨⟨os,ρ1⟩,e1,ds,e2,key,e3,⟨o,ρ2⟩,e4,d,e5,e6⟩:=e;split at e6
 ·rename_i hz;cases e6;intro p hp;have ra:=r.anon (o:=.dT []) hp (.inr (.inl ⟨_,rfl⟩));have s0:=aw (o:=.dT []) hp;refine h _ W ρ σ _ _ os ρ1 ra e1 fun vs H1 x1 r1 p1=>?_;have q:=p1.JB r1 e2;refine ⟨by rw [q.length]; exact hz,fun pa hpa=>?_⟩;have s1:=aw (o:=.tup vs) hpa;have ek:=ce e3 q;have nw:¬ W p:=fun w=>r.fresh hp (r.wa p w);have d1:(upd H1 pa (.tup vs)) p=some (.dT []):=s1 _ _ (x1 p _ nw aj);have d2:(upd H1 pa (.tup vs)) pa=some (.tup vs):=aj;have r1':=r1.same s1;generalize upd H1 pa (.tup vs)=H2 at *;refine hv _ W ρ1 σ H2 _ o ρ2 r1' e4 fun v H3 x3 r3 p3=>?_;have d3:H3 p=some (.dT []):=x3 p _ nw d1;have pv:=p3.K6 r3 e5;have pk:H3 pa=some (.tup (key.map kV)):=by rw [<- ek];refine x3 pa _ (fun w=>?_) d2;rcases r1'.wk pa w with ⟨xs,z⟩ | ⟨xs,z⟩ | ⟨xs,z⟩ | ⟨xs,z⟩ <;> (rw [d2] at z; cases z)
  refine ⟨.ref pa,v,pa,key,rfl,rfl,d3,pk,?_⟩;obtain ⟨H4,e7,b4,h4⟩:=My.ie H3 p (.dT [(key,v)]);rw [e7];have rf:=R.adopt r hp r3 d3 (fun j=>rP j hl) hm b4 h4 (kvs:=[(key,d)]) (.cons pv .nil);refine k _ _ _ H4 ⟨fun a h=>h.imp id fun e=>by rw [e]; exact hp,fun a h=>h.imp id fun e=>by rw [e]; exact hp,fun b u n hb=>?_⟩ rf fun j fj=>aC (fun z=>?_)
  ·have hbp:b ≠ p:=fun z=>by rw [z,hp] at hb; cases hb
   exact b4 b u hbp (x3 b u n (s1 b u (x1 b u n (s0 b u hb))))
  ·rcases fj with fj | fj <;> (rw [<- z,hm] at fj; cases fj)
 ·cases e6
def jG (i:Nat):MS:=fun ρ=>(LK (look ρ i)).bind fun kvs=>if D.JA (kvs.map (·.2))=true then some (.ret (.dc kvs),ρ) else none
theorem wQ (hm:ai md i=.ow):LS C md (nI (aS i)) (jG i):=by
 intro A W ρ σ H D fl ρ' r e k;unfold jG at e;simp -iota only [Z0] at e;obtain ⟨kvs,e1,e2⟩:=e;split at e2
 ·rename_i hi;cases e2;obtain ⟨v,ev,c⟩:=r.slot i _ (cv e1);refine ⟨v,ev,k A W σ v H (Gr.refl _ _ _) r (Fix.refl _ _) (.inl ?_)⟩;rw [hm] at c;obtain ⟨a,ws,z,c1,c2,c3,c4,c5⟩:=c;exact ⟨a,ws,z,c3.2,c1,c4,Jj.JH hi c5.Ks⟩
 ·cases e2
def Hc (K:PySem.W.Frag) (n:Nat) (neg:Bool):R2:=fun x y H Q=>Eh K n neg x y H Q∨GK K neg x y H Q
theorem At {K:PySem.W.Frag} {n:Nat} {neg:Bool}:KR K (Hc K n neg) (O8 n neg):=fun H ok x y d e u Q h1 h2 g k=>.inl (z9 H ok x y d e u Q h1 h2 g k)
def uj (lo:Int) (n:Nat):List D:=(List.range n).map fun k=>D.int (lo+n - 1 - (k:Nat))
theorem Es (A W:Addr->Prop) (lo:Int) (n:Nat) (H:Hp):js C A W (Pw (lo+(n:Nat)) n) (uj lo n) H:=by
 intro A' W' H' g i;refine ⟨fun d e=>?_,fun h=>?_⟩
 ·unfold uj at e;rw [Kb,Y3] at e;obtain ⟨k,e1,rfl⟩:=e;obtain ⟨h1,h2⟩:=Z9.mp e1;rw [Yq] at h1;rw [List.getElem_range] at h2;subst h2;refine ⟨h1,fun x H'' y=>jt ⟨y.1,?_⟩⟩;rw [y.2];exact ax
 ·simp -iota [uj] at h;exact h
def oI (f:MA):MI:=fun ρ=>(f ρ).bind fun x=>(dg x.2 x.1).bind fun ds=>match ds with
 | [.int j]=>if -(2 ^ 62)<=j/\j < 2 ^ 62 then some (uj 0 j.toNat,x.2) else none
 | _=>none
theorem Au (h:LA C md t f):LI C md none (Hb (bS (Cq t) dB)) (oI f):=by
 intro A W ρ σ H Q ds ρ' r e k;unfold oI at e;simp -iota only [Z0] at e;obtain ⟨⟨os,ρ1⟩,e1,xs,e2,e3⟩:=e;cases xs with
 | cons y17 y18=>
  cases y17 with
  | int j=>
   cases y18 with
   | nil=>
    dsimp only at e3;split at e3
    ·rename_i hj;cases e3;refine h A W ρ σ H _ os _ r e1 fun vs H1 x1 r1 p1=>?_;obtain ⟨v,rfl,pv⟩:=(p1.get r1 e2).Jy;obtain rfl:=pv.int_inv;refine ⟨j,rfl,fun p hp=>?_⟩;have s:=aw (o:=.Mf 0 j) hp;refine ⟨p,0,j,rfl,aj,⟨by decide,by decide,hj.1,hj.2⟩,k _ _ (x1.trans (Jo.ext s)) (r1.same s) fun W2 _ _=>?_⟩;rw [Int.sub_zero];exact Es _ _ _ _ _
    ·cases e3
   | _=>cases e3
  | _=>cases e3
 | _=>cases e3
section
variable {K:PySem.W.Frag}
theorem uk (kt:KT K) (hu:X.A.units+n+1 < cLine) (hK:X.K=K:=by rfl):JK X (compareOp .NotIn) (Hc K n true):=by
 intro pins s σ H x y v u Q I rx ry h;rcases h with h | h
 ·exact t8 kt hu hK pins s σ H x y v u Q I rx ry h
 ·cases h.1
end
def Av (m:Md) (s:Option S):Option D:=match m,s with
 | .ow,some (.d (.lst l))=>if D.JA l=true then some (.lst l) else none
 | _,s=>cD (Mi s)
def Ly (md:List Md) (ρ:En):Op->Option D
 | .val d=>cD (some d)
 | .var i=>Av (ai md i) (look ρ i)
def Ka (md:List Md) (ρ:En):List Op->Option (List D)
 | []=>some []
 | o::os=>(Ly md ρ o).bind fun d=>(Ka md ρ os).bind fun ds=>some (d::ds)
theorem Kz.Ly (r:R C md A W ρ σ H) (h:Kz C A σ H o v) (e:Ly md ρ o=some d):Ji C.K H (fun a=>C.H0 a=none) d v:=by
 have imm:∀ {d':D},cD (res ρ o)=some d'->Ji C.K H (fun a=>C.H0 a=none) d' v:=by intro d' e';obtain ⟨e1,hi⟩:=gI e';exact Ji.JH hi (h.get r e1).rep
 cases o with
 | val d'=>exact imm e
 | var i=>
  replace e:Av (ai md i) (look ρ i)=some d:=e;unfold Av at e;split at e
  ·rename_i l hm hl;split at e
   ·cases e;rename_i hi;obtain ⟨w,ew,h1⟩:=r.slot i _ hl;have:some (some v)=some (some w):=(show σ[i]?=some (some v) from h).symm.trans ew;cases this;rw [hm] at h1;obtain ⟨a,xs,rfl,q2,q3,q4,q5⟩:=h1;rw [Ji];exact ⟨a,xs,rfl,q2,q4.2,Jj.JH hi q5.Ks⟩
   ·cases e
  ·exact imm e
theorem J3.Ka (r:R C md A W ρ σ H):∀ {os:List Op} {vs:List V} {ds:List D},J3 C A σ H os vs->Ka md ρ os=some ds->Jj C.K H (fun a=>C.H0 a=none) ds vs
 | [],vs,ds,h,e=>by cases e; rw [show vs=[] from h]; exact .nil
 | o::os,vs,ds,h,e=>by
  obtain ⟨v,t,rfl,h1,h2⟩:=h;unfold Mir.Ka at e;simp only [Z0] at e;obtain ⟨d,e1,ds',e2,e3⟩:=e;cases e3;exact .cons (h1.Ly r e1) (J3.Ka r h2 e2)
def oJ (md:List Md) (f:MA):MS:=fun ρ=>(f ρ).bind fun x=>(Ka md x.2 x.1).bind fun ds=>if ds.length<=sizeLine then some (.ret (.d (.tup ds)),x.2) else none
theorem Aw (h:LA C md t f):LS C md (nI (u8 t)) (oJ md f):=by
 intro A W ρ σ H D fl ρ' r e k;unfold oJ at e;simp only [Z0] at e;obtain ⟨⟨os,ρ1⟩,e1,ds,e2,e3⟩:=e;split at e3
 ·cases e3;rename_i hz;refine h A W ρ σ H _ os _ r e1 fun vs H1 x1 r1 p1=>?_;have q:=p1.Ka r1 e2;refine ⟨by rw [q.length]; exact hz,fun p hp=>?_⟩;have s:=aw (o:=.tup vs) hp;refine k A W σ _ _ (Gr.JM (x1.trans (Jo.ext s))) (r1.same s) (Fix.refl _ _) (.inl ?_);show Ji _ _ _ (.tup ds) _;rw [Ji];exact ⟨p,vs,rfl,aj,q.same s⟩
 ·cases e3
end Mir
namespace L2
open PySem.Spec PyProof.Rows HT
open AutoSeq1 (wpAny_loadPart')
open MeetsSeq MeetsSeq2 MeetsSeq3 SeqAt
theorem cO {items:Array Value} {i:Nat} (h:IntsAre (items.toList.drop i) []) (hi:i<=items.size):items[((i:Nat):Int).toNat]?=none/\items.size=i:=by
 have:items.toList.drop i=[]:=by cases h':items.toList.drop i with | nil=>rfl | cons a l=>rw [h'] at h; cases h
 have hl:items.toList.length<=i:=List.drop_eq_nil_iff.mp this;have:items.size<=i:=by simpa using hl
 exact ⟨by simp; exact this,by lia⟩
theorem cw {items:Array Value} {i:Nat} {x:Int} {ns:List Int} (h:IntsAre (items.toList.drop i) (x::ns)):∃ t,items[((i:Nat):Int).toNat]?=some (.int x t)/\i < items.size/\IntsAre (items.toList.drop (i+1)) ns:=by
 have hlt:i < items.toList.length:=by
  rcases Nat.lt_or_ge i items.toList.length with h' | h'
  ·exact h'
  ·rw [List.drop_of_length_le h'] at h; cases h
 rw [List.drop_eq_getElem_cons hlt] at h;generalize hv:items.toList[i]=v at h;cases h with
 | cons a t h'=>
  refine ⟨t,?_,by simpa using hlt,h'⟩;have:items.toList[i]?=some (.int x t):=by rw [Z3 hlt,hv]
  simpa using this
theorem Ax (l b:Addr) (items items2:Array Value) (n n2:Nat) (dd dd2:Option Addr) (sl sl2:Array (Option Value)) :
 ∀ (ns ms:List Int) (i:Nat),i<=items.size->i<=items2.size->IntsAre (items.toList.drop i) ns->IntsAre (items2.toList.drop i) ms ->
  Meets (Builtin.«list.__eq__.loop» ⟨[.ref l,.ref b,rawInt i,rawInt 0],[]⟩)
   (fun A R s=>s.heap.get? l=some { cls:=.type "list",dict:=dd,data:=.seq items n,slots:=sl }/\s.heap.get? b=some { cls:=.type "list",dict:=dd2,data:=.seq items2 n2,slots:=sl2 } /\
    R (.ok (.ret (.bool (aI ns ms)))) s):=by
 intro ns
 induction ns with
 | nil=>
  intro ms i h1 h2 hi hj prog w A R s h;obtain ⟨hp,g,d,tk,os⟩:=s; obtain ⟨hl,hb,h⟩:=h;obtain ⟨e1,s1⟩:=cO hi h1
  wp_walk using Y8 hl,Y8 hb
  rw [e1]
  wp_walk using Y8 hl,Y8 hb
  cases ms with
  | nil=>obtain ⟨e2,s2⟩:=cO hj h2;show R (.ok (.ret (.bool (decide (items.size < items2.size))))) _;rw [Y2 (by grind)];exact h
  | cons y ms=>obtain ⟨t,e2,s2,_⟩:=cw hj;show R (.ok (.ret (.bool (decide (items.size < items2.size))))) _;rw [decide_eq_true (by exact Nat.lt_of_le_of_lt (YA s1) s2)];exact h
 | cons x ns ih=>
  intro ms i h1 h2 hi hj prog w A R s h;obtain ⟨hp,g,d,tk,os⟩:=s; obtain ⟨hl,hb,h⟩:=h;obtain ⟨t,e1,s1,hi'⟩:=cw hi;cases ms with
  | nil=>
   obtain ⟨e2,s2⟩:=cO hj h2
   wp_walk using Y8 hl,Y8 hb
   rw [e1,e2]
   wp_walk using Y8 hl,Y8 hb
   show R (.ok (.ret (.bool (decide (items.size < items2.size))))) _;rw [Y2 (by lia)];exact h
  | cons y ms=>
   obtain ⟨u,e2,s2,hj'⟩:=cw hj
   wp_walk using Y8 hl,Y8 hb
   rw [e1,e2];have hc:((i:Int)+1)=((i+1:Nat):Int):=by push_cast; rfl
   rw [aQ] at h;obtain ⟨e,he,hiff⟩:=u9 A.in1 ⟨hp,g,d,tk,os⟩ x t y u;refine Jk (he prog w _ _ ?_);cases e with
   | true=>
    rw [Y1 (hiff.mp rfl)] at h
    wp_walk
    rw [hc];exact ⟨plainId_quiet plain_eq_loop _,codeAny_builtin entry_eq_loop (by
     rw [Around.under_plainId plain_eq_loop _];exact ih ms (i+1) (by exact Nat.succ_le_of_lt s1) (by exact Nat.succ_le_of_lt s2) hi' hj' prog w A R _ ⟨hl,hb,h⟩)⟩
   | false=>
    rw [Y0 (fun q=>absurd (hiff.mpr q) MR)] at h
    wp_walk using Y8 hl,Y8 hb
    rw [e1,e2];have hri:=va A.in1 ⟨hp,g,d,tk,os⟩ x t y u prog w
    wp_walk using hri
    simpa using h
theorem wR (l b:Addr) (items items2:Array Value) (n n2:Nat) (dd dd2:Option Addr) (sl sl2:Array (Option Value)) {ns ms:List Int} (hi:IntsAre items.toList ns) (hj:IntsAre items2.toList ms) :
 Meets (Builtin.«list.__lt__» ⟨[.ref l,.ref b],[]⟩)
  (fun A R s=>s.heap.get? l=some { cls:=.type "list",dict:=dd,data:=.seq items n,slots:=sl }/\s.heap.get? b=some { cls:=.type "list",dict:=dd2,data:=.seq items2 n2,slots:=sl2 } /\
   R (.ok (.ret (.bool (aI ns ms)))) s):=by
 intro prog w A R s h;obtain ⟨hp,g,d,tk,os⟩:=s; obtain ⟨hl,hb,h⟩:=h;have f3:=AutoSeq1.sub_list_list
 wp_walk using Y8 hl,Y8 hb
 exact ⟨plainId_quiet plain_eq_loop _,codeAny_builtin entry_eq_loop (by
  rw [Around.under_plainId plain_eq_loop _];exact Ax l b items items2 n n2 dd dd2 sl sl2 ns ms 0 (K0 _) (K0 _) hi hj prog w A R _ ⟨hl,hb,h⟩)⟩
theorem wS (hl:s.heap.IsList l items) (hb:s.heap.IsList b items2) (hi:IntsAre items.toList ns) (hj:IntsAre items2.toList ms)
 (hu:A.units < cLine) (h:Q (.bool (aI ns ms)) s):wpAny (model prog w) A (compareOp .Lt (.ref l) (.ref b)) Q E s:=by
 obtain ⟨⟨cls,dd,data,sl⟩,ho,hc,n,hd⟩:=id hl;obtain ⟨⟨cls2,dd2,data2,sl2⟩,ho2,hc2,n2,hd2⟩:=id hb;simp only at hc hd hc2 hd2;subst hc hd hc2 hd2;exact richCompare_meets_room (op:=.Lt) ⟨_,ho,rfl⟩ ⟨_,ho2,rfl⟩ PySem.F.slot_list_lt PySem.F.entry_list_lt (PySem.F.args_list_lt_2 _ _) (wR l b items items2 n n2 dd dd2 sl sl2 hi hj)
  ⟨ho,ho2,show Value.bool (aI ns ms) ≠ Value.notImplemented/\Q (.bool (aI ns ms)) s from ⟨(fun x=>nomatch x),h⟩⟩ hu
end L2
namespace L2
open PySem.Spec PyProof.Rows HT
def Hd (K:PySem.W.Frag):R2:=fun x y H Q=>∃ a b ns ms,x=.ref a/\y=.ref b/\H a=some (.lst (ns.map V.int))/\H b=some (.lst (ms.map V.int))/\Q (.bl (HT.aI ns ms)) H
theorem Et (hu:X.A.units < cLine):JK X (compareOp .Lt) (Hd X.K):=by intro pins s σ H x y v u Q I rx ry h;obtain ⟨a,b,ns,ms,rfl,rfl,ha,hb,q⟩:=h;cases rx;cases ry;obtain ⟨its,r1,p1,_⟩:=I.list (.inl (.inl ha));obtain ⟨its2,r2,p2,_⟩:=I.list (.inl (.inl hb));have i1:IntsAre its.toArray.toList ns:=je r1;have i2:IntsAre its2.toArray.toList ms:=je r2;exact wS p1.isList p2.isList i1 i2 hu ⟨.bl (HT.aI ns ms),H,I,rfl,q⟩
def He (K:PySem.W.Frag):R2:=fun x y H Q=>ic (fun i j=>decide (i < j)) Ob x y H Q∨Hd K x y H Q
theorem Eu {K:PySem.W.Frag} {n:Nat} (kt:KT K) (hu:X.A.units+n < cLine) (hK:X.K=K:=by rfl):JK X (compareOp .Lt) (He K):=by
 subst hK;intro pins s σ H x y v u Q I rx ry h;rcases h with h | h
 ·exact vE pins s σ H x y v u Q I rx ry h
 ·exact Et (by lia) pins s σ H x y v u Q I rx ry h
end L2
namespace Mir
open PySem.Spec PyProof.Rows L2
section
variable {K:PySem.W.Frag}
theorem Ay:KR K (He K) Lf:=fun H ok x y d e u Q h1 h2 g k=>.inl (vZ H ok x y d e u Q h1 h2 g k)
end
end Mir
namespace Mir
open PySem.W PyProof.Rows L2
def M7 (p : Lean.Name) (s : String) : Lean.MacroM (Array (Lean.TSyntax `Lean.Parser.Tactic.tacticSeq)) := (s.splitOn " ").toArray.mapM fun n => `(tacticSeq| with_reducible apply $(Lean.mkIdent (p ++ Lean.Name.mkSimple n)))
def alz (s : String) : Lean.MacroM (Array (Lean.TSyntax `Lean.Parser.Tactic.tacticSeq)) := (s.splitOn " ").toArray.mapM fun n => `(tacticSeq| with_reducible exact $(Lean.mkIdent (`Mir ++ Lean.Name.mkSimple n)) (by walk_at "dz"))
section
open Lean
def Ov (a:List Char):List String:=if a.isEmpty then [] else [String.ofList a.reverse]
def NC:Nat->List Char->List Char->List String
 | _,[],a=>Ov a
 | 0,c::r,a=>if c == '<' then Ov a++NC 1 r ['<'] else if c == '\'' then Ov a++NC 2 r ['\''] else if c == ' ' then Ov a++NC 0 r [] else if "(){}[];".contains c then Ov a++c.toString::NC 0 r [] else NC 0 r (c::a)
 | m+1,c::r,a=>if (m == 0 && c == '>') || (m == 1 && c == '\'') then Ov a++NC 0 r [] else NC (m+1) r (c::a)
def Pr (s:String):Name:=s.toName
def scp (s:String):MacroM Ident:=do return mkIdent (<- Macro.addMacroScope (.mkSimple s))
def MU:Nat->List String->Array Term->MacroM (Array Term × List String)
 | 0,ws,a=>return (a,ws)
 | _,[],a=>return (a,[])
 | k+1,w::ws,a=>do
   if w == ")" || w == "]" || w == "}" || w == ";" then return (a,ws)
   if w == "(" then
     let (xs,r) <- MU k ws #[]
     MU k r (a.push (if xs.size == 1 then xs[0]! else Syntax.mkApp xs[0]! (xs.extract 1 xs.size)))
   else if w == "[" then
     let (xs,r) <- MU k ws #[]
     MU k r (a.push (<- `([$xs,*])))
   else if w == "{" then
     let (xs,r) <- MU k ws #[]
     MU k r (a.push (<- `(⟨$xs,*⟩)))
   else if w.endsWith "=" then
     let (xs,r) <- MU k ws #[]
     let n:=mkIdent (Pr (w.dropEnd 1).toString)
     MU k r (a.push ⟨(<- `(Parser.Term.namedArgument| ($n := $(xs[0]!)))).raw⟩)
   else do
     let t <- match w.toList with
       | ['_']=>`(_)
       | ['!']=>`((by assumption))
       | ['%']=>`((by decide))
       | ['\\']=>`((fun _ _=>rfl))
       | '<' :: c => `((by walk_at $(Syntax.mkStrLit (String.ofList c))))
       | '\''::c=>pure ⟨(Syntax.mkStrLit (String.ofList c)).raw⟩
       | ['?','_']=>`(?_)
       | '?' :: c => do `(?$(<- scp (String.ofList c)))
       | '.' :: c => `(.$(mkIdent (Pr (String.ofList c))))
       | l=>if l.all Char.isDigit then pure (quote w.toNat!) else pure ⟨(mkIdent (Pr w)).raw⟩
     MU k ws (a.push t)
def one (xs:Array Term):Term:=if xs.size == 1 then xs[0]! else Syntax.mkApp xs[0]! (xs.extract 1 xs.size)
def Oe:Nat->List String->Array (TSyntax `tactic)->MacroM (Array (TSyntax `tactic))
 | 0,_,a=>return a
 | _,[],a=>return a
 | k+1,w::ws,a=>do
   if w == "W" then
     let s:=ws.takeWhile (· != ";")
     Oe k (ws.drop (s.length + 1)) (a.push (<- `(tactic| walk_at $(Syntax.mkStrLit (" ".intercalate s)))))
   else if w == "C" then
     let s:=ws.takeWhile (· != ";")
     let n <- scp s.head!
     let t <- match s.tail! with
       | ["rfl"] => `(tactic| case $n:ident => rfl)
       | ["%"] => `(tactic| case $n:ident => decide)
       | ["!"] => `(tactic| case $n:ident => assumption)
       | ["I"] => `(tactic| case' $n:ident => intro C s2 H2 fp)
       | l => `(tactic| case $n:ident => walk_at $(Syntax.mkStrLit (" ".intercalate l)))
     Oe k (ws.drop (s.length+1)) (a.push t)
   else if w == "S" then Oe k (ws.drop 1) (a.push (<- `(tactic| with_reducible assumption)))
   else if w == "s" then Oe k (ws.drop 1) (a.push (<- `(tactic| assumption)))
   else do
     let (xs,r) <- MU 1000 ws #[]
     let t:=one xs
     let c <- if w == "G" then `(tactic| with_reducible show $t) else if w == "R" then `(tactic| refine' $t) else if w == "E" then `(tactic| exact $t) else if w == "q" then `(tactic| with_reducible exact $t) else if w == "Q" then `(tactic| with_reducible refine' $t) else `(tactic| with_reducible apply $t)
     Oe k r (a.push c)
def tx (l:List String):MacroM (TSyntax `tactic):=do
 let a <- l.toArray.mapM fun s=>do
   match NC 0 s.toList [] with
   | "T"::ws=>do
     let (xs,r) <- MU 1000 ws #[]
     let ts <- Oe 100 r #[]
     `(tacticSeq| focus ((with_reducible show (_ : $(one xs)) = _); ($[$ts];*)))
   | ws=>do
     let ts <- Oe 100 ws #[]
     `(tacticSeq| ($[$ts];*))
 `(tactic| first $[| $a]*)
def Og (k:Nat) (s:String):MacroM (TSyntax `tactic):=tx ((List.range k).map fun n=>(s.replace "@" (toString n)).replace "&" (toString (n / 12)) |>.replace "^" (toString (n % 12)))
end
def N3 (ns:List Int):Nat:=(firstMet (fun i=>ns.getD i 0) ns.length).length
def vd (K:PySem.W.Frag) (xs:List V) (H:Hp) (Q:VK):Prop:=∃ a ns,xs=[.ref a]/\J0 K H a (ns.map V.int)/\ns.length < 1000 /\
 ∀ l S,H l=none->Q (.ref l) (upd H l (.set S (N3 ns)))
end Mir
namespace Mir
open PySem.Spec PyProof.Rows L2
def JQ (i:Int):Prop:=i.natAbs.log2 < 1000000
instance {i:Int}:Decidable (JQ i):=by unfold JQ; infer_instance
theorem JQ.bits (h:JQ i):Builtin.Int.intBits i<=2 ^ 20:=by
 unfold JQ at h;unfold Builtin.Int.intBits;have e:(2:Nat) ^ 20=1048576:=by decide
 split <;> lia
def Cr:R2:=fun x y H Q=>match x,y with
 | .int i,.int j=>(JQ i/\JQ j)/\Q (.int (i * j)) H
 | _,_=>False
def Cs:R2:=fun x y H Q=>match x,y with
 | .int i,.int j=>(j ≠ 0/\j.natAbs.log2 < 9000)/\Q (.int (i.fdiv j)) H
 | _,_=>False
def Hf:R2:=fun x y H Q=>DC x y H Q∨∃ a b,x=.bl a/\y=.bl b/\Q (.bl (a == b)) H
def Ct:R2:=fun x y H Q=>vH x y H Q∨∃ a b,x=.bl a/\y=.bl b/\Q (.bl (!(a == b))) H
theorem wT:JK X (binaryOp .Mult) Cr:=by
 intro pins s σ H x y v u Q I rx ry h
 match x,y,h with
 | .int i,.int j,⟨⟨h1,h2⟩,q⟩=>obtain ⟨t,rfl⟩:=rx;obtain ⟨t',rfl⟩:=ry;exact mul_int ⟨.int _,H,I.tok _,⟨_,rfl⟩,q⟩ (IntMulOk.of_bits h1.bits h2.bits)
theorem wU:JK X (binaryOp .FloorDiv) Cs:=by
 intro pins s σ H x y v u Q I rx ry h
 match x,y,h with
 | .int i,.int j,⟨⟨h1,h2⟩,q⟩=>obtain ⟨t,rfl⟩:=rx;obtain ⟨t',rfl⟩:=ry;exact floordiv_int h1 ⟨.int _,H,I.tok _,⟨_,rfl⟩,q⟩ (.inl (PyProof.noPylong_of_log2 h2))
theorem Az:JK X (compareOp .Is) Hf:=by
 intro pins s σ H x y v u Q I rx ry h;rcases h with h | ⟨a,b,rfl,rfl,q⟩
 ·exact rj pins s σ H x y v u Q I rx ry h
 ·cases rx; cases ry;refine wpAny_is_plain rfl ⟨.bl _,H,I,?_,q⟩;cases a <;> cases b <;> rfl
theorem wV:JK X (compareOp .IsNot) Ct:=by
 intro pins s σ H x y v u Q I rx ry h;rcases h with h | ⟨a,b,rfl,rfl,q⟩
 ·exact nW pins s σ H x y v u Q I rx ry h
 ·cases rx; cases ry;refine wpAny_isNot_plain rfl ⟨.bl _,H,I,?_,q⟩;cases a <;> cases b <;> rfl
def cF:D->D->Option D
 | .int i,.int j=>if JQ i/\JQ j then some (.int (i * j)) else none
 | _,_=>none
def ul:D->D->Option D
 | .int i,.int j=>if j ≠ 0/\j.natAbs.log2 < 9000 then some (.int (i.fdiv j)) else none
 | _,_=>none
def Mn:D->D->Option D
 | d,.non=>some (.bl (OO d))
 | .bl a,.bl b=>some (.bl (a == b))
 | _,_=>none
def wW:D->D->Option D
 | d,.non=>some (.bl (!OO d))
 | .bl a,.bl b=>some (.bl (!(a == b)))
 | _,_=>none
section
variable {K:PySem.W.Frag}
theorem AA:KR K Cr cF:=by
 intro H ok x y d e u Q h1 h2 g k;cases d with
 | int i=>
  cases e with
  | int j=>
   obtain rfl:=h1.int_inv; obtain rfl:=h2.int_inv;replace g:(if JQ i/\JQ j then some (D.int (i * j)) else none)=some u:=g;split at g
   ·rename_i hz; cases g; exact ⟨hz,k _ H (Jo.refl _) ax⟩
   ·cases g
  | _=>cases g
 | _=>cases g
theorem AB:KR K Cs ul:=by
 intro H ok x y d e u Q h1 h2 g k;cases d with
 | int i=>
  cases e with
  | int j=>
   obtain rfl:=h1.int_inv; obtain rfl:=h2.int_inv;replace g:(if j ≠ 0/\j.natAbs.log2 < 9000 then some (D.int (i.fdiv j)) else none)=some u:=g;split at g
   ·rename_i hz; cases g; exact ⟨hz,k _ H (Jo.refl _) ax⟩
   ·cases g
  | _=>cases g
 | _=>cases g
theorem Ew:KR K Hf Mn:=by
 intro H ok x y d e u Q h1 h2 g k
 match d,e,g with
 | d,.non,g=>exact .inl (lY H ok x y d .non u Q h1 h2 g k)
 | .bl a,.bl b,g=>obtain rfl:=h1.Ko; obtain rfl:=h2.Ko;cases g;exact .inr ⟨a,b,rfl,rfl,k _ H (Jo.refl _) aW⟩
theorem AC:KR K Ct wW:=by
 intro H ok x y d e u Q h1 h2 g k
 match d,e,g with
 | d,.non,g=>exact .inl (iP H ok x y d .non u Q h1 h2 g k)
 | .bl a,.bl b,g=>obtain rfl:=h1.Ko; obtain rfl:=h2.Ko;cases g;exact .inr ⟨a,b,rfl,rfl,k _ H (Jo.refl _) aW⟩
end
def wX (lo hi c:Int):Nat:=(if lo < hi then (hi - lo - 1) / c+1 else 0).toNat
def Pa (lo c:Int) (n:Nat):It:=⟨fun i _=>i < n,fun i H x H'=>H'=H/\x=.int (lo+(i:Nat) * c),fun i _=>n<=i⟩
theorem um {P:Program} {w:World} {K:PySem.W.Frag} {tg:Expr} (it:Addr) (lo c:Int) (n:Nat):Turn P w K tg (Pa lo c n) [it] it (fun i h=>IsRangeIter h it (lo+(i:Nat) * c) ((n:Int) - (i:Nat)) c) where
 mem:=by simp
 obj:=fun i h st b hb=>by
  obtain rfl:b=it:=by simpa using hb
  exact ⟨_,st,fun v z=>by cases (show Data.fields _=Data.cell v from z)⟩
 keep:=fun i h h' st k=>k it (by simp) _ st
 item:=by intro X hP hw hK hc i pins s σ H E I hf st hg;subst hP hw hK;obtain ⟨f0,f1,f2,f3,f4,f5⟩:=hf it (by simp);refine (Walks.range (prog:=X.prog) (w:=X.w) (I.ok.hd hc) it lo c n).item i s _ _ hg st fun v h' tk hv st' kk=>?_;obtain ⟨t,rfl⟩:=hv;have I1:Inv X pins σ H { s with heap:=h',toks:=tk }:=I.turned (fun b o hb e=>kk b o (by simpa using hb) e) f0 f1 f3 f4 f5;exact ⟨_,rfl,ja (s:={ s with heap:=h',toks:=tk }) (n:="range_iterator") st' rfl rfl (by decide) ⟨.int (lo+(i:Nat) * c),H,I1,⟨t,rfl⟩,⟨rfl,rfl⟩,st',fun b hb=>(hf b hb).1⟩⟩
 done:=by intro X hP hw hK hc i pins s σ H E I hf st hg;subst hP hw hK;obtain ⟨f0,f1,f2,f3,f4,f5⟩:=hf it (by simp);have hle:n<=i:=hg;exact wpAny_pyNext_range_end (I.ok.hd hc) st (by lia) fun h' eb=>⟨rfl,I.turned (t':=s.toks) (fun b o hb e=>eb b o hb e) f0 f1 f3 f4 f5⟩
 self:=fun _ _ _ _ _ st h=>wpAny_pyIter_rangeiter st h
def jH (i j c:Int):Prop:=0<=i/\i < 1000000/\0<=j/\j < 1000000/\0 < c/\c < 1000
instance {i j c:Int}:Decidable (jH i j c):=by unfold jH; infer_instance
def gU (i j c:Int):Prop:=-1000000 < i/\i < 1000000/\-1000000 < j/\j < 1000000/\c < 0/\-1000 < c
instance {i j c:Int}:Decidable (gU i j c):=by unfold gU; infer_instance
def ir (lo hi c:Int):Nat:=(if hi < lo then (lo - hi - 1) / (-c)+1 else 0).toNat
def wY (i j c:Int) (n:Nat):Prop:=c ≠ 0/\c.natAbs < 1000/\(n:Int)=Builtin.Range.rangeSize i j c/\Builtin.Range.small i j c=true
def wZ (ta:TA):TI:=fun σ H R=>ta σ H fun vs H1=>∃ (i j c:Int) (n:Nat),vs=[.int i,.int j,.int c]/\wY i j c n/\R (Pa i c n) H1
theorem w4 (h:gU i j c):wY i j c (ir i j c):=by
 obtain ⟨h1,h2,h3,h4,h5,h6⟩:=h;have hz:(ir i j c:Int)=Builtin.Range.rangeSize i j c:=by
  unfold ir Builtin.Range.rangeSize;rw [Y0 (show ¬ c > 0 by omega)];by_cases g:j < i
  ·have:0<=(i - j - 1) / (-c):=Int.ediv_nonneg (by omega) (by omega);rw [Y1 g];omega
  ·rw [Y0 g]; rfl
 have hb:Builtin.Range.rangeSize i j c<=2000000:=by
  unfold Builtin.Range.rangeSize;rw [Y0 (show ¬ c > 0 by omega)];by_cases g:j < i
  ·have:(i - j - 1) / (-c)<=i - j - 1:=Int.ediv_le_self _ (by omega);rw [Y1 g];omega
  ·rw [Y0 g]; decide
 refine ⟨by omega,by omega,hz,?_⟩;unfold Builtin.Range.small;simp only [Builtin.Range.rangeFitsLong,Lv,Bool.or_eq_true,decide_eq_true_eq,beq_iff_eq,Y0 (show ¬ c > 0 by omega)];omega
theorem k7 (h:jH i j c):(wX i j c:Int)=Builtin.Range.rangeSize i j c:=by
 unfold wX Builtin.Range.rangeSize;rw [Y1 h.2.2.2.2.1];obtain ⟨h1,h2,h3,h4,h5,h6⟩:=h;split
 ·have:0<=(j - i - 1) / c:=Int.ediv_nonneg (by lia) (by exact (Int.le_of_lt h5));grind
 ·rfl
theorem qp (h:jH i j c):Builtin.Range.small i j c=true:=by
 have hs:=k7 h;obtain ⟨h1,h2,h3,h4,h5,h6⟩:=h;have hb:Builtin.Range.rangeSize i j c<=1000000:=by
  unfold Builtin.Range.rangeSize;rw [Y1 h5];split
  ·have:(j - i - 1) / c<=j - i - 1:=Int.ediv_le_self _ (by omega);lia
  ·exact Int.le_trans h1 (Int.le_of_lt h2)
 unfold Builtin.Range.small;simp -iota only [Builtin.Range.rangeFitsLong,Lv,Bool.or_eq_true,decide_eq_true_eq,beq_iff_eq,Y1 h5];lia
theorem uo (hg:Gl X "range") (hm:X.mg "range"=none) (ha:PA X [a,b,d] ta) (hs:starEach [a,b,d] X.env=[(false,eval a X.env),(false,eval b X.env),(false,eval d X.env)]:=by rfl) (hs2:starEach [b,d] X.env=[(false,eval b X.env),(false,eval d X.env)]:=by rfl) :
 PI X tg (.Call (.Name "range" p) [a,b,d] [] pos) (wZ ta):=by
 intro pins s σ H R I h;refine Call_ (cM I hg hm boot_range (Yd (Jw (ha pos pins s σ H _ I h) fun us s1 ⟨vs,H1,I1,r1,q1⟩=>?_) (by rw [hs,hs2]) (by rw [hs2]; rfl)));obtain ⟨i,j,c,n,rfl,⟨hc0,hc1,hc2,hc3⟩,q⟩:=q1;cases r1 with
 | cons r rr=>
 cases rr with
 | cons r' rr=>
 cases rr with
 | cons r'' rr=>
 cases rr;obtain ⟨t,rfl⟩:=r;obtain ⟨t',rfl⟩:=r';obtain ⟨t'',rfl⟩:=r'';refine call_range_3 hc0 ?_ (.inl (PyProof.noPylong_small (Nat.lt_trans hc1 (by decide))));refine wpAny_pyIter_range (IsRange.new ..) hc3 ?_;have I2:Inv X pins σ H1 { s1 with heap:=s1.heap.push { cls:=.type "range",data:=.fields #[.int i t,.int j t',.int c t''] },toks:=s1.toks }:=I1.kept fun b o e=>Z7 _ e;refine ⟨(s1.heap.push { cls:=.type "range",data:=.fields #[.int i t,.int j t',.int c t''] }).objs.size,[(s1.heap.push { cls:=.type "range",data:=.fields #[.int i t,.int j t',.int c t''] }).objs.size],_,_,H1,rfl,
  I2.kept (t':=s1.toks) fun b o e=>Z7 _ e,um _ i c n,?_,fun b hb=>?_,q⟩
 ·show IsRangeIter _ _ (i+((0:Nat):Int) * c) ((n:Int) - ((0:Nat):Int)) c;rw [show i+((0:Nat):Int) * c=i by simp,show (n:Int) - ((0:Nat):Int)=Builtin.Range.rangeSize i j c by rw [<- hc2]; lia];exact Kv _ rfl
 ·obtain rfl:b=(s1.heap.push { cls:=.type "range",data:=.fields #[.int i t,.int j t',.int c t''] }).objs.size:=by simpa using hb
  exact I2.Ll (JI _) (I2.hok.fresh (JI _))
def iu (lo c:Int) (n:Nat):List D:=(List.range n).map fun k=>D.int (lo+(k:Nat) * c)
def oK (f:MA):MI:=fun ρ=>(f ρ).bind fun x=>(dg x.2 x.1).bind fun ds=>match ds with
 | [.int i,.int j,.int c]=>if jH i j c then some (iu i c (wX i j c),x.2) else if gU i j c then some (iu i c (ir i j c),x.2) else none
 | _=>none
theorem AD (A W:Addr->Prop) (lo c:Int) (n:Nat) (H:Hp):js C A W (Pa lo c n) (iu lo c n) H:=by
 intro A' W' H' g i;refine ⟨fun d e=>?_,fun h=>?_⟩
 ·unfold iu at e;rw [Kb,Y3] at e;obtain ⟨k,e1,rfl⟩:=e;obtain ⟨h1,h2⟩:=Z9.mp e1;rw [Yq] at h1;rw [List.getElem_range] at h2;subst h2;refine ⟨h1,fun x H'' y=>jt ⟨y.1,?_⟩⟩;rw [y.2];exact ax
 ·simp -iota [iu] at h;exact h
theorem AE (h:LA C md t f):LI C md none (wZ t) (oK f):=by
 intro A W ρ σ H Q ds ρ' r e k;unfold oK at e;simp -iota only [Z0] at e;obtain ⟨⟨os,ρ1⟩,e1,xs,e2,e3⟩:=e;cases xs with
 | cons y7 y8=>
  cases y7 with
  | int i=>
   cases y8 with
   | cons y9 y10=>
    cases y9 with
    | int j=>
     cases y10 with
     | cons y11 y12=>
      cases y11 with
      | int c=>
       cases y12 with
       | nil=>
        dsimp only at e3;have fin:∀ n,wY i j c n->(iu i c n,ρ1)=(ds,ρ')->wZ t σ H Q:=fun n hj e4=>by
         cases e4;refine h A W ρ σ H _ os _ r e1 fun vs H1 x1 r1 p1=>?_;obtain ⟨v1,w1,rfl,pv1,q1⟩:=p1.get r1 e2;obtain ⟨v2,w2,rfl,pv2,q2⟩:=q1;obtain ⟨v3,w3,rfl,pv3,q3⟩:=q2;obtain rfl:w3=[]:=q3;obtain rfl:=pv1.int_inv;obtain rfl:=pv2.int_inv;obtain rfl:=pv3.int_inv;exact ⟨i,j,c,n,rfl,hj,k _ H1 x1 r1 fun W2 _ _=>AD _ _ _ _ _ _⟩
        split at e3
        ·rename_i hj;have hc:=hj.2.2.2.2;exact fin _ ⟨by omega,by omega,k7 hj,qp hj⟩ (KZ e3)
        ·split at e3
         ·rename_i hj;exact fin _ (w4 hj) (KZ e3)
         ·cases e3
       | _=>cases e3
      | _=>cases e3
     | _=>cases e3
    | _=>cases e3
   | _=>cases e3
  | _=>cases e3
 | _=>cases e3
def qq (l m:List D):List D:=List.zipWith (fun a b=>D.tup [a,b]) l m
def up (md:List Md) (f:MA):MI:=fun ρ=>(f ρ).bind fun x=>(JB md x.2 x.1).bind fun ds=>match ds with
 | [.lst l,.lst m]=>some (qq l m,x.2)
 | _=>none
theorem Ex (r:R C md A W ρ σ H) (hw:∀ a,W2 a->W a) {a b:Addr} {xs ys:List V} {l m:List D} (h:H a=some (.lst xs)) (na:¬ W2 a) (hb:H b=some (.lst ys)) (nb:¬ W2 b)
 (p:Jj C.K H (fun b=>¬ A b) l xs) (q:Jj C.K H (fun b=>¬ A b) m ys):js C A W2 (Pp C.K a b) (qq l m) H:=by
 intro A' W' H' g i;have h':H' a=some (.lst xs):=g.ext a _ na h;have hb':H' b=some (.lst ys):=g.ext b _ nb hb;have st:∀ {l:List D} {xs:List V},Jj C.K H (fun b=>¬ A b) l xs->Jj C.K H' (fun b=>¬ A' b) l xs:=fun p=>p.Jp (g.ext.JF fun a w=>r.wk a (hw a w)) fun b ys o z=>⟨g.ext b _ (fun w=>o (r.wa b (hw b w))) z,fun w=>by
  rcases g.an b w with y | y
  ·exact o y
  ·rw [y] at z; cases z⟩
 have p':=st p;have q':=st q;refine ⟨fun d e=>?_,fun hl=>?_⟩
 ·unfold qq at e;rw [List.getElem?_zipWith_eq_some] at e;obtain ⟨d1,d2,e1,e2,rfl⟩:=e;obtain ⟨x,ex,px⟩:=p'.get e1;obtain ⟨y,ey,py⟩:=q'.get e2;refine ⟨⟨xs,ys,x,y,.inl (.inl h'),.inl (.inl hb'),ex,ey⟩,fun z H'' yl=>?_⟩;obtain ⟨T,u,v,hT,rfl,rfl,yx,yy⟩:=yl;have zx:=yx xs (.inl (.inl h'));have zy:=yy ys (.inl (.inl hb'));rw [ex] at zx;rw [ey] at zy;cases zx;cases zy;refine ⟨aw hT,?_⟩;rw [Ji];have s:=aw (o:=HO.tup [x,y]) hT;exact ⟨T,_,rfl,aj,.cons ((px.same s).mono fun _ _ o _=>.inl o) (.cons ((py.same s).mono fun _ _ o _=>.inl o) .nil)⟩
 ·refine ⟨xs,ys,.inl (.inl h'),.inl (.inl hb'),?_⟩;rw [p'.length,q'.length];unfold qq at hl;rw [List.length_zipWith] at hl;grind
theorem Ey (h:LA C md t f):LI C md none (Gx C.K t) (up md f):=by
 intro A W ρ σ H Q ds ρ' r e k;unfold up at e;simp -iota only [Z0] at e;obtain ⟨⟨os,ρ1⟩,e1,xs,e2,e3⟩:=e;cases xs with
 | cons y5 y6=>
  cases y5 with
  | lst l=>
   cases y6 with
   | cons y7 y8=>
    cases y7 with
    | lst m=>
     cases y8 with
     | nil=>cases e3;refine h A W ρ σ H _ os _ r e1 fun vs H1 x1 r1 p1=>?_;obtain ⟨v,r2,rfl,pv,pr⟩:=(p1.JB r1 e2).cons_inv;obtain ⟨w,r3,rfl,pw,pr⟩:=pr.cons_inv;obtain rfl:=pr.nil_inv;rw [Ji] at pv pw;obtain ⟨a,ys,rfl,h1,h2,h3⟩:=pv;obtain ⟨b,zs,rfl,h4,h5,h6⟩:=pw;exact ⟨a,b,rfl,⟨ys,.inl (.inl h1)⟩,⟨zs,.inl (.inl h4)⟩,k _ H1 x1 r1 fun W2 hw _=>Ex r1 hw h1 (fun w=>h2 (r1.wa _ (hw _ w))) h4 (fun w=>h5 (r1.wa _ (hw _ w))) h3 h6⟩
     | _=>cases e3
    | _=>cases e3
   | _=>cases e3
  | _=>cases e3
 | _=>cases e3
end Mir
namespace L2
open PySem.Spec PyProof.Rows
def bp:Int->List Int->Int
 | m,[]=>m
 | m,x::l=>bp (if x < m then x else m) l
theorem k8 (val:Nat->Int) (n:Int) (l:List Int) (h:∀ i,i < (n::l).length->val i=(n::l).getD i 0):∀ k,k<=l.length->val (argBest (fun i j=>decide (val i < val j)) k)=bp n (l.take k)
 | 0,_=>by
  simp [argBest,bp];have:=h 0 (by simp);simpa using this
 | k+1,hk=>by
  have ih:=k8 val n l h k (by omega);have e:l.take (k+1)=l.take k++[l.getD k 0]:=by rw [List.take_add_one,Z5,Z3 (show k < l.length by omega)];simp
  have app:∀ (m:Int) (a:List Int) (x:Int),bp m (a++[x])=if x < bp m a then x else bp m a:=by
   intro m a x
   induction a generalizing m with
   | nil=>rfl
   | cons y a ih=>simp only [OC,bp]; exact ih _
  have hv:val (k+1)=l.getD k 0:=by have:=h (k+1) (by simp; omega);simpa using this
  rw [e,app,<- ih,<- hv];show val (if decide (val (k+1) < val (argBest (fun i j=>decide (val i < val j)) k))=true then k+1 else argBest (fun i j=>decide (val i < val j)) k)=_;by_cases c:val (k+1) < val (argBest (fun i j=>decide (val i < val j)) k)
  ·rw [Y1 (decide_eq_true c),Y1 c]
  ·rw [Y0 (by simp [c]),Y0 c]
theorem Hg (hm:(d == sysModules)=false) (ho:s.heap.get? d=some o) (hx:o.ExactDict)
 (q:Q (.ref s.heap.objs.size) { s with heap:=s.heap.push { cls:=.type "dict_values",data:=.fields #[.ref d] } }):wpAny (model P w) A (call (.builtin "dict.values") [.ref d]) Q E s:=by
 have ty:s.TypeIs (.ref d) "dict":=⟨o,ho,hx.1⟩;refine Y7 F.slot_dict_values ty F.entry_dict_values ?_ (F.args_dict_values_1 _);refine Jk ?_;unfold Builtin.Dict.noArgs;refine Jk (wpAny_notOrdered_dict ty ?_);show wpAny _ _ (pure d) _ _ s;refine Jq (show wpAny _ _ (Builtin.Dict.showsAll d >>= _) _ _ s from ?_);unfold Builtin.Dict.showsAll;rw [Y0 (by rw [hm]; simp)];exact Jk (Jq (Jk (Y6 (Jq ⟨_,rfl,q⟩))))
theorem Ez (hv:s.heap.IsValuesView v d) (ho:s.heap.get? d=some o) (hd:o.data=.dict es ep)
 (q:Q (.ref s.heap.objs.size) { s with heap:=s.heap.push { cls:=.type "dict_valueiterator",data:=.fields #[.ref d,.int 0 0,.int es.size 0,.int ep 0] } }):wpAny (model P w) A (pyIter (.ref v)) Q E s:=by
 obtain ⟨ov,hov,hcv,hdv⟩:=id hv;refine wpAny_pyIter_slot hv.typeIs F.slot_dict_values_iter (Y7 F.slot_dict_values_iter hv.typeIs F.entry_dict_values_iter ?_ (F.args_dict_values_iter_1 _));unfold Builtin.«dict_values.__iter__» Builtin.Dict_items.dictOf;refine Jk (Jq (Jk (Jk (YB hov hdv (x:=.ref d) rfl (Jq (Jk ?_))))));unfold Builtin.Dict_items.newIterator;refine Jk (Yv ho hd (Jk (Yk ho hd ?_)));simp only [show Builtin.Dict_items.ownsTuple "dict_valueiterator"=false by decide,Lk,if_false];refine Y6 (Jq ⟨_,rfl,"dict_valueiterator",_,⟨_,Kv _ rfl,rfl⟩,F.slot_dict_valueiterator_next.lookup,?_⟩);simpa [rawInt] using q
theorem EA (K:s.heap.IsValIter it d i es.size ep) (ho:s.heap.get? d=some o) (hd:o.data=.dict es ep) {e:DictEntry} (hi:es[i]?=some e)
 (q:∀ h',h'.IsValIter it d (i+1) es.size ep->Heap.SameBut it s.heap h'->Q (some e.val) { s with heap:=h' }):wpAny (model P w) A (pyNext (.ref it)) Q E s:=by
 obtain ⟨oi,hoi,hc,hf⟩:=id K;unfold pyNext;refine Jk (wpAny_attempt (Yc (name:=Str.ofString "__next__") K.typeIs F.slot_dict_valueiterator_next (Y7 F.slot_dict_valueiterator_next K.typeIs F.entry_dict_valueiterator_next ?_ (F.args_dict_valueiterator_next_1 _))));refine Jk (Jq (Jk (Jk ?_)))
 first | refine Jk (wpAny_typeNameOfWhole_valiter K.typeIs (Jq ?_)) | refine Jk (wpAny_typeNameOf_valiter K.typeIs (Jq ?_))
 refine Jk (wpAny_fieldsOf hoi hf ?_);simp only [show Builtin.Dict_items.ownsTuple "dict_valueiterator"=false by decide,Lk,if_false];show wpAny _ _ (if (Value.ref d == Value.none)=true then _ else _) _ _ s;rw [Y0 (show ¬ ((Value.ref d == Value.none)=true) from nofun)];refine Jk (Jq (Jk (Yv ho hd ?_)));rw [Y0 (by simp)];refine Jk (Jq (Jk (Yk ho hd ?_)));rw [Y0 (by simp)];refine Jq ?_;simp only [show ¬ ((i:Int) < 0) by omega,if_false,Yr,hi];refine Jk ?_
 first | refine Jk (wpAny_typeNameOfWhole_valiter K.typeIs (Jq ?_)) | refine Jk (wpAny_typeNameOf_valiter K.typeIs (Jq ?_))
 refine Jk (wpAny_isOneOf_valiter K.typeIs ?_);show wpAny _ _ (setField (.ref it) 1 (rawInt ((i:Int)+1)) >>= _) _ _ s;refine Jk (wpAny_setField hoi hf (by simp) ?_);have K':(s.heap.update it (Obj.mapFields (·.setIfInBounds 1 (rawInt ((i:Int)+1))))).IsValIter it d (i+1) es.size ep:=⟨_,Heap.get?_update_self _ hoi (Obj.isFreed_of_fields (YO hf _)),(Obj.cls_mapFields ..).trans hc,by rw [YO hf]; simp [rawInt]⟩;refine Jk (Yh (Jk (wpAny_isOneOf_valiter (s:={ s with heap:=s.heap.update it (Obj.mapFields (·.setIfInBounds 1 (rawInt ((i:Int)+1)))) }) K'.typeIs ?_)));refine Jk (wpAny_isOneOf_valiter (s:={ s with heap:=s.heap.update it (Obj.mapFields (·.setIfInBounds 1 (rawInt ((i:Int)+1)))) }) K'.typeIs ?_);show wpAny _ _ (pure e.val) _ _ _;exact Jq (Jq ⟨_,rfl,Jq (q _ K' (Ym ..))⟩)
theorem Hh (hh:A.handled=none) (K:s.heap.IsValIter it d i es.size ep) (ho:s.heap.get? d=some o) (hd:o.data=.dict es ep) (hi:es.size<=i)
 (q:∀ h',Heap.ExtBut it s.heap h'->Q none { s with heap:=h' }):wpAny (model P w) A (pyNext (.ref it)) Q E s:=by
 obtain ⟨oi,hoi,hc,hf⟩:=id K;unfold pyNext;refine Jk (wpAny_attempt (Yc (name:=Str.ofString "__next__") K.typeIs F.slot_dict_valueiterator_next (Y7 F.slot_dict_valueiterator_next K.typeIs F.entry_dict_valueiterator_next ?_ (F.args_dict_valueiterator_next_1 _))));refine Jk (Jq (Jk (Jk ?_)))
 first | refine Jk (wpAny_typeNameOfWhole_valiter K.typeIs (Jq ?_)) | refine Jk (wpAny_typeNameOf_valiter K.typeIs (Jq ?_))
 refine Jk (wpAny_fieldsOf hoi hf ?_);simp only [show Builtin.Dict_items.ownsTuple "dict_valueiterator"=false by decide,Lk,if_false];show wpAny _ _ (if (Value.ref d == Value.none)=true then _ else _) _ _ s;rw [Y0 (show ¬ ((Value.ref d == Value.none)=true) from nofun)];refine Jk (Jq (Jk (Yv ho hd ?_)));rw [Y0 (by simp)];refine Jk (Jq (Jk (Yk ho hd ?_)));rw [Y0 (by simp)];refine Jq ?_;simp only [show ¬ ((i:Int) < 0) by omega,if_false,Yr,Array.getElem?_eq_none hi];refine Jk ?_
 first | refine Jk (wpAny_typeNameOfWhole_valiter K.typeIs (Jq ?_)) | refine Jk (wpAny_typeNameOf_valiter K.typeIs (Jq ?_))
 show wpAny _ _ (setField (.ref it) 0 .none >>= _) _ _ s;refine Jk (wpAny_setField hoi hf (by simp) ?_);show wpAny _ _ (newExc (.type "StopIteration") [] >>= _) _ _ _;refine Jk ?_;simp only [newExc,newTuple];refine Jk (Y6 ?_ (by size_fits));refine Jk (m:=firstArgMember _ _) (Yx (a:=Value.none) (by first | rfl | (simp only [firstArgMember]; rfl)) (Y6 ?_ (by size_fits)));simp only [raiseNew];refine Jk (wpAny_handled ?_);rw [show A.in1.handled=none from hh];refine Jk (Jq (wpAny_throw ?_));refine Jk (wpAny_isInstance (b:=true) (T:="StopIteration") ⟨_,Kv _ rfl,rfl⟩ isSubtype_stop ?_);exact Jq (q _ (((Ym ..).extBut.push _).push _))
theorem Hi (hh:A.handled=none) (hne:d ≠ it) (hd:o.data=.dict es ep):Walks P w A it [it,d] [it] es.size (fun i v=>∃ e:DictEntry,es[i]?=some e/\v=e.val) (fun i h=>h.IsValIter it d i es.size ep/\h.get? d=some o) where
 sub:=fun b hb=>by simp at hb; simp [hb]
 frame:=fun _ _ _ st hk=>⟨st.1.at fun o e=>hk it (by simp) o e,hk d (by simp) _ st.2⟩
 item:=fun i s Q E hi st hQ=>EA st.1 st.2 hd (Array.getElem?_eq_getElem hi) fun h' st' sb=>hQ _ h' s.toks ⟨_,Array.getElem?_eq_getElem hi,rfl⟩ ⟨st',(sb.2 d hne).trans st.2⟩ fun b o hb e=>sb.extBut b o (fun h=>hb (by simp [h])) e
 done:=fun s Q E st hQ=>Hh hh st.1 st.2 hd (JI _) fun h' he=>hQ h' s.toks fun b o hb e=>he b o (fun h=>hb (by simp [h])) e
 self:=fun _ _ _ _ st hQ=>wpAny_pyIter_valiter st.1 hQ
def Nh (p a:Addr):Heap->Prop:=fun h=>h.IsValuesView p a
theorem Hj (x:Nh p a h):Jr P w H h p (.ext (Nh p a)):=
 ⟨x,let ⟨o,z,_⟩:=x; ⟨o,z⟩,fun _ _ y e=>let ⟨o,z,r⟩:=y; ⟨o,e o z,r⟩⟩
def Hk:V->Hp->VK->Prop:=fun x H Q=>∃ a o kvs,x=.ref a/\H a=some (.ext (J4 a o kvs))/\∀ p,H p=none->Q (.ref p) (upd H p (.ext (Nh p a)))
def w5 (te:TE):TE:=fun σ H Q=>te σ H fun x H1=>Hk x H1 Q
theorem AF (he:PE X e te) (hbase:attributeBase e (Str.ofString "values") X.env (eval e X.env)=eval e X.env:=by rfl) (hline:(apos.endLine == cpos.line)=true:=by rfl):PE X (.Call (.Attribute e (Str.ofString "values") apos) [] [] cpos) (w5 te):=by
 intro pins s σ H Q I h;refine wpAny_Call_method0_late hbase hline (Jw (he pins s σ H _ I h) fun v s1 ⟨x,H1,I1,r1,q1⟩=>?_);obtain ⟨a,o,kvs,rfl,hH,q⟩:=q1;cases r1;obtain ⟨h1,h2,h3,_⟩:=fR (I1.hok a _ hH);refine ⟨"dict","dict.values",F.plainAttrs_dict,F.slot_dict_values,F.type_dict_values,⟨o,h1,h3.1⟩,fun b e=>?_,Calls.callWith_builtin rfl (PySem.evalArgs_none (Hg h2 h1 h3 ⟨.ref s1.heap.objs.size,_,?_,rfl,q _ (I1.hok.fresh (JI _))⟩))⟩
 ·cases e; exact ⟨o,h1,h3.2.1⟩
 ·exact I1.laid (t':=s1.toks) (fun _ _ z=>Z7 _ z) (JI _) (Hj ⟨_,Kv _ rfl,rfl,rfl⟩)
def bL (n:Int) (l:List Int):Int:=-(bp (-n) (l.map fun x=>-x))
def w6:List V->Hp->VK->Prop:=fun xs H Q=>∃ (p a:Addr) (o:Obj) (kvs:List (KA × V)) (n:Int) (ns:List Int),xs=[.ref p]/\H p=some (.ext (Nh p a))/\H a=some (.ext (J4 a o kvs))/\kvs.map (·.2)=(n::ns).map V.int/\Q (.int (bL n ns)) H
theorem AG (x:Jr P w H h a (.ext (J4 a o kvs))):∃ es ep,o.data=.dict es ep/\es.size=kvs.length/\∀ (i:Nat) (e:DictEntry) (kv:KA × V),es[i]?=some e->kvs[i]?=some kv->RelV kv.2 e.val:=by
 obtain ⟨⟨z0,z1,z2,qs,z3,es,ep,h1,z5,z6,z7⟩,_⟩:=x;refine ⟨es,ep,z6,?_,fun i e kv he hi=>?_⟩
 ·have:=Y9 List.length z7;simp at this;rw [this];exact (YM z3).symm
 ·have key:∀ {l:List (KA × V)} {m:List (KA × Value)},KV l m->∀ (i:Nat) (kv:KA × V) (q:KA × Value),l[i]?=some kv->m[i]?=some q->RelV kv.2 q.2:=by
   intro l m r;unfold KV at r
   induction r with
   | nil=>intro i kv q h; simp at h
   | @cons p q ps qs h t ih=>
    intro i kv q' h1 h2;cases i with
    | zero=>simp at h1 h2; subst h1; subst h2; exact h.2
    | succ i=>simp at h1 h2; exact ih i kv q' h1 h2
  rw [<- YH,z7,Kb,Kb,Y3] at he;obtain ⟨r,he,rfl⟩:=he;rw [Y3] at he;obtain ⟨q,hq,rfl⟩:=he;exact key z3 i kv q hi hq
theorem uq (hc:X.calm=true):Jx X (.builtin "max") w6:=by
 intro pins s σ H xs us Q I r h;obtain ⟨p,a,o,kvs,n,ns,rfl,hp,ha,hv,q⟩:=h;obtain ⟨u,rfl,rx⟩:=cG r;cases rx;have view:s.heap.IsValuesView p a:=(show Jr X.prog X.w H s.heap p (.ext (Nh p a)) from I.hok p _ hp).1;obtain ⟨h1,h2,h3,_⟩:=fR (I.hok a _ ha);obtain ⟨es,ep,hd,hs,hr⟩:=AG (I.hok a _ ha);have hlt:a < s.heap.objs.size:=JO h1;have hlen:kvs.length=ns.length+1:=by simpa using Y9 List.length hv
 have at_:∀ (i:Nat) (v:Value),(∃ e:DictEntry,es[i]?=some e/\v=e.val)->∃ t,v=Value.int ((n::ns).getD i 0) t:=by
  rintro i v ⟨e,he,rfl⟩;have hi:i < kvs.length:=by rw [<- hs]; exact (Array.getElem?_eq_some_iff.mp he).1
  have z:=hr i e _ he (Z3 hi);have w:(kvs.map (·.2))[i]?=some (V.int ((n::ns)[i]'(by simp; omega))):=by rw [hv,Kb,Z3 (show i < (n::ns).length by simp; omega)];rfl
  rw [Kb,Z3 hi] at w;have w':(kvs[i]).2=V.int ((n::ns)[i]'(by simp; omega)):=KZ w;rw [w'] at z;obtain ⟨t,z⟩:=z;exact ⟨t,by rw [z,Z5,Z3 (show i < (n::ns).length by simp; omega)]; rfl⟩
 refine call_max_walk (Ez view h1 hd ⟨s.heap.objs.size,[s.heap.objs.size,a],[s.heap.objs.size],es.size,_,_,fun i j=>decide ((n::ns).getD i 0 > (n::ns).getD j 0),rfl,Hi (o:=o) (show X.A.in1.handled=none from I.ok.hd hc) (Kn hlt) hd,⟨⟨_,Kv _ rfl,rfl,rfl⟩,Z7 _ h1⟩,?_,?_,CmpOf.ints_gt (fun i=>(n::ns).getD i 0) at_,?_⟩)
 ·intro b hb;show b < (s.heap.push _).objs.size;rw [Heap.size_push];rcases JS.mp hb with rfl | hb
  ·exact Nat.lt_succ_self _
  ·obtain rfl:b=a:=by simpa using hb
   exact Nat.lt_succ_of_lt hlt
 ·omega
 ·intro v h' tk hv' kk;obtain ⟨t,rfl⟩:=at_ _ v hv';have e:=k8 (fun i=>-((n::ns).getD i 0)) (-n) (ns.map fun x=>-x) (fun i hi=>by
   simp at hi;rw [show -n::(ns.map fun x=>-x)=(n::ns).map fun x=>-x from rfl,Z5,Z5,Kb,Z3 (show i < (n::ns).length by simp; omega)];rfl) ns.length (by simp)
  rw [show (ns.map fun x=>-x).take ns.length=ns.map fun x=>-x from List.take_of_length_le (by simp)] at e;have e2:es.size - 1=ns.length:=by omega
  have e3:(fun i j=>decide ((n::ns).getD i 0 > (n::ns).getD j 0))=fun i j=>decide (-((n::ns).getD i 0) < -((n::ns).getD j 0)):=by
   funext i j
   exact decide_eq_decide.mpr (by omega)
  refine ⟨.int (bL n ns),H,I.kept (t':=tk) fun b o eo=>kk b o (fun hb=>?_) (Z7 _ eo),⟨t,?_⟩,q⟩
  ·have:b=s.heap.objs.size:=by simpa using hb
   rw [this] at eo;exact absurd (JO eo) (LL _)
  ·rw [e2,e3];unfold bL;rw [<- e];simp
theorem nin (hu:A.units+1 < cLine) (hk:Kt P w s.heap k u) (N:K7 P w s.heap d xs o es ep) (hm:(d == sysModules)=false) (q:∀ n,Q (.bool (eW xs k).isSome) { s with toks:=s.toks+n }):wpAny (model P w) A (compareOp .In u (.ref d)) Q E s:=by
 show wpAny _ _ (do return .bool (<- contains (.ref d) u)) Q E s;refine Jk ?_;unfold contains
 try with_reducible refine Yh ?_
 refine Jk (wpAny_specialOf N.ty PySem.slot_dict_contains.lookup ?_);show wpAny _ _ (if (some (Value.builtin "dict.__contains__") == some Value.none)=true then _ else _) _ E s;rw [Y0 (by rw [beq_builtin_none]; simp)];refine Jk (wpAny_callSpecialUnlessNone?_slot (name:=Str.ofString "__contains__") N.ty PySem.slot_dict_contains (Y7 PySem.slot_dict_contains N.ty PySem.entry_dict_contains ?_ (PySem.args_dict_contains _ _)));show wpAny _ _ (dictGet d u >>= _) _ _ s;refine Jk (vK (A:=A.in1) hu hk N fun n=>?_);have q:=q n;cases hf:eW xs k with
 | some p=>rw [hf] at q;show wpAny _ _ (ret (.bool true)) _ _ _;exact Jq ⟨_,rfl,Ya (Jq q)⟩
 | none=>rw [hf] at q;show wpAny _ _ (Builtin.Dict.pendingKey? d u >>= _) _ _ _;exact Jk (wpAny_pendingKey_other hm (Jq ⟨_,rfl,Ya (Jq q)⟩))
def Hm:R2:=fun x y H Q=>∃ a o kvs k,y=.ref a/\ND H a o kvs/\Ox H x k/\Q (.bl (valN kvs k).isSome) H
theorem EB (hu:X.A.units+1 < cLine):JK X (compareOp .In) Hm:=by
 intro pins s σ H x y v u Q I rx ry h;obtain ⟨a,o,kvs,k,rfl,n,hk,q⟩:=h;cases ry;obtain ⟨qs,es,ep,kv,N,z0,_⟩:=n.nat I;have e:(valN kvs k).isSome=(eW (qs.map fQ) k).isSome:=by
  have:=KV.valN (k:=k) kv;cases e1:valN kvs k with
  | none=>rw [e1] at this; rw [J8.none_of this]; rfl
  | some v=>rw [e1] at this; obtain ⟨u',e',_⟩:=J8.some_of this; rw [e']; rfl
 refine nin hu (hk.is I rx) N z0 fun m=>⟨.bl (valN kvs k).isSome,H,I.tok _,?_,q⟩;rw [e];rfl
namespace HT2
open HT PySem.Builtin
theorem Kj {t sl:Addr} {items:Array Value} {vl vu:Value} {lo hi:Option Int} {Q:Value->Shared->Prop} (ht:IsTup s.heap t items) (hs:s.heap.IsSliceOf sl vl vu .none) (pl:IsPart vl lo) (pu:IsPart vu hi)
 (hw:HT.JE items.size 0 lo=0/\HT.JE items.size items.size hi=items.size) (h:Q (.ref t) s):wpAny (model prog w) A (getItem (.ref t) (.ref sl)) Q E s:=by
 obtain ⟨os,hos,hcs,hds⟩:=id hs;have hTs:s.TypeIs (.ref sl) "slice":=⟨os,hos,hcs⟩;unfold getItem
 try with_reducible refine Yh ?_
 first | refine Jk (Jq ?_) | skip
 refine Jk (wpAny_sequenceKey ht.typeIs (by decide) ?_);refine Jk (Yc (name:=Str.ofString "__getitem__") ht.typeIs YC
  (Y7 YC ht.typeIs entry_tuple_getitem ?_ (args_tuple_getitem _ _)))
 show wpAny _ _ (Builtin.Tuple.tupleItemsOf (.ref t) >>= _) _ _ s;refine Jk (tupleItemsOf_ ht ?_);refine Jk (wpAny_typeOf hTs ?_);rw [Y1 (by decide)];refine Jk (cT hs pl pu ?_);have hyes:((((HT.JE items.size 0 lo:Nat):Int) == 0 && (1:Int) == 1 && (HT.JE items.size items.size hi - HT.JE items.size 0 lo) == items.size)=true):=by rw [hw.1,hw.2]; simp
 show wpAny _ _ (if (((HT.JE items.size 0 lo:Nat):Int) == 0 && (1:Int) == 1 && (HT.JE items.size items.size hi - HT.JE items.size 0 lo) == items.size)=true then _ else _) _ _ s;rw [Y1 hyes];have hT:=ht.typeIs;unfold Builtin.Tuple.tupleIsExact;refine Jk (Jk (wpAny_typeOf hT (Jq ?_)));rw [Y1 (by decide)];exact Jk (Yy (Jq ⟨_,rfl,Jq h⟩))
end HT2
def Hn (K:PySem.W.Frag):V->Option Int->Option Int->Hp->VK->Prop:=fun x lo hi H Q=>∃ a xs,x=.ref a/\JW K H a xs/\(HT.JE xs.length 0 lo=0/\HT.JE xs.length xs.length hi=xs.length)/\Q (.ref a) H
theorem AH:M5 X (Hn X.K):=by
 intro pins s σ H x v vl vu lo hi sl Q I rx hs pl pu h;obtain ⟨a,xs,rfl,hx,hw,q⟩:=h;cases rx;obtain ⟨its,r,ht,hz⟩:=I.tuple hx;have hlen:its.toArray.size=xs.length:=by rw [Z4]; exact r.length.symm
 refine ⟨"tuple",_,PyProof.Rows.slot_tuple_getitem.lookup,ht.typeIs,?_⟩;exact HT2.Kj ht hs pl pu (by rw [hlen]; exact hw) ⟨.ref a,H,I,rfl,q⟩
def EC (K:PySem.W.Frag):V->Option Int->Option Int->Hp->VK->Prop:=fun x lo hi H Q=>Ef K x lo hi H Q∨Hn K x lo hi H Q
theorem ED {K:PySem.W.Frag} (kt:KT K) (hK:X.K=K:=by rfl):M5 X (EC K):=by subst hK;exact (wo kt).or AH
end L2
namespace Mir
open PySem.Spec PyProof.Rows L2
def MF (d:D) (lo hi:Option Int):Option D:=match d with
 | .tup l=>if HT.JE l.length 0 lo=0/\HT.JE l.length l.length hi=l.length then some (.tup l) else some (.tup (ox l lo hi))
 | d=>Oy d lo hi
section
variable {K:PySem.W.Frag}
theorem AI {H:Hp} {ok:Addr->Prop} {x:V} {d u:D} {lo hi:Option Int} {Q:VK} (h:JD K H ok d x) (g:MF d lo hi=some u) (k:∀ v H',Jo H H'->Ji K H' (fun a=>ok a∨H a=none) u v->Q v H'):EC K x lo hi H Q:=by
 cases d with
 | tup l=>
  replace g:(if HT.JE l.length 0 lo=0/\HT.JE l.length l.length hi=l.length then some (D.tup l) else some (.tup (ox l lo hi)))=some u:=g;by_cases c:HT.JE l.length 0 lo=0/\HT.JE l.length l.length hi=l.length
  ·rw [Y1 c] at g;cases g;obtain ⟨a,xs,rfl,ht,rp⟩:=h.JJ;refine .inr ⟨a,xs,rfl,ht,by rw [rp.length]; exact c,k _ H (Jo.refl _) ?_⟩;rw [Ji];exact ⟨a,xs,rfl,ht,rp.mono fun _ _ o _=>.inl o⟩
  ·rw [Y0 c] at g;exact .inl (wr h (show Oy (.tup l) lo hi=some u by show (if _ then _ else _)=_; rw [Y0 c]; exact g) k)
 | _=>exact .inl (wr h g k)
def oM (f:ME) (lo hi:MO):ME:=fun ρ=>(f ρ).bind fun x=>(lo x.2).bind fun y=>(hi y.2).bind fun z=>(res z.2 x.1).bind fun d=>(MF d y.1 z.1).bind fun u=>some (.val u,z.2)
theorem EE {t:TE} {tl th:TO} {f:ME} {lo hi:MO} (h:LE C md t f) (hl:LO C md tl lo) (hh:LO C md th hi):LE C md (tSl (EC C.K) t tl th) (oM f lo hi):=by intro A W ρ σ H Q o ρ' r e k;unfold oM at e;simp only [Z0] at e;obtain ⟨⟨o1,ρ1⟩,e1,⟨b,ρ2⟩,e2,⟨c,ρ3⟩,e3,d,e4,u,e5,e6⟩:=e;cases e6;refine h A W ρ σ H _ o1 ρ1 r e1 fun v1 H1 x1 r1 p1=>?_;refine hl A W ρ1 σ H1 _ b ρ2 r1 e2 fun H2 x2 r2=>?_;refine hh A W ρ2 σ H2 _ c _ r2 e3 fun H3 x3 r3=>?_;refine AI (((p1.Jp r1 x2).Jp r2 x3).get r3 e4) e5 fun v H' s q=>?_;obtain ⟨z1,z2,z3⟩:=fin ((x1.trans x2).trans x3) r3 s q;exact k v H' z1 z2 z3
theorem Ev.MF {f:ME} {lo hi:MO} {ρ ρ1 ρ2 ρ3:En} {x:Op} {a b:Option Int} {d u:D} (h1:f ρ=some (x,ρ1)) (h2:lo ρ1=some (a,ρ2)) (h3:hi ρ2=some (b,ρ3)) (h4:res ρ3 x=some d) (h5:Mir.MF d a b=some u):oM f lo hi ρ=some (.val u,ρ3):=by unfold oM;simp only [h1,h2,h3,h4,h5,Z1]
end
end Mir
namespace L2
open PySem.Spec PyProof.Rows
theorem iJ (hit:s.heap.IsTupleIter it l i) (hl:s.heap.IsTuple l items) (hx:items[i]?=some x)
 (hQ:∀ h',h'.IsTupleIter it l (i+1)->Heap.SameBut it s.heap h'->Q x { s with heap:=h' }):wpAny (model prog w) A (Builtin.SmallTypes.nextOf (.ref it)) Q E s:=by
 obtain ⟨o,ho,hc,hd⟩:=id hit;obtain ⟨ol,hol,_,nl,hdl⟩:=hl;unfold Builtin.SmallTypes.nextOf;refine Jk (Yc (name:=Str.ofString "__next__") hit.typeIs F.slot_tuple_iterator_next
  (Y7 F.slot_tuple_iterator_next hit.typeIs F.entry_tuple_iterator_next ?_ (F.args_tuple_iterator_next_1 _)))
 show wpAny _ _ (field (.ref it) 0 >>= _) _ _ s;refine Jk (YB ho hd (x:=.ref l) rfl ?_);show wpAny _ _ (if (Value.ref l == Value.none)=true then _ else _) _ _ s;rw [Y0 (show ¬ ((Value.ref l == Value.none)=true) from MR)];show wpAny _ _ (field (.ref it) 1 >>= _) _ _ s;refine Jk (YB ho hd (x:=.int i 0) rfl ?_);show wpAny _ _ (seqItems? (.ref l) >>= _) _ _ s;refine Jk (wpAny_seqItems hol hdl ?_);simp only [Yr,hx];refine Jk (wpAny_setField ho hd (by simp) (Jq ⟨x,rfl,Jq (hQ _ ?_ (Ym ..))⟩));exact ⟨_,Heap.get?_update_self _ ho (Obj.isFreed_of_fields (YO hd _)),(Obj.cls_mapFields ..).trans hc,by
  rw [YO hd]; simp -iota [rawInt]⟩
theorem dQ (hh:A.handled=none) (hit:s.heap.IsTupleIter it l i) (hl:s.heap.IsTuple l items) (hx:items[i]?=none)
 (hE:∀ h' e,Heap.ExtBut it s.heap h'->(∃ o,h'.get? e=some o/\o.cls=.type "StopIteration")->E (.ref e) { s with heap:=h' }):wpAny (model prog w) A (Builtin.SmallTypes.nextOf (.ref it)) Q E s:=by
 obtain ⟨o,ho,hc,hd⟩:=id hit;obtain ⟨ol,hol,_,nl,hdl⟩:=hl;unfold Builtin.SmallTypes.nextOf;refine Jk (Yc (name:=Str.ofString "__next__") hit.typeIs F.slot_tuple_iterator_next
  (Y7 F.slot_tuple_iterator_next hit.typeIs F.entry_tuple_iterator_next ?_ (F.args_tuple_iterator_next_1 _)))
 show wpAny _ _ (field (.ref it) 0 >>= _) _ _ s;refine Jk (YB ho hd (x:=.ref l) rfl ?_);show wpAny _ _ (if (Value.ref l == Value.none)=true then _ else _) _ _ s;rw [Y0 (show ¬ ((Value.ref l == Value.none)=true) from MR)];show wpAny _ _ (field (.ref it) 1 >>= _) _ _ s;refine Jk (YB ho hd (x:=.int i 0) rfl ?_);show wpAny _ _ (seqItems? (.ref l) >>= _) _ _ s;refine Jk (wpAny_seqItems hol hdl ?_);simp only [Yr,hx];refine Jk (Yy (Jk (wpAny_setField ho hd (by simp) ?_)));show wpAny _ _ (newExc (.type "StopIteration") [] >>= _) _ _ _;refine Jk ?_;simp -iota only [newExc,newTuple];refine Jk (Y6 ?_ (by size_fits));refine Jk (m:=firstArgMember _ _) (Yx (a:=Value.none) (by first | rfl | (simp -iota only [firstArgMember]; rfl)) ?_);refine Y6 ?_ (by size_fits);simp -iota only [raiseNew];refine Jk (wpAny_handled ?_)
 first | rw [show A.in1.handled=none from hh] | rw [hh]
 refine Jk (Jq (wpAny_throw ?_));exact hE _ _ (((Ym ..).extBut.push _).push _) ⟨_,Kv _ rfl,rfl⟩
theorem ur (hh:A.handled=none) (it l:Addr) (hne:l ≠ it) (items:Array Value):Draws prog w A it [it,l] items.size (fun i v=>items[i]?=some v) (fun i h=>h.IsTupleIter it l i/\h.IsTuple l items) where
 live:=fun _ _ st=>let ⟨o,ho,_⟩:=st.1; ⟨o,ho⟩
 frame:=fun _ _ _ st hk=>⟨st.1.at fun o e=>hk it (by simp) o e,let ⟨o,ho,r⟩:=st.2; ⟨o,hk l (by simp) o ho,r⟩⟩
 item:=fun i s Q E hi st hQ=>by
  refine iJ st.1 st.2 (x:=items[i]) (by simp -iota [hi]) fun h' hit' hs'=>?_;exact hQ _ h' s.toks (by simp -iota [hi]) ⟨hit',st.2.extBut hs'.extBut hne⟩ hs'
 done:=fun s Q E st hE=>dQ hh st.1 st.2 (by simp) hE
theorem ut (hh:A.handled=none) (it l:Addr) (items:Array Value) (n:Nat) (hn:items.size<=n):Draws prog w A it [it,l] n (fun _ _=>True) (fun j h=>j=n/\h.IsTupleIter it l j/\h.IsTuple l items) where
 live:=fun _ _ st=>let ⟨o,ho,_⟩:=st.2.1; ⟨o,ho⟩
 frame:=fun _ _ _ st hk=>⟨st.1,st.2.1.at fun o e=>hk it (by simp) o e,let ⟨o,ho,r⟩:=st.2.2; ⟨o,hk l (by simp) o ho,r⟩⟩
 item:=fun i s Q E hi st hQ=>absurd st.1 (Kn hi)
 done:=fun s Q E st hE=>dQ hh st.2.1 st.2.2 (by simp; exact hn) hE
open AutoSeq1 (wpAny_loadPart') in
theorem jI (l:Addr) (items:Array Value) (n:Nat) (dct:Option Addr) (sl:Array (Option Value)) :
 Meets (Builtin.«enumerate.__new__» ⟨[.type "enumerate",.ref l],[]⟩) (fun _ R s=>s.heap.get? l=some { cls:=.type "tuple",dict:=dct,data:=.seq items n,slots:=sl } /\
  R (.ok (.ret (.ref (s.heap.push { cls:=.type "tuple_iterator",data:=.fields #[.ref l,.int 0 0] }).objs.size)))
   { s with heap:=(s.heap.push { cls:=.type "tuple_iterator",data:=.fields #[.ref l,.int 0 0] }).push { cls:=.type "enumerate",data:=.fields #[.none,.bool false,.ref s.heap.objs.size,rawInt 0,.none,.none] } }):=
 .of_wp fun prog w A R s h=>by
  obtain ⟨hp,g,d,tk,os⟩:=s; obtain ⟨hl,h⟩:=h;have hsub:=sub_enumerate;have hL:Heap.IsTuple (Shared.heap ⟨hp,g,d,tk,os⟩) l items:=⟨_,hl,rfl,n,rfl⟩
  wp_walk using Y8 hl
  refine wpAny_stack_any fun st=>Jq ?_;split
  ·rename_i c _ _ _ _ _;cases (c == Value.type "enumerate")
   ·wp_walk using Y8 hl,wpAny_pyIter_tuple hL
    exact ⟨_,rfl,h⟩
   ·wp_walk using Y8 hl,wpAny_pyIter_tuple hL
    exact ⟨_,rfl,h⟩
  ·wp_walk using Y8 hl,wpAny_pyIter_tuple hL
   exact ⟨_,rfl,h⟩
theorem mJ (hL:s.heap.IsTuple l items)
 (h:∀ h',IsEnum h' (s.heap.objs.size+1) s.heap.objs.size 0 .none->h'.IsTupleIter s.heap.objs.size l 0->h'.objs.size=s.heap.objs.size+2 ->
  (∀ b o,s.heap.get? b=some o->h'.get? b=some o)->Q (.ref (s.heap.objs.size+1)) { s with heap:=h' }) :
 wpAny (model prog w) A (call (.type "enumerate") [.ref l]) Q E s:=by
 obtain ⟨⟨c,dct,dt,sl⟩,hl,hc,n,hd⟩:=hL;replace hc:c=.type "tuple":=hc;replace hd:dt=.seq items n:=hd;subst hc hd;refine callType_new F.called_enumerate (by decide) (F.typeCall_enumerate_1 _) (F.newCall_enumerate_1 _) (fun obj=>F.args_object_init_2 obj _) F.entry_enumerate_new
  (jI l items n dct sl) ⟨hl,?_⟩
 have hz:(s.heap.push { cls:=.type "tuple_iterator",data:=.fields #[.ref l,.int 0 0] }).objs.size=s.heap.objs.size+1:=Heap.size_push ..;show _/\_;rw [hz];have he:IsEnum ((s.heap.push { cls:=.type "tuple_iterator",data:=.fields #[.ref l,.int 0 0] }).push
  { cls:=.type "enumerate",data:=.fields #[.none,.bool false,.ref s.heap.objs.size,rawInt 0,.none,.none] }) (s.heap.objs.size+1) s.heap.objs.size 0 .none:=by
  have:=Kv (s.heap.push { cls:=.type "tuple_iterator",data:=.fields #[.ref l,.int 0 0] })
   (o:={ cls:=.type "enumerate",data:=.fields #[.none,.bool false,.ref s.heap.objs.size,rawInt 0,.none,.none] }) rfl
  rw [hz] at this; exact this
 refine ⟨⟨_,he,rfl⟩,h _ he ⟨_,Z7 _ (Kv _ rfl),rfl,rfl⟩ (by rw [Heap.size_push,hz]) fun b o x=>Z7 _ (Z7 _ x)⟩
def EF (K:PySem.W.Frag) (a:Addr):It:=
 ⟨fun i H=>∃ xs x,JW K H a xs/\xs[i]?=some x,fun i H x H'=>∃ T y,H T=none/\H'=upd H T (.tup [.int (i:Nat),y])/\x=.ref T/\∀ xs,JW K H a xs->xs[i]?=some y,fun i H=>∃ xs,JW K H a xs/\xs.length<=i⟩
structure OL (e it a:Addr) (i:Nat) (h:Heap):Prop where
 he:∃ old,IsEnum h e it i old
 hi:h.IsTupleIter it a i
theorem uu {P:Program} {w:World} {K:PySem.W.Frag} {es:List Expr} {k:Nat} {pos:Pos} (a e it:Addr) (hne:e ≠ it) :
 Turn P w K (.Tuple es k pos) (EF K a) [e,it] e (OL e it a) where
 mem:=by simp
 obj:=fun i h st b hb=>by
  simp -iota only [JS,Yb,or_false] at hb;rcases hb with rfl | rfl
  ·obtain ⟨old,q⟩:=st.he;exact ⟨_,q,fun v z=>by cases z⟩
  ·obtain ⟨o,q,c,d⟩:=st.hi;exact ⟨o,q,fun v z=>by rw [d] at z; cases z⟩
 keep:=fun i h h' st kk=>by
  obtain ⟨old,q⟩:=st.he;obtain ⟨o,q',r⟩:=st.hi;exact ⟨⟨old,kk e (by simp) _ q⟩,⟨o,kk it (by simp) o q',r⟩⟩
 item:=by
  intro X hP hw hK hc i pins s σ H E I hf st hg;subst hP hw hK;obtain ⟨old,he⟩:=st.he;obtain ⟨xs,x,hq,hx⟩:=hg;obtain ⟨its,rv,p,hz⟩:=I.tuple hq;obtain ⟨u,hu,ru⟩:=rv.get hx;have pT:s.heap.IsTuple a its.toArray:=p;have hi:i < its.toArray.size:=by rw [Z4];exact (Z9.mp hu).1
  have nit:a ≠ it:=fun z=>by
   obtain ⟨o,q,c,_⟩:=st.hi;obtain ⟨o',q',c',_⟩:=pT;rw [z,q] at q';cases q';rw [c] at c';injection c' with c'';exact absurd c'' (by decide)
  have nae:e ≠ a:=fun z=>by
   obtain ⟨o',q',c',_⟩:=pT;rw [<- z,he] at q';cases q';injection c' with c'';exact absurd c'' (by decide)
  refine wpAny_pyNext_enum_itemD (ur (by simpa using I.ok.hd hc) it a nit its.toArray) he ⟨st.hi,pT⟩ hi hne (by simp -iota [hne,nae]) fun v h' tk hv ho hst ht hz' hk=>?_;have hv':v=u:=by rw [List.getElem?_toArray,hu] at hv;cases hv;rfl
  subst hv';refine ⟨_,rfl,wpAny_letOwnedTupleGo_enum (s:={ s with heap:=h',toks:=tk+1 }) ho fun h2 he2 sb=>?_⟩;have lt1:e < s.heap.objs.size:=JO he;have lt2:it < s.heap.objs.size:=by obtain ⟨_,q,_⟩:=st.hi; exact JO q
  have kk:∀ b o,b ∉ [e,it]->s.heap.get? b=some o->h2.get? b=some o:=fun b o hb q=>by
   simp -iota only [JS,Yb,or_false,not_or] at hb;exact (sb.2 b hb.1).trans (hk b o hb.1 hb.2 q)
  have sz:h2.get? s.heap.objs.size=some { cls:=.type "tuple",data:=.seq #[.int i tk,v] }:=(sb.2 _ (Nat.ne_of_gt lt1)).trans ht;have I2:=I.Ny (t':=tk+1) (x:=.int (i:Nat)) (y:=x) kk hf sz ⟨tk,rfl⟩ ru;refine ⟨.ref s.heap.objs.size,_,I2,rfl,⟨_,x,I.hok.fresh (JI _),rfl,rfl,fun ys hy=>by rw [I.KO hy hq]; exact hx⟩,⟨⟨_,by simpa using he2⟩,?_⟩,fun b hb=>?_⟩
  ·obtain ⟨o,q,r⟩:=hst.1;exact ⟨o,(sb.2 it hne.symm).trans q,r⟩
  ·simp -iota only [JS,Yb,or_false] at hb;rcases hb with rfl | rfl
   ·rw [ar (Kn lt1)]; exact (hf _ (by simp)).1
   ·rw [ar (Kn lt2)]; exact (hf _ (by simp)).1
 done:=by
  intro X hP hw hK hc i pins s σ H E I hf st hg;subst hP hw hK;obtain ⟨old,he⟩:=st.he;obtain ⟨xs,hq,hx⟩:=hg;obtain ⟨its,rv,p,hz⟩:=I.tuple hq;have pT:s.heap.IsTuple a its.toArray:=p;have hl:=rv.length;refine wpAny_pyNext_enum_endD (ut (by simpa using I.ok.hd hc) it a its.toArray i (by rw [Z4]; lia)) he ⟨rfl,st.hi,pT⟩ fun h' eb=>⟨rfl,?_⟩;exact I.KY (t':=s.toks) (ch:=[e,it]) (fun b o hb q=>by
   simp -iota only [JS,Yb,or_false,not_or] at hb;exact eb b o hb.2 q) hf
 self:=fun _ _ _ _ _ st h=>by
  obtain ⟨old,he⟩:=st.he;exact wpAny_pyIter_enum he h
def w9 (K:PySem.W.Frag) (ta:TA):TI:=fun σ H R=>ta σ H fun vs H1=>∃ a,vs=[.ref a]/\(∃ xs,JW K H1 a xs)/\R (EF K a) H1
theorem AJ {a:Expr} {ta:TA} {p pos:Pos} {es:List Expr} {k:Nat} {tq0:Pos} (hg:Gl X "enumerate") (hm:X.mg "enumerate"=none) (ha:PA X [a] ta) (hs:starEach [a] X.env=[(false,eval a X.env)]:=by rfl) :
 PI X (.Tuple es k tq0) (.Call (.Name "enumerate" p) [a] [] pos) (w9 X.K ta):=by
 intro pins s σ H R I h;refine Call_ (cM I hg hm PyProof.Rows.boot_enumerate (Yd (Jw (ha pos pins s σ H _ I h) fun us s1 ⟨vs,H1,I1,r1,q1⟩=>?_) hs rfl));obtain ⟨b,rfl,⟨xs,hq⟩,q⟩:=q1;obtain ⟨u,rfl,rx⟩:=cG r1;cases rx;obtain ⟨its,rv,pl,hz⟩:=I1.tuple hq;refine mJ (show s1.heap.IsTuple b its.toArray from pl) fun h' c1 c2 c3 c4=>?_;have I2:Inv X pins σ H1 { s1 with heap:=h' }:=I1.kept (t':=s1.toks) c4;refine wpAny_pyIter_enum (s:={ s1 with heap:=h' }) c1 ?_;refine ⟨s1.heap.objs.size+1,_,_,_,H1,rfl,I2,uu b _ _ (Nat.succ_ne_self _),⟨⟨_,c1⟩,c2⟩,fun b hb=>?_,q⟩;have hb':s1.heap.objs.size<=b:=by simp -iota only [JS,Yb,or_false] at hb;rcases hb with e | e <;> rw [e] <;> first | exact JI _ | exact MV _ _
 exact I1.Ll hb' (I1.hok.fresh hb')
theorem AK {K:PySem.W.Frag} {a:Expr} {ta:TA} {p pos:Pos} {es:List Expr} {k:Nat} {tq0:Pos} (kt:KT K) (hg:Gl X "enumerate") (hm:X.mg "enumerate"=none) (ha:PA X [a] ta) (hs:starEach [a] X.env=[(false,eval a X.env)]:=by rfl) (hK:X.K=K:=by rfl) :
 PI X (.Tuple es k tq0) (.Call (.Name "enumerate" p) [a] [] pos) (w9 K ta):=by
 subst hK;exact AJ hg hm ha hs
end L2
namespace Mir
open PySem.Spec PyProof.Rows L2
def mK (l:List D):List D:=l.mapIdx fun i d=>D.tup [.int (i:Nat),d]
def k9 (md:List Md) (f:MA):MI:=fun ρ=>(f ρ).bind fun x=>(JB md x.2 x.1).bind fun ds=>match ds with
 | [.tup l]=>some (mK l,x.2)
 | _=>none
theorem AL (r:R C md A W ρ σ H) (hw:∀ a,W2 a->W a) {a:Addr} {xs:List V} {l:List D} (h:JW C.K H a xs) (p:Jj C.K H (fun b=>¬ A b) l xs):js C A W2 (EF C.K a) (mK l) H:=by
 intro A' W' H' g i;have st:aU C.K H H':=g.ext.JF fun a w=>r.wk a (hw a w);have h':JW C.K H' a xs:=st _ _ h;have p':Jj C.K H' (fun b=>¬ A' b) l xs:=p.Jp st fun b ys o z=>⟨g.ext b _ (fun w=>o (r.wa b (hw b w))) z,fun w=>by
  rcases g.an b w with y | y
  ·exact o y
  ·rw [y] at z; cases z⟩
 refine ⟨fun d e=>?_,fun hl=>?_⟩
 ·unfold mK at e;rw [YK,Y3] at e;obtain ⟨d1,e1,rfl⟩:=e;obtain ⟨x,ex,px⟩:=p'.get e1;refine ⟨⟨xs,x,h',ex⟩,fun z H'' yl=>?_⟩;obtain ⟨T,y,hT,rfl,rfl,yx⟩:=yl;have zx:=yx xs h';rw [ex] at zx;cases zx;refine ⟨aw hT,?_⟩;rw [Ji];have s:=aw (o:=HO.tup [.int (i:Nat),x]) hT;exact ⟨T,_,rfl,aj,.cons ax (.cons ((px.same s).mono fun _ _ o _=>.inl o) .nil)⟩
 ·refine ⟨xs,h',?_⟩;rw [p'.length];unfold mK at hl;rw [List.length_mapIdx] at hl;exact hl
theorem AM (h:LA C md t f):LI C md none (w9 C.K t) (k9 md f):=by
 intro A W ρ σ H Q ds ρ' r e k;unfold k9 at e;simp -iota only [Z0] at e;obtain ⟨⟨os,ρ1⟩,e1,xs,e2,e3⟩:=e;cases xs with
 | cons y3 y4=>
  cases y3 with
  | tup l=>
   cases y4 with
   | nil=>cases e3;refine h A W ρ σ H _ os _ r e1 fun vs H1 x1 r1 p1=>?_;obtain ⟨v,r2,rfl,pv,pr⟩:=(p1.JB r1 e2).cons_inv;obtain rfl:=pr.nil_inv;rw [Ji] at pv;obtain ⟨a,ys,rfl,h1,h2⟩:=pv;exact ⟨a,rfl,⟨ys,h1⟩,k _ H1 x1 r1 fun W2 hw _=>AL r1 hw h1 h2⟩
   | _=>cases e3
  | _=>cases e3
 | _=>cases e3
end Mir
namespace L2
open PySem.Spec PyProof.Rows
def oN (r r' r'':R2) (ta tb tc td:TE):TE:=fun σ H Q=>l9 r r' r'' ta tb tc td σ H fun b H1=>Q (.bl b) H1
theorem uv (ho:JK X (compareOp op) r) (ho':JK X (compareOp op') r') (ho'':JK X (compareOp op'') r'') (ha:PE X a ta) (hb:PE X b tb) (hc:PE X c tc) (hd:PE X d td)
 (hm:lastMarks [op,op',op''] [b,c,d]=false:=by with_unfolding_all rfl):PE X (.Compare a [op,op',op''] [b,c,d] pos) (oN r r' r'' ta tb tc td):=by
 intro pins s σ H Q I h;refine Compare_chain (Jw (ha pins s σ H _ I h) fun v s1 ⟨x,H1,I1,r1,q1⟩=>chain_link (Jw (hb pins s1 σ H1 _ I1 q1) fun u s2 ⟨y,H2,I2,r2,q2⟩=>Jw (ho pins s2 σ H2 x y v u _ I2 r1 r2 q2) fun d1 s3 ⟨z,H3,I3,r3,k,e,q3⟩=>?_)) hm
 subst e;cases r3;refine Ya ?_;cases k with
 | false=>exact ite_ff ⟨.bl false,H3,I3,rfl,q3⟩
 | true=>
  refine ite_tt (chain_link (Jw (hc pins s3 σ H3 _ I3 q3) fun w' s4 ⟨z',H4,I4,r4,q4⟩=>Jw (ho' pins s4 σ H4 y z' u w' _ I4 r2 r4 q4) fun d' s5 ⟨z2,H5,I5,r5,k2,e2,q5⟩=>?_));subst e2;cases r5;refine Ya ?_;cases k2 with
  | false=>exact ite_ff ⟨.bl false,H5,I5,rfl,q5⟩
  | true=>refine ite_tt (chain_last (Jw (hd pins s5 σ H5 _ I5 q5) fun w2 s6 ⟨z3,H6,I6,r6,q6⟩=>Jw (ho'' pins s6 σ H6 z' z3 w' w2 _ I6 r4 r6 q6) fun d2 s7 ⟨z4,H7,I7,r7,k3,e3,q7⟩=>?_));subst e3;exact ⟨.bl k3,H7,I7,r7,q7⟩
end L2
namespace Mir
open PySem.Spec PyProof.Rows L2
def cZ (g g' g'':D->D->Option D) (fa fb fc fd:ME):ME:=fun ρ=>(dh g g' g'' fa fb fc fd ρ).bind fun x=>some (.val (.bl x.1),x.2)
theorem uw (h:KR C.K r g) (h':KR C.K r' g') (h'':KR C.K r'' g'') (ha:LE C md ta fa) (hb:LE C md tb fb) (hc:LE C md tc fc) (hd:LE C md td fd) :
 LE C md (oN r r' r'' ta tb tc td) (cZ g g' g'' fa fb fc fd):=by
 intro A W ρ σ H Q o ρ' r0 e k;unfold cZ at e;simp only [Z0] at e;obtain ⟨⟨b,ρ1⟩,e1,e2⟩:=e;cases e2;exact kQ h h' h'' ha hb hc hd A W ρ σ H _ b ρ1 r0 e1 fun H1 x1 r1=>k (.bl b) H1 x1 r1 (show Ji _ _ _ _ _ from aW)
theorem Ev.Nk (h:dh g g' g'' fa fb fc fd ρ=some (b,ρ1)):cZ g g' g'' fa fb fc fd ρ=some (.val (.bl b),ρ1):=by unfold cZ;rw [h];rfl
mutual
def fit:D->Bool
 | .int i=>decide (i.natAbs.log2 < 1920)
 | .str x=>x.cps.toList.all fun c=>decide (c < 16 ^ 8)
 | .tup l=>fits l
 | .lst l=>fits l
 | _=>true
def fits:List D->Bool
 | []=>true
 | d::ds=>fit d && fits ds
end
end Mir
namespace L2
open PySem.Spec PyProof.Rows
def Cu:V->List V->Hp->VK->Prop:=fun x vs H Q=>∃ z y,x=.str z/\vs=[.str y]/\Q (.int (Txt.find z y)) H
theorem AN:NY X "str.find" Cu:=by intro pins s σ H x xs v us Q I rx rxs h;obtain ⟨z,y,rfl,rfl,q⟩:=h;obtain ⟨t,rfl⟩:=rx;obtain ⟨u,rfl,⟨t2,rfl⟩⟩:=cG rxs;exact SC.find ⟨.int (Txt.find z y),H,I.tok _,⟨_,rfl⟩,q⟩
def qr (z y:Str):Option Nat:=(Builtin.Str.occurrences z y 0 z.length 1).head?
def xa:V->List V->Hp->VK->Prop:=fun x vs H Q=>∃ z y i,x=.str z/\vs=[.str y]/\qr z y=some i/\Q (.int i) H
theorem xb:NY X "str.index" xa:=by
 intro pins s σ H x xs v us Q I rx rxs h;obtain ⟨z,y,i,rfl,rfl,e,q⟩:=h;obtain ⟨t,rfl⟩:=rx;obtain ⟨u,rfl,⟨t2,rfl⟩⟩:=cG rxs;unfold qr at e;cases ho:Builtin.Str.occurrences z y 0 z.length 1 with
 | nil=>rw [ho] at e; cases e
 | cons j r=>rw [ho] at e;cases e;exact SC.index ho ⟨.int i,H,I.tok _,⟨_,rfl⟩,q⟩
end L2
namespace Mir
open PySem.Spec PyProof.Rows L2
def xc:D->D->Option D
 | .str z,.str y=>some (.int (Txt.find z y))
 | _,_=>none
def mL:D->D->Option D
 | .str z,.str y=>(qr z y).map fun i=>.int i
 | _,_=>none
def lb (f2:D->D->Option D) (fa fb:ME):ME:=fun ρ=>(fa ρ).bind fun x=>(res x.2 x.1).bind fun d=>(fb x.2).bind fun y=>(res y.2 y.1).bind fun c=>(f2 d c).bind fun n=>some (.val n,y.2)
def oO:ME->ME->ME:=lb xc
def jJ:ME->ME->ME:=lb mL
theorem AO (ha:LE C md ta fa) (hb:LE C md tb fb):LE C md (Mv C.K "str" Cu ta (bS tb dB)) (oO fa fb):=by
 intro A W ρ σ H Q o ρ' r e k;unfold oO lb at e;simp only [Z0] at e;obtain ⟨⟨o1,ρ1⟩,e1,d,e2,⟨o2,ρ2⟩,e3,c,e4,n,e5,e6⟩:=e;cases e6;cases d with
 | str z=>
  cases c with
  | str y=>cases e5;refine ha A W ρ σ H _ o1 ρ1 r e1 fun v1 H1 x1 r1 p1=>?_;obtain rfl:=(p1.get r1 e2).str_inv;refine ⟨rfl,?_⟩;refine hb A W ρ1 σ H1 _ o2 ρ2 r1 e3 fun v2 H2 x2 r2 p2=>?_;obtain rfl:=(p2.get r2 e4).str_inv;exact ⟨z,y,rfl,rfl,k _ H2 (x1.trans x2) r2 (show Ji _ _ _ _ _ from ax)⟩
  | _=>cases e5
 | _=>cases e5
theorem xf (ha:LE C md ta fa) (hb:LE C md tb fb):LE C md (Mv C.K "str" xa ta (bS tb dB)) (jJ fa fb):=by
 intro A W ρ σ H Q o ρ' r e k;unfold jJ lb at e;simp only [Z0] at e;obtain ⟨⟨o1,ρ1⟩,e1,d,e2,⟨o2,ρ2⟩,e3,c,e4,n,e5,e6⟩:=e;cases e6;cases d with
 | str z=>
  cases c with
  | str y=>
   replace e5:(qr z y).map (fun i=>D.int i)=some n:=e5;cases eo:qr z y with
   | none=>rw [eo] at e5; cases e5
   | some i=>rw [eo] at e5;cases e5;refine ha A W ρ σ H _ o1 ρ1 r e1 fun v1 H1 x1 r1 p1=>?_;obtain rfl:=(p1.get r1 e2).str_inv;refine ⟨rfl,?_⟩;refine hb A W ρ1 σ H1 _ o2 ρ2 r1 e3 fun v2 H2 x2 r2 p2=>?_;obtain rfl:=(p2.get r2 e4).str_inv;exact ⟨z,y,i,rfl,rfl,eo,k _ H2 (x1.trans x2) r2 (show Ji _ _ _ _ _ from ax)⟩
  | _=>cases e5
 | _=>cases e5
theorem Ev.OU (h1:fa ρ=some (o1,ρ1)) (h2:res ρ1 o1=some d) (h3:fb ρ1=some (o2,ρ2)) (h4:res ρ2 o2=some c) (h5:f2 d c=some n):lb f2 fa fb ρ=some (.val n,ρ2):=by unfold lb;simp only [h1,h2,h3,h4,h5,Z1]
theorem Ev.find (h1:fa ρ=some (o1,ρ1)) (h2:res ρ1 o1=some d) (h3:fb ρ1=some (o2,ρ2)) (h4:res ρ2 o2=some c) (h5:xc d c=some n):oO fa fb ρ=some (.val n,ρ2):=Ev.OU h1 h2 h3 h4 h5
theorem Ev.index (h1:fa ρ=some (o1,ρ1)) (h2:res ρ1 o1=some d) (h3:fb ρ1=some (o2,ρ2)) (h4:res ρ2 o2=some c) (h5:mL d c=some n):jJ fa fb ρ=some (.val n,ρ2):=Ev.OU h1 h2 h3 h4 h5
def Ow:Option S->Option (List (NK × D))
 | some (.dm kvs)=>some kvs
 | _=>none
theorem gl (h:Ow o=some kvs):o=some (.dm kvs):=by
 cases o with
 | some y2=>
  cases y2 with
  | dm l=>cases h; rfl
  | _=>cases h
 | _=>cases h
def L5:Option S->Option (List (NK × D))
 | some (.dn kvs)=>some kvs
 | _=>none
theorem bN (h:L5 o=some kvs):o=some (.dn kvs):=by
 cases o with
 | some y2=>
  cases y2 with
  | dn l=>cases h; rfl
  | _=>cases h
 | _=>cases h
def cP:List D->Option (List Int)
 | []=>some []
 | .int i::r=>(cP r).map (i::·)
 | _=>none
def L9:D->Option NK
 | .non=>some none
 | .tup l=>(cP l).map some
 | _=>none
def OB:NK->D
 | none=>.non
 | some ks=>.tup (ks.map D.int)
section
variable {K:PySem.W.Frag}
theorem fG:∀ {l:List D} {k:List Int} {xs:List V},cP l=some k->Jj K H ok l xs->xs=k.map V.int
 | [],k,xs,e,r=>by cases e; rw [r.nil_inv]; rfl
 | .int i::l,k,xs,e,r=>by
  replace e:(cP l).map (i::·)=some k:=e;rw [Y3] at e;obtain ⟨k',e1,rfl⟩:=e;obtain ⟨x,t,rfl,h1,h2⟩:=r.cons_inv;rw [Ji] at h1;rw [h1,fG e1 h2];rfl
 | .non::_,_,_,e,_=>by cases e
 | .bl _::_,_,_,e,_=>by cases e
 | .str _::_,_,_,e,_=>by cases e
 | .tup _::_,_,_,e,_=>by cases e
 | .lst _::_,_,_,e,_=>by cases e
theorem oP (h:JD K H ok d v) (e:L9 d=some k):∃ c:KA,v=Oa c/\J2 c=k/\∀ p,c=some p->H p.1=some (.tup (p.2.map V.int)):=by
 cases d with
 | non=>cases e; exact ⟨none,h.K1,rfl,fun p z=>by cases z⟩
 | tup l=>replace e:(cP l).map some=some k:=e;rw [Y3] at e;obtain ⟨ks,e1,rfl⟩:=e;obtain ⟨a,xs,rfl,h1,h2⟩:=h.JJ;rw [fG e1 h2] at h1;exact ⟨some (a,ks),rfl,rfl,fun p z=>by cases z; exact h1⟩
 | _=>cases e
theorem qt (h:∀ p,c=some p->H p.1=some (.tup (p.2.map V.int))):Ox H (Oa c) (J2 c):=by
 cases c with
 | none=>rfl
 | some p=>exact ⟨p.2,rfl,h p rfl⟩
theorem iw:∀ (ks:List Int),Jj K H ok (ks.map D.int) (ks.map V.int)
 | []=>.nil
 | i::r=>.cons ax (iw r)
theorem EG (h:∀ p,c=some p->H p.1=some (.tup (p.2.map V.int))):Ji K H ok (OB (J2 c)) (Oa c):=by
 cases c with
 | none=>exact dL
 | some p=>show Ji K H ok (.tup (p.2.map D.int)) (.ref p.1);rw [Ji];exact ⟨p.1,_,rfl,h p rfl,iw _⟩
theorem JR.len (h:JR K H ok kvs ws):ws.length=kvs.length:=by have:=Y9 List.length h.ks;simpa using this
theorem JR.val:∀ {kvs:List (NK × D)} {ws:List (KA × V)} (k:NK),JR K H ok kvs ws->(∀ d,aE kvs k=some d->∃ v,valN ws k=some v/\Ji K H ok d v)/\(aE kvs k=none->valN ws k=none)
 | [],ws,k,h=>by
  have:ws=[]:=List.length_eq_zero_iff.mp h.len;subst this;exact ⟨fun d e=>(by cases e),fun _=>rfl⟩
 | (k',d)::r,ws,k,h=>by
  cases ws with
  | nil=>cases h.len
  | cons w t=>
   have hk:=h.ks;rw [Z6,Z6] at hk;obtain ⟨hk1,hk2⟩:=List.cons.inj hk;have hv:=h.vs;rw [Z6,Z6] at hv;obtain ⟨x,r',e,h1,h2⟩:=hv.cons_inv;cases e;have ih:=JR.val k (⟨hk2,fun kv m=>h.ki kv (Z8 _ m),h2⟩:JR K H ok r t);unfold aE valN;rw [Mt];by_cases e:k'=k
   ·rw [Y1 e,decide_eq_true (show J2 w.1=k from hk1.trans e)];exact ⟨fun d' e'=>by cases e'; exact ⟨_,rfl,h1⟩,fun e'=>by cases e'⟩
   ·rw [Y0 e,Y2 (show ¬ J2 w.1=k from fun z=>e (hk1.symm.trans z))];exact ih
theorem JR.snoc (h:JR K H ok kvs ws) (hc:∀ p,c=some p->H p.1=some (.tup (p.2.map V.int))) (hv:Ji K H ok d v):JR K H ok (kvs++[(J2 c,d)]) (ws++[(c,v)]) where
 ks:=by simp [h.ks]
 ki:=fun kv m p e=>by
  rcases Kk.mp m with m | m
  ·exact h.ki kv m p e
  ·cases Lg.mp m;exact hc p e
 vs:=by rw [LW,LW];exact h.vs.append (.cons hv .nil)
end
theorem R.OQ (r:R C md A W ρ σ H) (e:look ρ i=some (.dm kvs)) (ew:σ[i]?=some (some w)) :
 ∃ a o ws,w=.ref a/\H a=some (.ext (J4 a o ws))/\JR C.K H (fun b=>¬ A b) kvs ws:=by
 obtain ⟨v,ev,c⟩:=r.slot i _ e;rw [ew] at ev; cases ev;cases em:ai md i with
 | pl=>rw [em] at c; exact c.elim
 | _=>rw [em] at c; obtain ⟨a,ws,z,⟨o,c1⟩,c2,c3,c4⟩:=c; exact ⟨a,o,ws,z,c1,c4⟩
theorem R.LP (r:R C md A W ρ σ H) (e:look ρ i=some (.dn kvs)) (ew:σ[i]?=some (some w)) :
 ∃ a o ws,w=.ref a/\H a=some (.ext (J4 a o ws))/\¬ A a/\JR C.K H (fun b=>¬ A b) kvs ws:=by
 obtain ⟨v,ev,c⟩:=r.slot i _ e;rw [ew] at ev; cases ev;cases em:ai md i with
 | pl=>rw [em] at c; obtain ⟨a,ws,z,⟨o,c1⟩,c2,c3⟩:=c; exact ⟨a,o,ws,z,c1,c2,c3⟩
 | _=>rw [em] at c; exact c.elim
def mM:MN:=fun ρ=>some (.dm [],ρ)
theorem AQ:LN C md pX mM:=by intro A W ρ σ H Q s ρ' r e k;cases e;refine .inr (.inr ?_);intro p o hp;exact k p H _ (Ext.refl _ _) r hp (aw hp) ⟨[],⟨o,aj⟩,rfl,fun kv m=>(by cases m),.nil⟩
def jK (i:Nat) (f:ME):ME:=fun ρ=>(L5 (look ρ i)).bind fun _=>(f ρ).bind fun x=>(res x.2 x.1).bind fun d=>(L9 d).bind fun n=>(L5 (look x.2 i)).bind fun kvs=>(aE kvs n).bind fun u=>some (.val u,x.2)
theorem AR (h:LE C md t f):LE C md (LF (jl C.K) (aS i) t) (jK i f):=by intro A W ρ σ H Q o ρ' r e k;unfold jK at e;simp only [Z0] at e;obtain ⟨kvs0,e0,⟨o1,ρ1⟩,e1,d,e2,n,e3,kvs,e5,u,e6,e7⟩:=e;cases e7;obtain ⟨v,ev,_⟩:=r.slot i _ (bN e0);refine ⟨v,ev,h A W ρ σ H _ o1 _ r e1 fun v1 H1 x1 r1 p1=>.inr (.inr (.inr ?_))⟩;obtain ⟨a,ob,ws,rfl,c1,_,c2⟩:=r1.LP (bN e5) ev;obtain ⟨c,rfl,rfl,hc⟩:=oP (p1.get r1 e2) e3;obtain ⟨v',w1,w2⟩:=(c2.val (J2 c)).1 u e6;exact ⟨a,ob,ws,J2 c,v',rfl,⟨c1,c2.ki⟩,qt hc,w1,k v' H1 x1 r1 w2⟩
def gV (x:Nat) (f:ME):MG:=fun d ρ=>(Ow (look ρ x)).bind fun _=>(f ρ).bind fun y=>(res y.2 y.1).bind fun kd=>(L9 kd).bind fun n=>(Ow (look y.2 x)).bind fun kvs=>if kvs.length < sizeLine/\(aE kvs n).isSome=false then some (y.2.set x (some (.dm (kvs++[(n,d)])))) else none
theorem AS (hm:ai md x=.ow∨ai md x=.io) (h:LE C md t f):LG C md fx (lW (aS x) t jm) (gV x f):=by
 intro A W ρ σ H v d ρ' Q r p e k;unfold gV at e;simp only [Z0] at e;obtain ⟨kvs0,e0,⟨o,ρ1⟩,e1,kd,e2,n,e3,kvs,e5,e6⟩:=e;split at e6
 ·rename_i hz;cases e6;obtain ⟨w,hw,_⟩:=r.slot x _ (gl e0);refine ⟨w,hw,?_⟩;refine h A W ρ σ H _ o ρ1 r e1 fun v1 H1 x1 r1 p1=>.inr (.inr (.inr ?_));obtain ⟨c,rfl,rfl,hc⟩:=oP (p1.get r1 e2) e3;obtain ⟨a,ob,ws,rfl,c1,c2⟩:=r1.OQ (gl e5) hw;have nn:aE kvs (J2 c)=none:=by
   cases z:aE kvs (J2 c) with
   | none=>rfl
   | some u=>rw [z] at hz; cases hz.2
  refine ⟨a,ob,ws,c,rfl,rfl,c1,c2.ki,hc,(c2.val _).2 nn,by rw [c2.len]; exact hz.1,fun o'=>?_⟩;have pv:Ji C.K H1 (fun b=>¬ A b) d v:=r.KU x1 p;obtain ⟨H3,e7,b3,h3⟩:=My.ie H1 a (.ext (J4 a o' (ws++[(c,v)])));rw [e7];obtain ⟨x2,r3⟩:=r1.write hm (gl e5) rfl rfl hw b3 (.inr (.inr (.inr ⟨_,h3⟩))) (s':=.dm (kvs++[(J2 c,d)])) fun ok okq oa aa wa st cc=>by
   obtain ⟨a',ws',q1,⟨o2,q2⟩,q3,q4,q5⟩:=cc;cases q1;exact ⟨a,_,rfl,⟨o',h3⟩,aa,oa,r1.Lx (fun c o nc h=>b3 c o (fun z=>nc (by rw [z]; exact wa)) h) (c2.snoc hc pv)⟩
  exact k σ H3 (x1.trans x2) r3 (Fix.refl _ _)
 ·cases e6
def ld (i:Nat):MS:=fun ρ=>(Ow (look ρ i)).bind fun kvs=>if D.JA (kvs.map (·.2))=true then some (.ret (.dn kvs),ρ) else none
theorem AT (hm:ai md i=.ow):LS C md (nI (aS i)) (ld i):=by
 intro A W ρ σ H D fl ρ' r e k;unfold ld at e;simp -iota only [Z0] at e;obtain ⟨kvs,e1,e2⟩:=e;split at e2
 ·rename_i hi;cases e2;obtain ⟨v,ev,c⟩:=r.slot i _ (gl e1);refine ⟨v,ev,k A W σ v H (Gr.refl _ _ _) r (Fix.refl _ _) (.inl ?_)⟩;rw [hm] at c;obtain ⟨a,ws,z,c1,c2,c3,c4⟩:=c;exact ⟨a,ws,z,c3.2,c1,c4.ks,c4.ki,Jj.JH hi c4.vs.Ks⟩
 ·cases e2
theorem R.OX (r:R C md A W ρ σ H) {i:Nat} (hm:ai md i=.pl) {kvs:List (NK × D)} {v:V} (h:vU C.K H (fun b=>¬ A b) (.dn kvs) v):R C md A W (ρ.set i (some (.dn kvs))) (σ.set i (some v)) H where
 len:=by rw [K9,K9]; exact r.len
 wa:=r.wa
 ak:=r.ak
 base:=r.base
 wf:=r.wf
 ma:=r.ma
 fo:=r.fo
 slot:=fun j s e=>by
  by_cases hij:i=j
  ·subst hij;have hl:=aV e;rw [K9] at hl;rw [aY hl] at e;cases e;refine ⟨v,aR (by rw [r.len]; exact hl),?_⟩;rw [hm];exact h
  ·rw [au hij] at e;obtain ⟨w,e1,h1⟩:=r.slot j s e;exact ⟨w,by rw [aC hij]; exact e1,h1⟩
 inj:=fun j k s s' a hjk m1 m2 e1 e2 i1 i2 l1 l2=>by
  have n1:i ≠ j:=fun z=>m1 (by rw [<- z]; exact hm);have n2:i ≠ k:=fun z=>m2 (by rw [<- z]; exact hm);rw [au n1] at e1;rw [au n2] at e2;rw [aC n1] at l1;rw [aC n2] at l2;exact r.inj j k s s' a hjk m1 m2 e1 e2 i1 i2 l1 l2
def fH (m:List S->Option S) (f:MA) (i:Nat):MS:=fun ρ=>(f ρ).bind fun x=>(dO x.2 x.1).bind fun ss=>(m ss).bind fun s=>(L5 (some s)).bind fun kvs=>some (.nx,x.2.set i (some (.dn kvs)))
theorem xg (hm:ai md i=.pl) (h:LA C md t f):LS C md (lX (hV (JL C.K m) [] E t) (dE i)) (fH m f i):=by intro A W ρ σ H D fl ρ' r e k;unfold fH at e;simp -iota only [Z0] at e;obtain ⟨⟨os,ρ1⟩,e1,ss,e2,s,e3,kvs,e4,e5⟩:=e;cases e5;cases bN e4;refine h A W ρ σ H _ os ρ1 r e1 fun vs H1 x1 r1 p1=>?_;rw [Ma];refine ⟨ss,_,p1.Lc r1 e2,e3,fun v H2 s2 n=>?_⟩;obtain ⟨a,ws,rfl,n1,n2,n3⟩:=n;have r2:=r1.same s2;refine k A W _ H2 (Gr.JM (x1.trans (Jo.ext s2))) (r2.OX hm ⟨a,ws,rfl,n2,r1.fresh n1,n3.mono fun b _ o _=>r1.fresh o.1⟩) fun j fj=>aC (fun z=>?_);rcases fj with fj | fj <;> (rw [<- z,hm] at fj; cases fj)
def qu (i:Nat):MI:=fun ρ=>(L5 (look ρ i)).bind fun kvs=>some (kvs.map fun kv=>OB kv.1,ρ)
theorem Ho:LI C md none (iNd (aS i)) (qu i):=by
 intro A W ρ σ H Q ds ρ' r e k;unfold qu at e;simp -iota only [Z0] at e;obtain ⟨kvs,e1,e2⟩:=e;cases e2;have e1:=bN e1;obtain ⟨w,ew,_⟩:=r.slot i _ e1;obtain ⟨a,o,ws,rfl,h1,na,h2⟩:=r.LP e1 ew;refine ⟨_,ew,a,o,ws,rfl,h1,k _ H (Ext.refl _ _) r fun W2 hw _=>?_⟩;intro A' W' H' g j;have st:aU C.K H H':=g.ext.JF fun a w=>r.wk a (hw a w);have h':H' a=some (.ext (J4 a o ws)):=g.ext a _ (fun z=>na (r.wa a (hw a z))) h1;have lw:ws.length=kvs.length:=h2.len;refine ⟨fun d e=>?_,fun hl=>⟨by simpa [lw] using hl,h'⟩⟩;rw [Kb,Y3] at e;obtain ⟨kv,e3,rfl⟩:=e;obtain ⟨hj,_⟩:=Z9.mp e3;refine ⟨⟨by rw [lw]; exact hj,h'⟩,fun y H'' yl=>jt ⟨yl.1,?_⟩⟩;obtain ⟨_,c,e4,rfl⟩:=yl;have ek:J2 c.1=kv.1:=by have:=Y9 (fun l:List NK=>l[j]?) h2.ks;simp only [Kb,e3,e4,YN] at this;exact KZ this
 rw [<- ek];exact EG fun p ep=>st _ _ (h2.ki c (Y5 e4) p ep)
theorem Ev.Pu:mM ρ=some (.dm [],ρ):=rfl
theorem Ev.vK (h0:look ρ i=some (.dn kvs0)) (h1:f ρ=some (x,ρ1)) (h2:res ρ1 x=some d) (h3:L9 d=some n) (h4:look ρ1 i=some (.dn kvs)) (h5:aE kvs n=some u):jK i f ρ=some (.val u,ρ1):=by unfold jK;simp only [h0,h1,h2,h3,h4,h5,L5,Z1]
theorem Ev.OT (h0:look ρ x=some (.dm kvs0)) (h1:f ρ=some (o,ρ1)) (h2:res ρ1 o=some kd) (h3:L9 kd=some n) (h4:look ρ1 x=some (.dm kvs)) (h5:kvs.length < 1000000) (h7:aE kvs n=none) {ρ2:En} (h6:ρ1.set x (some (.dm (kvs++[(n,d)])))=ρ2) :
 gV x f d ρ=some ρ2:=by
 unfold gV;have:kvs.length < sizeLine/\(aE kvs n).isSome=false:=⟨KL h5 (by decide),by rw [h7]; rfl⟩;subst h6;simp only [h0,h1,h2,h3,h4,Ow,Z1];rw [Y1 this]
theorem Ev.ou (h0:look ρ i=some (.dm kvs)) (h1:D.JA (kvs.map (·.2))=true):ld i ρ=some (.ret (.dn kvs),ρ):=by unfold ld;simp only [h0,Ow,Z1,h1,if_true]
theorem Ev.ndI (h0:look ρ i=some (.dn kvs)) {ds:List D} (h1:(kvs.map fun kv=>OB kv.1)=ds):qu i ρ=some (ds,ρ):=by unfold qu;subst h1;simp only [h0,L5,Z1]
def jL:Md->Option S->Bool
 | _,none=>true
 | .pl,some (.d x)=>D.imm x
 | _,some (.d (.lst l))=>D.JA l
 | _,some (.d x)=>D.imm x
 | _,_=>false
def mN (md:List Md) (ρ:En):Bool:=(List.range ρ.length).all fun i=>jL (ai md i) (look ρ i)
theorem AU (h:mN md ρ=true) (hl:i < ρ.length):jL (ai md i) (look ρ i)=true:=
 L0.mp h i (List.mem_range.mpr hl)
section
variable {K:PySem.W.Frag}
theorem c8 (st:aU K H H') {d:D} {v:V} (i:D.imm d=true) (h:Ji K H ok d v):Ji K H' ok' d v:=
 (Ji.JH (ok:=fun _=>False) i h.rep).Jp st fun _ _ o=>o.elim
theorem ux (st:aU K H H') {l:List D} {xs:List V} (i:D.JA l=true) (h:Jj K H ok l xs):Jj K H' ok' l xs:=
 (Jj.JH (ok:=fun _=>False) i h.Ks).Jp st fun _ _ o=>o.elim
theorem rQ:∀ {ws:List (KA × V)} {j:Nat} {c:KA} {v:V},(ws.map fun x=>J2 x.1).Nodup->ws[j]?=some (c,v)->valN ws (J2 c)=some v
 | [],j,c,v,_,e=>by simp at e
 | w::r,j,c,v,nd,e=>by
  rw [Z6,List.nodup_cons] at nd;unfold valN;rw [Mt];cases j with
  | zero=>simp at e;subst e;rw [decide_eq_true rfl];rfl
  | succ j=>simp at e;have:J2 w.1 ≠ J2 c:=fun z=>nd.1 (by rw [z]; exact Ke.mpr ⟨_,Y5 e,rfl⟩);rw [Y2 this];exact rQ nd.2 e
theorem uy (h:k ∉ ws.map fun x=>J2 x.1):valN ws k=none:=by
 have:(ws.find? fun kv=>decide (J2 kv.1=k))=none:=by rw [List.find?_eq_none];intro x hx hk;exact h (by rw [<- of_decide_eq_true hk]; exact Ke.mpr ⟨x,hx,rfl⟩)
 simp [valN,this]
end
theorem R.Mo (r:R C md A W ρ σ H) (hi:mN md ρ=true) {b:Addr} (hb:¬ A b) (h0:C.H0 b=none) (bt:∀ c o,c ≠ b->H c=some o->H' c=some o) (st:aU C.K H H'):R C md A W ρ σ H' where
 len:=r.len
 wa:=r.wa
 ak:=fun a ha=>by
  have n:a ≠ b:=fun z=>hb (by rw [<- z]; exact ha);exact (r.ak a ha).imp (fun ⟨xs,e⟩=>⟨xs,bt a _ n e⟩) (fun z=>z.imp (fun ⟨xs,e⟩=>⟨xs,bt a _ n e⟩) (fun z=>z.imp (fun ⟨xs,e⟩=>⟨xs,bt a _ n e⟩) (fun ⟨xs,e⟩=>⟨xs,bt a _ n e⟩)))
 base:=fun c o e n=>bt c o (fun z=>by rw [z,h0] at e; cases e) (r.base c o e n)
 wf:=r.wf
 ma:=r.ma
 fo:=r.fo
 slot:=fun i s e=>by
  obtain ⟨v,ev,c⟩:=r.slot i s e;refine ⟨v,ev,?_⟩;have im:=AU hi (aV e);rw [e] at im;have cell:∀ {ok okq:Addr->Prop} {m:Md},m ≠ .pl->jL m (some s)=true->Cell C.K A H ok okq s v->Cell C.K A H' ok okq s v:=by
   intro ok okq m hm im c;cases s with
   | d y=>
    cases y with
    | lst l=>
     have il:D.JA l=true:=by cases m with
      | pl=>exact absurd rfl hm
      | _=>exact im
     obtain ⟨a,xs,e1,h1,h2,h3,h4⟩:=c;exact ⟨a,xs,e1,bt a _ (fun z=>hb (by rw [<- z]; exact h2)) h1,h2,h3,ux st il h4⟩
    | non=>exact c8 st rfl (show Ji C.K H (fun b=>¬ A b) .non v from c)
    | bl x=>exact c8 st rfl (show Ji C.K H (fun b=>¬ A b) (.bl x) v from c)
    | int x=>exact c8 st rfl (show Ji C.K H (fun b=>¬ A b) (.int x) v from c)
    | str x=>exact c8 st rfl (show Ji C.K H (fun b=>¬ A b) (.str x) v from c)
    | tup l=>
     have il:D.imm (.tup l)=true:=by cases m <;> exact im
     exact c8 st il (show Ji C.K H (fun b=>¬ A b) (.tup l) v from c)
   | _=>cases m <;> cases im
  cases em:ai md i with
  | pl=>
   rw [em] at c im;cases s with
   | d y=>exact c8 st im (show Ji C.K H (fun b=>¬ A b) y v from c)
   | _=>cases im
  | ow=>rw [em] at c im; exact cell (m:=.ow) nofun im c
  | lk=>rw [em] at c im; exact cell (m:=.lk) nofun im c
  | io=>rw [em] at c im; exact cell (m:=.io) nofun im c
 inj:=r.inj
theorem R.Ml (r:R C md A W ρ σ H) (h:∀ i s,look ρ i=some s->ai md' i=ai md i):R C md' A W ρ σ H where
 len:=r.len
 wa:=r.wa
 ak:=r.ak
 base:=r.base
 wf:=r.wf
 ma:=r.ma
 fo:=r.fo
 slot:=fun i s e=>by
  rw [h i s e];exact r.slot i s e
 inj:=fun i j s s' a n m1 m2 e1 e2=>by
  rw [h i s e1] at m1;rw [h j s' e2] at m2;exact r.inj i j s s' a n m1 m2 e1 e2
structure Gh (C:Cn) (A:Addr->Prop) (H:Hp) (σ:L2.St) (kvs:List (NK × List D)) (F:Addr->Prop) (a:Addr) (ws:List (KA × V)):Prop where
 sl:σ[1]?=some (some (.ref a))
 ha:∃ ob,H a=some (.ext (J4 a ob ws))
 na:¬ A a
 fa:F a
 ki:jk H ws
 ks:(ws.map fun x=>J2 x.1)=kvs.map (·.1)
 kn:(kvs.map (·.1)).Nodup
 inn:∀ (j:Nat) (kl:NK × List D),kvs[j]?=some kl->∃ c b xs,ws[j]?=some (c,.ref b)/\H b=some (.lst xs)/\¬ A b/\F b/\Jj C.K H (fun _=>False) kl.2 xs
 nd:∀ (i j:Nat) (c c':KA) (b:Addr),ws[i]?=some (c,.ref b)->ws[j]?=some (c',.ref b)->i=j
structure Le (C:Cn) (md:List Md) (A0 W0:Addr->Prop) (H00:Hp) (A W:Addr->Prop) (ρ:En) (σ:L2.St) (H:Hp) (kvs:List (NK × List D)):Prop where
 r:R C md A W ρ σ H
 g:Gr A0 W0 H00 A W H
 gh:∃ a ws,Gh C A H σ kvs (fun b=>(H00 b=none∨W0 b)/\C.H0 b=none) a ws
theorem Le.grow (s:Le C md A0 W0 H00 A W ρ σ H kvs) (wa0:∀ a,W0 a->A0 a) (g:Gr A W H A' W' H') (r':R C md A' W' ρ' σ' H') (e:σ'[1]?=σ[1]?):Le C md A0 W0 H00 A' W' ρ' σ' H' kvs where
 r:=r'
 g:=s.g.trans wa0 (fun _ _=>trivial) g
 gh:=by
  obtain ⟨a,ws,G⟩:=s.gh;have st:aU C.K H H':=g.ext.JF s.r.wk;have nA:∀ {b:Addr} {o:HO},H b=some o->¬ A b->¬ A' b:=fun h n z=>by
   rcases g.an _ z with y | y
   ·exact n y
   ·rw [h] at y; cases y
  obtain ⟨ob,ha⟩:=G.ha;refine ⟨a,ws,e.trans G.sl,⟨ob,g.ext a _ (fun w=>G.na (s.r.wa a w)) ha⟩,nA ha G.na,G.fa,fun kv m p ep=>st _ _ (G.ki kv m p ep),G.ks,G.kn,fun j kl h=>?_,G.nd⟩;obtain ⟨c,b,xs,i1,i2,i3,i4,i5⟩:=G.inn j kl h;exact ⟨c,b,xs,i1,g.ext b _ (fun w=>i3 (s.r.wa b w)) i2,nA i2 i3,i4,i5.Jp st fun _ _ o=>o.elim⟩
theorem Le.ext (s:Le C md A0 W0 H00 A W ρ σ H kvs) (wa0:∀ a,W0 a->A0 a) (x:Ext W H H') (r':R C md A W ρ' σ H'):Le C md A0 W0 H00 A W ρ' σ H' kvs:=s.grow wa0 (Gr.JM x) r' rfl
theorem Gr.Mo (g:Gr A0 W0 H00 A W H) {b:Addr} (hb:H00 b=none∨W0 b) (bt:∀ c o,c ≠ b->H c=some o->H' c=some o):Gr A0 W0 H00 A W H' where
 an:=g.an
 wn:=g.wn
 ext:=fun c o nw hc=>by
  refine bt c o (fun z=>?_) (g.ext c o nw hc);subst z;rcases hb with h | h
  ·rw [h] at hc; cases hc
  ·exact nw h
theorem Gr.none (g:Gr A0 W0 H00 A W H) {b:Addr} (h:H b=none):H00 b=none∨W0 b:=by
 cases e:H00 b with
 | none=>exact .inl rfl
 | some o=>
  by_cases w:W0 b
  ·exact .inr w
  ·have:=g.ext b o w e;rw [h] at this; cases this
theorem Le.put (s:Le C md A0 W0 H00 A W ρ σ H kvs) (wa0:∀ a,W0 a->A0 a) (hi:mN md ρ=true) (hm:ai md i=.pl) {hd:D} {k:NK} (e1:look ρ i=some (.d hd)) (e2:L9 hd=some k) (hz:kvs.length < sizeLine) (hk:k ∉ kvs.map (·.1))
 (q:∀ H',Le C md A0 W0 H00 A W ρ σ H' (kvs++[(k,[])])->aU C.K H H'->Z.nx σ H'):lX (pI dB) (lW (aS 1) (aS i) jm) Z σ H:=by
 obtain ⟨a,ws,G⟩:=s.gh;obtain ⟨w,hw,c3⟩:=s.r.slot i _ e1;rw [hm] at c3;obtain ⟨c,rfl,rfl,hc⟩:=oP (Ji.top (show Ji C.K H (fun b=>¬ A b) hd w from c3)) e2;obtain ⟨ob,ha⟩:=G.ha;have lw:ws.length=kvs.length:=by simpa using Y9 List.length G.ks
 refine ⟨K0 _,fun p hp=>⟨_,G.sl,_,hw,.inr (.inr (.inr ?_))⟩⟩;have s1:=aw (o:=.lst []) hp;have pa:a ≠ p:=fun z=>by rw [z,hp] at ha; cases ha
 refine ⟨a,ob,ws,c,rfl,rfl,s1 _ _ ha,fun kv m p e=>s1 _ _ (G.ki kv m p e),fun p e=>s1 _ _ (hc p e),uy (by rw [G.ks]; exact hk),by rw [lw]; exact hz,fun o'=>?_⟩;have hl:(upd H p (.lst [])) p=some (.lst []):=aj;have ha1:=s1 _ _ ha;have r1:=s.r.same s1;have g1:Gr A0 W0 H00 A W (upd H p (.lst [])):=s.g.trans wa0 (fun _ _=>trivial) (Gr.JM (Jo.ext s1));have st1:aU C.K H (upd H p (.lst [])):=My.aF s1;generalize upd H p (.lst [])=H1 at *;obtain ⟨H3,e7,b3,h3⟩:=My.ie H1 a (.ext (J4 a o' (ws++[(c,.ref p)])));rw [e7];have st3:aU C.K H1 H3:=fun t xs z=>b3 t _ (fun y=>by rw [y] at z; rw [show H1 a=some (.tup xs) from z] at ha1; cases ha1) z;refine q H3 ⟨r1.Mo hi G.na G.fa.2 (fun c o n h=>b3 c o n h) st3,g1.Mo G.fa.1 fun c o n h=>b3 c o n h,a,ws++[(c,.ref p)],G.sl,⟨o',h3⟩,G.na,G.fa,?_,?_,?_,?_,?_⟩ fun t xs z=>st3 _ _ (st1 _ _ z)
 ·intro kv m t e;rcases Kk.mp m with m | m
  ·exact st3 _ _ (st1 _ _ (G.ki kv m t e))
  ·cases Lg.mp m;exact st3 _ _ (st1 _ _ (hc t e))
 ·simp [G.ks]
 ·rw [LW];refine List.nodup_append.mpr ⟨G.kn,by simp,fun x hx y hy z=>?_⟩;simp at hy;subst hy; subst z;exact hk hx
 ·intro j kl h;by_cases hj:j < kvs.length
  ·rw [Yo hj] at h;obtain ⟨c',b,xs,i1,i2,i3,i4,i5⟩:=G.inn j kl h;have nb:b ≠ a:=fun z=>by rw [z,ha] at i2; cases i2
   refine ⟨c',b,xs,by rw [Yo (by rw [lw]; exact hj)]; exact i1,b3 b _ nb (s1 _ _ i2),i3,i4,(i5.Jp (ok':=fun _=>False) st1 fun _ _ o=>o.elim).Jp st3 fun _ _ o=>o.elim⟩
  ·rw [Yj (by omega)] at h;have:j=kvs.length:=by
    rcases Nat.eq_or_lt_of_le (Nat.le_of_not_lt hj) with z | z
    ·exact z.symm
    ·rw [List.getElem?_eq_none (by simp; omega)] at h; cases h
   subst this;simp at h;subst h;exact ⟨c,p,[],by rw [Yj (by omega)]; simp [lw],b3 p _ (YI pa) hl,s.r.fresh hp,⟨s.g.none hp,s.r.h0 hp⟩,.nil⟩
 ·have old:∀ (j:Nat) (c':KA),ws[j]? ≠ some (c',.ref p):=fun j c' h=>by
   obtain ⟨hj,_⟩:=Z9.mp h;rw [lw] at hj;obtain ⟨c2,b,xs,i1,i2,_⟩:=G.inn j _ (Z3 hj);rw [h] at i1;cases i1;rw [hp] at i2; cases i2
  have get:∀ (j:Nat) (c':KA) (b:Addr),(ws++[(c,V.ref p)])[j]?=some (c',.ref b)->ws[j]?=some (c',.ref b)∨(j=ws.length/\b=p):=fun j c' b h=>by
   by_cases hj:j < ws.length
   ·rw [Yo hj] at h; exact .inl h
   ·rw [Yj (by omega)] at h;have:j=ws.length:=by
     rcases Nat.eq_or_lt_of_le (Nat.le_of_not_lt hj) with z | z
     ·exact z.symm
     ·rw [List.getElem?_eq_none (by simp; omega)] at h; cases h
    subst this;simp at h;exact .inr ⟨rfl,h.2.symm⟩
  intro i j c1 c2 b h1 h2;rcases get _ _ _ h1 with h1 | ⟨h1,z1⟩ <;> rcases get _ _ _ h2 with h2 | ⟨h2,z2⟩
  ·exact G.nd i j c1 c2 b h1 h2
  ·rw [z2] at h1; exact absurd h1 (old _ _)
  ·rw [z1] at h2; exact absurd h2 (old _ _)
  ·rw [h1,h2]
def mO (kvs:List (NK × List D)) (k:NK) (x:D):List (NK × List D):=kvs.map fun kv=>if kv.1=k then (kv.1,kv.2++[x]) else kv
theorem lg (kvs:List (NK × List D)) (k:NK) (x:D):(mO kvs k x).map (·.1)=kvs.map (·.1):=by unfold mO;rw [KP];refine Yn fun kv _=>?_;show (if kv.1=k then (kv.1,kv.2++[x]) else kv).1=kv.1;split <;> rfl
theorem Le.app (hk:LE C md tk fk) (s:Le C md A0 W0 H00 A W ρ σ H kvs) (wa0:∀ a,W0 a->A0 a) {o:Op} {kd hd:D} {k:NK} (e1:fk ρ=some (o,ρ')) (e2:res ρ' o=some kd) (e3:L9 kd=some k) (hi:mN md ρ'=true) (hm:ai md i=.pl) (e4:look ρ' i=some (.d hd)) (e5:D.imm hd=true) (hz:∀ kv ∈ kvs,kv.2.length < sizeLine) (hin:k ∈ kvs.map (·.1))
 (q:∀ H',Le C md A0 W0 H00 A W ρ' σ H' (mO kvs k hd)->aU C.K H H'->Z.nx σ H'):iZ (Mv C.K "list" de (LF (jl C.K) (aS 1) tk) (bS (aS i) dB)) Z σ H:=by
 obtain ⟨a0,ws0,G0⟩:=s.gh;refine ⟨_,G0.sl,hk A W ρ σ H _ o ρ' s.r e1 fun v1 H1 x1 r1 p1=>.inr (.inr (.inr ?_))⟩;have s1:=s.ext wa0 x1 r1;obtain ⟨a,ws,G⟩:=s1.gh;cases (G0.sl.symm.trans G.sl);obtain ⟨c,rfl,rfl,hc⟩:=oP (p1.get r1 e2) e3;obtain ⟨kl,hkl,ek⟩:=Ke.mp hin;obtain ⟨j,hj⟩:=List.mem_iff_getElem?.mp hkl;obtain ⟨c',b,xs,i1,i2,i3,i4,i5⟩:=G.inn j kl hj;obtain ⟨ob,ha⟩:=G.ha;have kc:J2 c'=J2 c:=by rw [<- ek];have:=Y9 (fun l:List NK=>l[j]?) G.ks;simp only [Kb,hj,i1,YN] at this;exact KZ this
 have vn:valN ws (J2 c)=some (.ref b):=by rw [<- kc]; exact rQ (by rw [G.ks]; exact G.kn) i1
 obtain ⟨w,hw,c3⟩:=r1.slot i _ e4;rw [hm] at c3;have ph:Ji C.K H1 (fun _=>False) hd w:=Ji.JH e5 (Ji.rep (show Ji C.K H1 (fun b=>¬ A b) hd w from c3));refine ⟨a0,ob,ws,J2 c,.ref b,rfl,⟨ha,G.ki⟩,qt hc,vn,.inl ⟨rfl,xs,.inl (.inl i2)⟩,w,hw,b,xs,w,rfl,rfl,i2,?_,?_⟩
 ·rw [show xs.length=kl.2.length from i5.length]; exact hz kl hkl
 obtain ⟨H3,e7,b3,h3⟩:=My.ie H1 b (.lst (xs++[w]));rw [e7];have st3:aU C.K H1 H3:=fun t ys z=>b3 t _ (fun y=>by rw [y] at z; rw [show H1 b=some (.tup ys) from z] at i2; cases i2) z;have ab:a0 ≠ b:=fun z=>by rw [z,i2] at ha; cases ha
 refine q H3 ⟨r1.Mo hi i3 i4.2 (fun c o n h=>b3 c o n h) st3,s1.g.Mo i4.1 fun c o n h=>b3 c o n h,a0,ws,G.sl,⟨ob,b3 _ _ ab ha⟩,G.na,G.fa,fun kv m t e=>st3 _ _ (G.ki kv m t e),by rw [lg]; exact G.ks,by rw [lg]; exact G.kn,?_,G.nd⟩ fun t xs z=>st3 _ _ (x1.JF s.r.wk _ _ z);intro i kl' h;unfold mO at h;rw [Kb,Y3] at h;obtain ⟨kv,h1,rfl⟩:=h;by_cases ij:i=j
 ·subst ij;rw [hj] at h1;cases h1;refine ⟨c',b,xs++[w],i1,h3,i3,i4,?_⟩;rw [Y1 ek];exact (i5.Jp st3 fun _ _ o=>o.elim).append (.cons (ph.Jp st3 fun _ _ o=>o.elim) .nil)
 ·have nk:kv.1 ≠ J2 c:=fun z=>by
   refine ij ?_;have h2:(kvs.map (·.1))[i]?=some (J2 c):=by rw [Kb,h1]; exact Y9 some z
   have h3:(kvs.map (·.1))[j]?=some (J2 c):=by rw [Kb,hj]; exact Y9 some ek
   obtain ⟨l2,g2⟩:=Z9.mp h2;obtain ⟨l3,g3⟩:=Z9.mp h3;exact (List.getElem?_inj l2 G.kn).mp (h2.trans h3.symm)
  rw [Y0 nk];obtain ⟨c2,b2,ys,k1,k2,k3,k4,k5⟩:=G.inn i kv h1;exact ⟨c2,b2,ys,k1,b3 b2 _ (fun z=>ij (by rw [z] at k1; exact G.nd i j c2 c' b k1 i1)) k2,k3,k4,k5.Jp st3 fun _ _ o=>o.elim⟩
theorem Le.run (hs:LS C md t f) (s:Le C md A0 W0 H00 A W ρ σ H kvs) (wa0:∀ a,W0 a->A0 a) (hm:ai md 1=.lk) (e:f ρ=some (.nx,ρ')) (q:∀ A' W' σ' H',Le C md A0 W0 H00 A' W' ρ' σ' H' kvs->aU C.K H H'->Z.nx σ' H'):t Z σ H:=
 hs A W ρ σ H Z .nx ρ' s.r e fun A' W' σ' H' g r' f'=>q A' W' σ' H' (s.grow wa0 g r' (f' 1 (.inl hm))) (g.ext.JF s.r.wk)
def OA:Option (Fl × En)->Option En
 | some (.nx,ρ)=>some ρ
 | _=>none
theorem jM (h:OA o=some ρ):o=some (.nx,ρ):=by
 cases o with
 | some x=>
  obtain ⟨fl,ρ1⟩:=x;cases fl with
  | nx=>cases h; rfl
  | _=>cases h
 | _=>cases h
def dS:Option S->Option D
 | some (.d x)=>some x
 | _=>none
theorem iT (h:dS o=some x):o=some (.d x):=by
 cases o with
 | some y=>
  cases y with
  | d z=>cases h; rfl
  | _=>cases h
 | _=>cases h
def iU (fk:ME) (y:Bool × En):Option (En × NK):=
 if y.1=true then some (y.2,none) else (fk y.2).bind fun o=>(res o.2 o.1).bind fun kd=>(L9 kd).bind fun k=>some (o.2,k)
def gW (kvs:List (NK × List D)) (k:NK):List (NK × List D):=kvs++[(k,[])]
def dR (md:List Md) (fw:MS) (fc:MT) (fk:ME) (fa:MS) (d:D) (x:En × List (NK × List D)):Option (En × List (NK × List D)):=
 (OA (fw (x.1.set 3 (some (.d d))))).bind fun ρ2=>(dS (look ρ2 3)).bind fun hd=>(L9 hd).bind fun key=>
 if mN md ρ2=true/\x.2.length < sizeLine/\key ∉ x.2.map (·.1) then
  (fc ρ2).bind fun y=>(iU fk y).bind fun z=>(dS (look z.1 3)).bind fun h2=>
  if D.imm h2=true/\mN md z.1=true/\z.2 ∈ (gW x.2 key).map (·.1)/\∀ kv ∈ gW x.2 key,kv.2.length < sizeLine then
   (OA (fa z.1)).bind fun ρ5=>some (ρ5,mO (gW x.2 key) z.2 h2)
  else none
 else none
def lh (f:D->En × List (NK × List D)->Option (En × List (NK × List D))):List D->En × List (NK × List D)->Option (En × List (NK × List D))
 | [],x=>some x
 | d::r,x=>(f d x).bind (lh f r)
def mP (md:List Md) (fn fw:MS) (fc:MT) (fk:ME) (fa:MS):MS:=fun ρ=>
 if 1 < ρ.length/\(look ρ 1).isNone=true then
  (OA (fn ρ)).bind fun ρ1=>(dS (look ρ1 0)).bind fun h=>(oH h).bind fun l=>if D.JA l=true then
   (lh (dR md fw fc fk fa) l (ρ1,[(none,[])])).bind fun x=>if (look x.1 1).isNone=true then some (.ret (.dn (x.2.map fun kv=>(kv.1,.lst kv.2))),x.1) else none
  else none
 else none
theorem lm {t u:TS} {Z:Ends} {σ:L2.St} {H:Hp} (h:t { Z with nx:=u Z } σ H):gD t u Z σ H:=h
theorem Hq (h:c σ H fun b H1=>if b=true then t Z σ H1 else u Z σ H1):uX c t u Z σ H:=h
theorem xh (hw:LS C md tw fw) (hc:LT C md tc fc) (hk:LE C md tk fk) (ha:LS C md ta fa) (m1:ai md 1=.lk) (m3:ai md 3=.pl) (wa0:∀ a,W0 a->A0 a)
 (s:Le C md A0 W0 H00 A W ρ σ H kvs) {d:D} {v:V} (pv:Ji C.K H (fun b=>¬ A b) d v) {x':En × List (NK × List D)} (e:dR md fw fc fk fa d (ρ,kvs)=some x')
 (q:∀ A' W' σ' H',Le C md A0 W0 H00 A' W' x'.1 σ' H' x'.2->aU C.K H H'->Z.nx σ' H') :
 dE 3 v σ H fun σ2 H2=>gD tw (gD (lX (pI dB) (lW (aS 1) (aS 3) jm)) (gD (uX tc (iZ (Mv C.K "list" de (LF (jl C.K) (aS 1) (tC V.non)) (bS (aS 3) dB))) (iZ (Mv C.K "list" de (LF (jl C.K) (aS 1) tk) (bS (aS 3) dB)))) ta)) Z σ2 H2:=by
 unfold dR at e;simp -iota only [Z0] at e;obtain ⟨ρ2,e1,hd,e2,key,e3,e4⟩:=e;split at e4
 rotate_left
 ·cases e4
 rename_i hz;simp -iota only [Z0] at e4;obtain ⟨y,e5,z,e6,h2,e7,e8⟩:=e4;split at e8
 rotate_left
 ·cases e8
 rename_i hz2;simp -iota only [Z0] at e8;obtain ⟨ρ5,e9,e10⟩:=e8;cases e10;refine mv (fx:=dD md) m3 (by unfold dD; rw [m3]; nofun) A W ρ σ H v d _ _ s.r pv rfl fun σ1 H1 x1 r1 f1=>?_;have s1:=s.grow wa0 (Gr.JM x1) r1 (f1 1 (.inl m1));have t1:aU C.K H H1:=x1.JF s.r.wk;refine lm ?_;refine s1.run hw wa0 m1 (jM e1) fun A2 W2 σ2 H2 s2 t2=>?_;refine lm ?_;refine s2.put wa0 hz.1 m3 (iT e2) e3 hz.2.1 hz.2.2 fun H3 s3 t3=>?_;refine lm (Hq ?_);refine hc A2 W2 ρ2 σ2 H3 _ y.1 y.2 s3.r e5 fun H4 x4 r4=>?_;have s4:=s3.ext wa0 x4 r4;have t4:aU C.K H3 H4:=x4.JF s3.r.wk;have fin:∀ H5,Le C md A0 W0 H00 A2 W2 z.1 σ2 H5 (mO (gW kvs key) z.2 h2)->aU C.K H4 H5->ta Z σ2 H5:=fun H5 s5 t5=>s5.run ha wa0 m1 (jM e9) fun A6 W6 σ6 H6 s6 t6=>q A6 W6 σ6 H6 s6 fun a xs h=>t6 _ _ (t5 _ _ (t4 _ _ (t3 _ _ (t2 _ _ (t1 _ _ h)))))
 unfold iU at e6;obtain ⟨b,ρ3⟩:=y;cases b with
 | true=>cases e6;exact iG (s4.app (vW .non fun _ _=>dL) wa0 (o:=.val .non) rfl rfl rfl hz2.2.1 m3 (iT e7) hz2.1 hz2.2.2.2 hz2.2.2.1 fin)
 | false=>simp only [Lk,if_false,Z0] at e6;obtain ⟨o,g1,kd,g2,k,g3,g4⟩:=e6;cases g4;exact iF (s4.app hk wa0 g1 g2 g3 hz2.2.1 m3 (iT e7) hz2.1 hz2.2.2.2 hz2.2.2.1 fin)
theorem R.Oc {i:Nat} {v:V} (r:R C md A W ρ σ H) (h:look ρ i=none):R C md A W ρ (σ.set i (some v)) H where
 len:=by rw [K9]; exact r.len
 wa:=r.wa
 ak:=r.ak
 base:=r.base
 wf:=r.wf
 ma:=r.ma
 fo:=r.fo
 slot:=fun j s e=>by
  have n:i ≠ j:=fun z=>by rw [z,e] at h; cases h
  obtain ⟨w,e1,h1⟩:=r.slot j s e;exact ⟨w,by rw [aC n]; exact e1,h1⟩
 inj:=fun j k s s' a hjk m1 m2 e1 e2 i1 i2 l1 l2=>by
  have n1:i ≠ j:=fun z=>by rw [z,e1] at h; cases h
  have n2:i ≠ k:=fun z=>by rw [z,e2] at h; cases h
  rw [aC n1] at l1;rw [aC n2] at l2;exact r.inj j k s s' a hjk m1 m2 e1 e2 i1 i2 l1 l2
theorem lu {α:Type} {o:Option α} (h:o.isNone=true):o=none:=by
 cases o with
 | none=>rfl
 | some _=>cases h
inductive Po (C:Cn) (md:List Md) (A0 W0:Addr->Prop) (H00:Hp) (t:Addr) (l:List D) (xs:List V) (f:D->En × List (NK × List D)->Option (En × List (NK × List D))) (out:En × List (NK × List D)) (i m:Nat) (σ:L2.St) (H:Hp):Prop
 | mk:∀ A W x,Le C md A0 W0 H00 A W x.1 σ H x.2->JW C.K H t xs->Jj C.K H (fun _=>False) l xs->lh f (l.drop i) x=some out->m=l.length - i->Po C md A0 W0 H00 t l xs f out i m σ H
theorem xk {mdL:List Md} {tn tw ta:TS} {tc:TT} {tk:TE} {fn fw fa:MS} {fc:MT} {fk:ME} (hn:LS C mdL tn fn) (hw:LS C mdL tw fw) (hc:LT C mdL tc fc) (hk:LE C mdL tk fk) (ha:LS C mdL ta fa)
 (m0:ai mdL 0=.pl) (m1:ai mdL 1=.lk) (m3:ai mdL 3=.pl) (mm:∀ i,i ≠ 1->ai mdL i=ai md i) (mh:∀ i,¬ dD md i) :
 LS C md (gD (lX (vS (tC V.non) (pI dB)) (dE 1)) (gD tn (gD (C6 (zk C.K (aS 0)) (dE 3) (gD tw (gD (lX (pI dB) (lW (aS 1) (aS 3) jm)) (gD (uX tc (iZ (Mv C.K "list" de (LF (jl C.K) (aS 1) (tC V.non)) (bS (aS 3) dB))) (iZ (Mv C.K "list" de (LF (jl C.K) (aS 1) tk) (bS (aS 3) dB)))) ta)))) (nI (aS 1))))) (mP mdL fn fw fc fk fa):=by
 intro A W ρ σ H Z fl ρ' r e k;unfold mP at e;split at e
 rotate_left
 ·cases e
 rename_i hz;simp -iota only [Z0] at e;obtain ⟨ρ1,e1,h,e2,l,e3,e4⟩:=e;split at e4
 rotate_left
 ·cases e4
 rename_i hl;simp -iota only [Z0] at e4;obtain ⟨x,e5,e6⟩:=e4;split at e6
 rotate_left
 ·cases e6
 rename_i hx;cases e6;cases gT e3;have n1:=lu hz.2;refine lm ?_;intro p ob hp;refine ⟨K0 _,fun q hq=>?_⟩;have pq:q ≠ p:=fun z=>by rw [z,aj] at hq; cases hq
 refine ⟨.ref q,ob,rfl,by rw [ar (YI pq)]; exact aj,fun o'=>?_⟩;have hq0:H q=none:=by rw [ar pq] at hq; exact hq
 have h3p:(upd (upd (upd H p (.ext (J4 p ob []))) q (.lst [])) p (.ext (J4 p o' [(none,.ref q)]))) p=some (.ext (J4 p o' [(none,.ref q)])):=aj;have h3q:(upd (upd (upd H p (.ext (J4 p ob []))) q (.lst [])) p (.ext (J4 p o' [(none,.ref q)]))) q=some (.lst []):=by rw [ar pq]; exact aj
 have s3:Jo H (upd (upd (upd H p (.ext (J4 p ob []))) q (.lst [])) p (.ext (J4 p o' [(none,.ref q)]))):=fun b u hb=>by
  rw [ar (fun z=>by rw [z,hp] at hb; cases hb),ar (fun z=>by rw [z,hq0] at hb; cases hb),ar (fun z=>by rw [z,hp] at hb; cases hb)];exact hb
 generalize upd (upd (upd H p (.ext (J4 p ob []))) q (.lst [])) p (.ext (J4 p o' [(none,.ref q)]))=H3 at h3p h3q s3;have rL:R C mdL A W ρ (σ.set 1 (some (.ref p))) H3:=((r.same s3).Oc n1).Ml fun i s ei=>mm i fun z=>by rw [z,n1] at ei; cases ei
 have st:Le C mdL A W H A W ρ (σ.set 1 (some (.ref p))) H3 [(none,[])]:=by
  refine ⟨rL,Gr.JM (Jo.ext s3),p,[(none,.ref q)],aR (by rw [r.len]; exact hz.1),⟨o',h3p⟩,r.fresh hp,⟨.inl hp,r.h0 hp⟩,fun kv m t et=>?_,rfl,by simp,fun j kl hj=>?_,fun i j c c' b h1 h2=>?_⟩
  ·cases Lg.mp m; cases et
  ·cases j with
   | zero=>simp at hj; subst hj; exact ⟨none,q,[],rfl,h3q,r.fresh hq0,⟨.inl hq0,r.h0 hq0⟩,.nil⟩
   | succ j=>simp at hj
  ·cases i with
   | zero=>
    cases j with
    | zero=>rfl
    | succ j=>simp at h2
   | succ i=>simp at h1
 show gD tn _ Z (σ.set 1 (some (.ref p))) H3;refine lm ?_;refine st.run hn r.wa m1 (jM e1) fun A2 W2 σ2 H2 s2 t2=>?_;refine lm ?_;obtain ⟨v0,ev,c0⟩:=s2.r.slot 0 _ (iT e2);rw [m0] at c0;replace c0:Ji C.K H2 (fun b=>¬ A2 b) (.tup l) v0:=c0;rw [Ji] at c0;obtain ⟨t,xs,rfl,ht,pl⟩:=c0;refine ⟨_,ev,.inr ⟨⟨xs,ht⟩,Po C mdL A W H t l xs (dR mdL fw fc fk fa) x,⟨_,A2,W2,(ρ1,[(none,[])]),s2,ht,Jj.JH hl pl.Ks,e5,rfl⟩,?_⟩⟩;rintro i m σ5 H5 ⟨A5,W5,y,s5,ht5,pl5,e7,rfl⟩;cases ed:l.drop i with
 | nil=>
  rw [ed] at e7;cases e7;have li:l.length<=i:=by have:=Y9 List.length ed;simp at this;omega
  refine .inl ⟨⟨xs,ht5,by rw [pl5.length]; exact li⟩,?_⟩;obtain ⟨a,ws,G⟩:=s5.gh;refine ⟨_,G.sl,?_⟩;have nx:=lu hx;refine k A5 W5 σ5 (.ref a) H5 s5.g (s5.r.Ml fun i s ei=>(mm i fun z=>by rw [z,nx] at ei; cases ei).symm) (fun j hj=>absurd hj (mh j)) (.inl ?_);refine ⟨a,ws,rfl,G.fa.2,G.ha,?_,G.ki,?_⟩
  ·rw [G.ks,KP]; rfl
  ·have key:∀ (kvs:List (NK × List D)) (ws:List (KA × V)),ws.length=kvs.length->(∀ (j:Nat) (kl:NK × List D),kvs[j]?=some kl->∃ c b xs,ws[j]?=some (c,.ref b)/\H5 b=some (.lst xs)/\(C.H0 b=none/\b ≠ a)/\Jj C.K H5 (fun _=>False) kl.2 xs)->Jj C.K H5 (fun b=>C.H0 b=none/\b ≠ a) (kvs.map fun kv=>D.lst kv.2) (ws.map (·.2)):=by
    intro kvs
    induction kvs with
    | nil=>intro ws hw _; cases ws with
     | nil=>exact .nil
     | cons _ _=>cases hw
    | cons kl r ih=>
     intro ws hw hi;cases ws with
     | nil=>cases hw
     | cons w ws=>obtain ⟨c,b,zs,j1,j2,j3,j4⟩:=hi 0 kl rfl;simp at j1;subst j1;refine .cons ?_ (ih ws (by simpa using hw) fun j kl hj=>hi (j+1) kl hj);rw [Ji];exact ⟨b,zs,rfl,j2,j3,j4.mono fun _ _ o=>o.elim⟩
   rw [KP];refine key _ ws (by simpa using Y9 List.length G.ks) fun j kl hj=>?_;obtain ⟨c,b,zs,j1,j2,j3,j4,j5⟩:=G.inn j kl hj;obtain ⟨ob,ha⟩:=G.ha;exact ⟨c,b,zs,j1,j2,⟨j4.2,fun z=>by rw [z,ha] at j2; cases j2⟩,j5⟩
 | cons d dr=>
  have hd:l[i]?=some d:=by have:=Y9 (fun z:List D=>z[0]?) ed;simpa using this
  have hdr:l.drop (i+1)=dr:=by rw [<- List.drop_drop,ed]; rfl
  obtain ⟨hi,_⟩:=Z9.mp hd;rw [ed] at e7;unfold lh at e7;rw [Z0] at e7;obtain ⟨y2,e8,e9⟩:=e7;obtain ⟨v,hv,pv⟩:=pl5.get hd;refine .inr ⟨⟨xs,v,ht5,hv⟩,fun σ' H'=>∃ m',m' < l.length - i/\Po C mdL A W H t l xs (dR mdL fw fc fk fa) x (i+1) m' σ' H',fun σ' H' z=>z,?_⟩;rintro v' H' ⟨rfl,hv'⟩;have:=hv' xs ht5;rw [hv] at this;cases this;exact xh (x':=y2) hw hc hk ha m1 m3 r.wa s5 (pv.mono fun _ _ o=>o.elim) e8 fun A6 W6 σ6 H6 s6 t6=>⟨l.length - (i+1),by omega,A6,W6,y2,s6,t6 _ _ ht5,pl5.Jp t6 fun _ _ o=>o.elim,by rw [hdr]; exact e9,rfl⟩
def uz:List D->Option Int
 | .int n::r=>(cP r).map (bL n)
 | _=>none
theorem oQ {K:PySem.W.Frag} {H:Hp} {ok:Addr->Prop} {l:List D} {m:Int} {xs:List V} (e:uz l=some m) (r:Jj K H ok l xs):∃ n ns,xs=(n::ns).map V.int/\m=bL n ns:=by
 cases l with
 | nil=>cases e
 | cons d l=>
  cases d with
  | int n=>replace e:(cP l).map (bL n)=some m:=e;rw [Y3] at e;obtain ⟨ns,e1,rfl⟩:=e;obtain ⟨x,t,rfl,h1,h2⟩:=r.cons_inv;rw [Ji] at h1;refine ⟨n,ns,?_,rfl⟩;rw [h1,fG e1 h2];rfl
  | _=>cases e
def lv (i:Nat):ME:=fun ρ=>(L5 (look ρ i)).bind fun kvs=>(uz (kvs.map (·.2))).bind fun n=>some (.val (.int n),ρ)
theorem AV {i:Nat}:LE C md (N6 w6 (bS (w5 (aS i)) dB)) (lv i):=by intro A W ρ σ H Q o ρ' r e k;unfold lv at e;simp only [Z0] at e;obtain ⟨kvs,e0,n,e1,e2⟩:=e;cases e2;have e0:=bN e0;obtain ⟨v,ev,_⟩:=r.slot i _ e0;obtain ⟨a,ob,ws,rfl,c1,_,c2⟩:=r.LP e0 ev;obtain ⟨m,ms,w1,rfl⟩:=oQ e1 c2.vs;refine ⟨_,ev,a,ob,ws,rfl,c1,fun p hp=>?_⟩;have s1:=aw (o:=.ext (Nh p a)) hp;refine ⟨p,a,ob,ws,m,ms,rfl,aj,s1 _ _ c1,w1,k _ _ (Jo.ext s1) (r.same s1) ?_⟩;exact ax (K:=C.K) (H:=upd H p (.ext (Nh p a))) (ok:=fun a=>¬ A a)
def lx (m:List S->Option S) (f:MA):ME:=fun ρ=>(f ρ).bind fun x=>(dO x.2 x.1).bind fun ss=>(m ss).bind fun s=>(L5 (some s)).bind fun kvs=>(uz (kvs.map (·.2))).bind fun n=>some (.val (.int n),x.2)
theorem AW {t:TA} {f:MA} {m:List S->Option S} {E:XK} (h:LA C md t f):LE C md (N6 w6 (bS (w5 (hV (JL C.K m) [] E t)) dB)) (lx m f):=by intro A W ρ σ H Q o ρ' r e k;unfold lx at e;simp -iota only [Z0] at e;obtain ⟨⟨os,ρ1⟩,e1,ss,e2,s,e3,kvs,e4,n,e5,e6⟩:=e;cases e6;cases bN e4;refine h A W ρ σ H _ os ρ1 r e1 fun vs H1 x1 r1 p1=>?_;rw [Ma];refine ⟨ss,_,p1.Lc r1 e2,e3,fun v H2 s2 nn=>?_⟩;obtain ⟨a,ws,rfl,n1,⟨ob,n2⟩,n3⟩:=nn;obtain ⟨m,ms,w1,rfl⟩:=oQ e5 n3.vs;refine ⟨a,ob,ws,rfl,n2,fun p hp=>?_⟩;have s3:=aw (o:=.ext (Nh p a)) hp;refine ⟨p,a,ob,ws,m,ms,rfl,aj,s3 _ _ n2,w1,k _ _ (x1.trans ((Jo.ext s2).trans (Jo.ext s3))) ((r1.same s2).same s3) ?_⟩;exact ax (K:=C.K) (H:=upd H2 p (.ext (Nh p a))) (ok:=fun a=>¬ A a)
theorem Ev.Px (h0:look ρ i=some (.dn kvs)) (h1:uz (kvs.map (·.2))=some n):lv i ρ=some (.val (.int n),ρ):=by unfold lv;simp only [h0,h1,L5,Z1]
theorem Ev.Pk {m:List S->Option S} {f:MA} {os:List Op} {ss:List S} {kvs:List (NK × D)} {n:Int} {ρ ρ1:En} (h1:f ρ=some (os,ρ1)) (h2:dO ρ1 os=some ss) (h3:m ss=some (.dn kvs)) (h4:uz (kvs.map (·.2))=some n):lx m f ρ=some (.val (.int n),ρ1):=by unfold lx;simp only [h1,h2,h3,h4,L5,Z1]
def uA (f:ME) (i:Nat):ME:=fun ρ=>(f ρ).bind fun x=>(res x.2 x.1).bind fun d=>(L9 d).bind fun k=>(L5 (look x.2 i)).bind fun kvs=>some (.val (.bl (aE kvs k).isSome),x.2)
theorem EH (h:LE C md t f):LE C md (LF Hm t (aS i)) (uA f i):=by
 intro A W ρ σ H Q o ρ' r e k;unfold uA at e;simp -iota only [Z0] at e;obtain ⟨⟨o1,ρ1⟩,e1,d,e2,n,e3,kvs,e5,e7⟩:=e;cases e7;refine h A W ρ σ H _ o1 ρ1 r e1 fun v1 H1 x1 r1 p1=>?_;obtain ⟨v,ev,_⟩:=r1.slot i _ (bN e5);obtain ⟨a,ob,ws,rfl,c1,_,c2⟩:=r1.LP (bN e5) ev;obtain ⟨c,rfl,rfl,hc⟩:=oP (p1.get r1 e2) e3;refine ⟨_,ev,a,ob,ws,J2 c,rfl,⟨c1,c2.ki⟩,qt hc,?_⟩;have e:(valN ws (J2 c)).isSome=(aE kvs (J2 c)).isSome:=by
  have:=c2.val (J2 c);cases z:aE kvs (J2 c) with
  | none=>rw [this.2 z]; rfl
  | some u=>obtain ⟨v',w1,_⟩:=this.1 u z; rw [w1]; rfl
 rw [e];refine k _ H1 x1 r1 ?_;exact aW (K:=C.K) (H:=H1) (ok:=fun a=>¬ A a)
end Mir
namespace Mir
open L2
theorem bC (h:n < 1000000):n < sizeLine:=KL h (by decide)
theorem AX (i:Int):cD (some (.int i))=some (.int i):=rfl
theorem EI (i:Bool):cD (some (.bl i))=some (.bl i):=rfl
theorem AY (i:Str):cD (some (.str i))=some (.str i):=rfl
theorem AZ (h:D.JA l=true):cD (some (.tup l))=some (.tup l):=by simp only [cD,D.imm,h,if_true]
theorem oR {α:Type} {f:α->D} (h:∀ a,D.imm (f a)=true):∀ l:List α,D.JA (l.map f)=true
 | []=>rfl
 | a::l=>by rw [Z6,D.JA,h a,oR h l]; rfl
theorem EJ (h:D.JA l=true):kz (.d (.lst l))=some (.d (.lst l)):=by unfold kz; first | rw [Y1 h] | simp [h]
theorem IH (h:0 < j):jq (.int i) (.int j)=some (.int (i % j)):=Y1 h
theorem eQ {α:Type} {l:List α} {i:Int} (h:0<=i/\i < l.length):Ku l i=l[i.toNat]?:=by unfold Ku Mh;rw [Y1 h.1,Y1 h.2]; rfl
theorem xl {l:List Int} {i:Int} (h:0<=i/\i < l.length):Ku (l.map D.int) i=some (.int (l.getD i.toNat 0)):=by
 rw [eQ (by rw [Z2]; exact h),Kb,Z5];have:i.toNat < l.length:=by lia
 rw [Z3 this]; rfl
theorem A4 {v:D} {l:List D} {k:Int} (h:0<=k/\k < l.length):tU (.int k) v (some (.d (.lst l)))=some (.d (.lst (l.set k.toNat v))):=by show (Mh l.length k).map _=_;unfold Mh;rw [Y1 h.1,Y1 h.2]; rfl
theorem II (a b:Int):(a == b)=decide (a=b):=by
 by_cases h:a=b
 ·subst h; simp
 ·simp [h]
theorem eqI (neg:Bool) (i j:Int):JG 4 neg (.int i) (.int j)=some (.bl (if neg then !decide (i=j) else decide (i=j))):=by unfold JG;rw [Y1 (by simp [D.depth])];simp only [D.e1,D.e2,D.e3,D.e4,D.e5,II]
theorem A7 (i j:Int):JG 4 false (.int i) (.int j)=some (.bl (decide (i=j))):=by rw [eqI]; rfl
theorem A8 (i j:Int):JG 4 true (.int i) (.int j)=some (.bl (!decide (i=j))):=by rw [eqI]; rfl
theorem A9 (i j:Str):JG 4 false (.str i) (.str j)=some (.bl (decide (i=j))):=by
 unfold JG;rw [Y1 (by simp [D.depth])];simp [D.e1,D.e2,D.e3,D.e4,D.e5];by_cases h:i=j
 ·subst h; simp
 ·simp [h]
theorem xn (i j:Str):JG 4 true (.str i) (.str j)=some (.bl (!decide (i=j))):=by have:=A9 i j;unfold JG at this ⊢;rw [Y1 (by simp [D.depth])] at this ⊢;simp only [Lk,if_false,Option.some.injEq,D.bl.injEq] at this;simp [this]
theorem bG {α:Type} {f:α->D} {n:Nat} (h:∀ a,D.depth (f a)<=n):∀ l:List α,D.Jz (l.map f)<=n
 | []=>K0 _
 | a::l=>by
  rw [Z6,D.Jz];have:=h a;have:=bG h l;grind
theorem xo {l:List D} (h:D.Jz l<=3):JG 4 true (.lst l) (.lst [])=some (.bl (!l.isEmpty)):=by unfold JG;rw [Y1 (by rw [D.depth]; lia)];cases l <;> rfl
theorem mQ (h:D.Jz l<=3):JG 4 false (.lst l) (.lst [])=some (.bl l.isEmpty):=by unfold JG;rw [Y1 (by rw [D.depth]; omega)];cases l <;> rfl
theorem dU (hg:g d ρ=some ρ1) (hf:f ρ1=some (.nx,ρ2)):bw g f (d::ds) ρ=bw g f ds ρ2:=by simp only [bw,hg,Z1,hf]
theorem xp {α β:Type} {g:MG} {f:MS} {e:α->D} {env:β->En} {step:β->α->β} {P:β->Prop} {l:List α} (hs:∀ b a,a ∈ l->P b->P (step b a)/\∃ ρ1,g (e a) (env b)=some ρ1/\f ρ1=some (.nx,env (step b a))) (b:β) (hb:P b) :
 P (l.foldl step b)/\bw g f (l.map e) (env b)=some (.nx,env (l.foldl step b)):=by
 induction l generalizing b with
 | nil=>exact ⟨hb,rfl⟩
 | cons a l ih=>obtain ⟨h1,ρ1,h2,h3⟩:=hs b a (by simp) hb;obtain ⟨h4,h5⟩:=ih (fun b a ha=>hs b a (by simp [ha])) (step b a) h1;exact ⟨h4,by rw [Z6,dU h2 h3]; exact h5⟩
theorem bA {α β:Type} {g:MG} {f:MS} {e:α->D} {env:β->En} {l:List α} (P:List α->β->Prop) (hs:∀ pre a post b,l=pre++a::post->P pre b->∃ b',P (pre++[a]) b'/\∃ ρ1,g (e a) (env b)=some ρ1/\f ρ1=some (.nx,env b')) (b:β) (hb:P [] b) :
 ∃ b',P l b'/\bw g f (l.map e) (env b)=some (.nx,env b'):=by
 suffices H:∀ (r pre:List α) (b:β),l=pre++r->P pre b->∃ b',P (pre++r) b'/\bw g f (r.map e) (env b)=some (.nx,env b') by
  obtain ⟨b',h1,h2⟩:=H l [] b rfl hb;exact ⟨b',by simpa using h1,h2⟩
 intro r
 induction r with
 | nil=>intro pre b _ h; exact ⟨b,by simpa using h,rfl⟩
 | cons a r ih=>intro pre b hm h;obtain ⟨b1,h1,ρ1,h2,h3⟩:=hs pre a r b hm h;obtain ⟨b',h4,h5⟩:=ih (pre++[a]) b1 (by rw [hm]; simp) h1;exact ⟨b',by simpa using h4,by rw [Z6,dU h2 h3]; exact h5⟩
def ups (lo:Int) (n:Nat):List Int:=(List.range n).map fun (k:Nat)=>lo+(k:Int)
theorem rR (lo:Int) (n:Nat):p9 lo n=(ups lo n).map D.int:=by unfold p9 ups;rw [KP];rfl
theorem mR (h:j ∈ ups lo n):lo<=j/\j < lo+n:=by unfold ups at h;obtain ⟨k,hk,rfl⟩:=Ke.mp h;have:=List.mem_range.mp hk;lia
theorem dj (lo:Int) (n:Nat):(ups lo n).length=n:=by simp [ups]
theorem dW (lo:Int) (n:Nat):ups lo (n+1)=ups lo n++[lo+n]:=by simp [ups,List.range_succ]
theorem cf (h:ups lo n=pre++a::post):a=lo+pre.length/\pre.length < n/\pre=ups lo pre.length:=by
 have hl:=Y9 List.length h;rw [dj,LD,M8] at hl;have ha:(ups lo n)[pre.length]?=some a:=by rw [h]; simp
 have hp:pre.length < n:=by lia
 refine ⟨?_,hp,?_⟩
 ·unfold ups at ha;rw [Kb,List.getElem?_range hp] at ha;simpa using ha.symm
 ·have e:pre=(ups lo n).take pre.length:=by rw [h]; simp
  rw [e];unfold ups;rw [List.length_take,Z2,Yq,<- List.map_take,List.take_range]
  all_goals rw [Nat.min_eq_left (by omega)]
structure Pot where
 ns:List Int
 i:Int
 r:Int
 m:Int
 hi:0<=i
def dr (p:Pot) (n:Int):Int:=(rH p.ns p.i p.r p.m n).1
theorem IJ [Decidable p] (h:¬ p):(!decide p)=true:=by simp [h]
theorem IK [Decidable p] (h:p):(!decide p)=false:=by simp [h]
theorem Hr (i j:Int):aZ (.int i) (.int j)=some (.int (i+j)):=rfl
theorem Hs (i j:Int):kx (.int i) (.int j)=some (.int (i - j)):=rfl
theorem ltI (i j:Int):Lf (.int i) (.int j)=some (.bl (decide (i < j))):=rfl
theorem leI (i j:Int):O5 (.int i) (.int j)=some (.bl (decide (i<=j))):=rfl
theorem gtI (i j:Int):Mg (.int i) (.int j)=some (.bl (decide (j < i))):=rfl
theorem dX {l:List Int} {i:Int} (h:0<=i/\i < l.length):JC (.lst (l.map D.int)) (.int i)=some (.int (l.getD i.toNat 0)):=xl h
theorem IL (l:List D):Ei [.lst l]=some (.tup l):=rfl
theorem uB (l:List D):a7 [.lst l]=some (.int l.length):=rfl
theorem EK (l:List D):a7 [.tup l]=some (.int l.length):=rfl
theorem Ht (h:z.length < 1000000):a7 [.str z]=some (.int z.length):=Y1 (L8 (bC h))
theorem IN (i:Int):dJ (.int i)=some (.int (-i)):=rfl
theorem IO (b:Bool):pZ [.bl b]=some (.int (if b=true then 1 else 0)):=rfl
@[reducible] def ae (p:Int × Int):D:=.tup [.int p.1,.int p.2]
def O2 (p q:Int × Int):Bool:=Srt.bZ [p.1,p.2] [q.1,q.2]
theorem mS (p q:Int × Int):O2 p q=true ↔ p.1 < q.1∨(p.1=q.1/\p.2<=q.2):=by
 unfold O2 Srt.bZ;simp only [HT.aQ,HT.cN];by_cases h1:q.1=p.1
 ·simp only [Y1 h1];by_cases h2:q.2=p.2
  ·simp [h2,h1]
  ·simp only [Y0 h2,h1]; simp; try omega
 ·simp only [Y0 h1]; simp; lia
theorem qv (h:l.length < 64):∃ q:List (Int × Int),q.Perm l/\q.Pairwise (fun a b=>O2 a b=true)/\Srt.iq [.lst (l.map ae)]=some (.lst (q.map ae)):=by
 cases l with
 | nil=>exact ⟨[],List.Perm.refl _,.nil,by unfold Srt.iq; simp [ck,Srt.oE]⟩
 | cons a l=>
  have e1:ck ((a::l).map ae)=none:=rfl;have e0:(a::l).map ae=((a::l).map fun p=>[p.1,p.2]).map Srt.gQ:=by rw [KP]; rfl
  have e2:Srt.fZ ((a::l).map ae)=some ((a::l).map fun p=>[p.1,p.2]):=by rw [e0];exact Srt.oD _ (by intro k hk; obtain ⟨p,_,rfl⟩:=Ke.mp hk; simp)
  generalize a::l=l at *;refine ⟨(Srt.jA (l.map fun p=>[p.1,p.2])).map fun k=>(k.getD 0 0,k.getD 1 0),?_,?_,?_⟩
  ·have:=(Srt.cu (l.map fun p=>[p.1,p.2])).map fun k=>(k.getD 0 0,k.getD 1 0)
   rwa [KP,show (((fun k:List Int=>(k.getD 0 0,k.getD 1 0)) ∘ fun p:Int × Int=>[p.1,p.2]))=id from rfl,List.map_id] at this
  ·rw [List.pairwise_map];refine (List.pairwise_iff_forall_sublist.mpr ?_);intro a b hab;have hr:=List.pairwise_iff_forall_sublist.mp (Srt.jB (l.map fun p=>[p.1,p.2])) hab;have ma:=(Srt.cu _).mem_iff.mp (hab.subset (by simp:a ∈ [a,b]));have mb:=(Srt.cu _).mem_iff.mp (hab.subset (by simp:b ∈ [a,b]));obtain ⟨p,_,rfl⟩:=Ke.mp ma;obtain ⟨q,_,rfl⟩:=Ke.mp mb;exact hr
  ·unfold Srt.iq;simp only [e1,e2,Z1,Z2,Y1 h,Option.some.injEq,D.lst.injEq,KP];apply Yn;intro k hk;obtain ⟨p,_,rfl⟩:=Ke.mp ((Srt.cu _).mem_iff.mp hk);rfl
end Mir
namespace Ev
open L2 Mir
def dq {α:Type} (b:Bool) (x y:α):α:=if b=true then x else y
theorem qw {α:Type} {b:Bool} {x y r:α} (h:b=true) (k:x=r):dq b x y=r:=by rw [h]; exact k
theorem qx {α:Type} {b:Bool} {x y r:α} (h:b=false) (k:y=r):dq b x y=r:=by rw [h]; exact k
theorem top {α:Type} {x:Option (α × En)} {a:α} (h:x=some (a,ρ1)) (k:ρ1=ρ2):x=some (a,ρ2):=by rw [h,k]
theorem turn {g:MG} {f:MS} {d:D} (h1:g d ρ=some ρ1) (h2:f ρ1=some (.nx,ρ2)) (h3:ρ2=ρ3):∃ ρ1,g d ρ=some ρ1/\f ρ1=some (.nx,ρ3):=⟨ρ1,h1,by rw [h2,h3]⟩
theorem fn (h1:(if ss.length=np then rF (mb (cX n ss)) else none)=rF (mb ρ)) (h2:mb ρ=some (.ret s,ρ1)) (h3:s=s'):Kg n np mb ss=some s':=by unfold Kg; rw [h1,h2,h3]; rfl
theorem O7 (h1:(if ss.length=np then ou (mb (cX n ss)) else none)=ou (mb ρ)) (h2:mb ρ=some (.ret s,ρ1)) (h3:look ρ1 0=some s0) (h4:fV s0=some s0') (h5:s=s') (h6:s0'=s0''):iH false n np mb ss=some (s',s0''):=by unfold iH wg; rw [Y0 (by simp),h1,h2,<- h5,<- h6]; show ((look ρ1 0).bind fV).map _=_; rw [h3,Z1,h4]; rfl
theorem var (h:look ρ i=some s):ac i ρ=some (.var i,ρ):=by unfold ac; rw [h]
theorem c:mC d ρ=some (.val d,ρ):=rfl
theorem op (h1:fa ρ=some (x,ρ1)) (h2:fb ρ1=some (y,ρ2)) (h3:res ρ2 x=some d) (h4:res ρ2 y=some e) (h5:g d e=some u):Jn g fa fb ρ=some (.val u,ρ2):=by unfold Jn; simp -iota only [h1,h2,h3,h4,h5,Z1]
theorem un (h1:fa ρ=some (x,ρ1)) (h3:res ρ1 x=some d) (h5:g d=some u):LQ g fa ρ=some (.val u,ρ1):=by unfold LQ; simp -iota only [h1,h3,h5,Z1]
theorem nil:ah ρ=some ([],ρ):=rfl
theorem cons (h1:fa ρ=some (x,ρ1)) (h2:fr ρ1=some (xs,ρ2)):ad fa fr ρ=some (x::xs,ρ2):=by unfold ad; simp -iota only [h1,h2,Z1]
theorem Hu:dg ρ []=some []:=rfl
theorem Hv {o:Op} {os:List Op} {d:D} {ds:List D} (h1:res ρ o=some d) (h2:dg ρ os=some ds):dg ρ (o::os)=some (d::ds):=by unfold dg; simp -iota only [h1,h2,Z1]
theorem Hw:JB md ρ []=some []:=rfl
theorem Hx {o:Op} {os:List Op} {d:D} {ds:List D} (h1:K6 md ρ o=some d) (h2:JB md ρ os=some ds):JB md ρ (o::os)=some (d::ds):=by unfold JB; simp -iota only [h1,h2,Z1]
theorem Hy:dO ρ []=some []:=rfl
theorem Hz {o:Op} {os:List Op} {d:S} {ds:List S} (h1:Ae (GO ρ o)=some d) (h2:dO ρ os=some ds):dO ρ (o::os)=some (d::ds):=by unfold dO; simp -iota only [h1,h2,Z1]
theorem cb {g:List D->Option D} {fa:MA} {os:List Op} {ds:List D} {u:D} (h1:fa ρ=some (os,ρ1)) (h2:dg ρ1 os=some ds) (h3:g ds=some u):Kd g fa ρ=some (.val u,ρ1):=by unfold Kd; simp -iota only [h1,h2,h3,Z1]
theorem tup {fa:MA} {os:List Op} {ds:List D} (h1:fa ρ=some (os,ρ1)) (h2:JB md ρ1 os=some ds) (h3:ds.length < 1000000):cE md fa ρ=some (.val (.tup ds),ρ1):=by unfold cE; simp -iota only [h1,h2,Z1,Y1 (L8 (bC h3))]
theorem lst {fa:MA} {os:List Op} {ds:List D} (h1:fa ρ=some (os,ρ1)) (h2:JB md ρ1 os=some ds) (h3:ds.length < 1000000):fS md fa ρ=some (.val (.lst ds),ρ1):=by unfold fS; simp -iota only [h1,h2,Z1,Y1 (L8 (bC h3))]
theorem IP {fa:MA} {os:List Op} {ds:List D} (h1:fa ρ=some (os,ρ1)) (h2:JB md ρ1 os=some ds) (h3:ds.length < 1000000):bW md fa ρ=some (.d (.lst ds),ρ1):=by unfold bW; simp -iota only [h1,h2,Z1,Y1 (L8 (bC h3))]
theorem isi (h1:fa ρ=some (x,ρ1)) (h2:res ρ1 x=some d):fU k fa ρ=some (.val (.bl (kw (fT d) k)),ρ1):=by unfold fU; simp -iota only [h1,h2,Z1]
theorem HA {m:List S->Option S} {f:MA} {os:List Op} {ss:List S} {d:D} (h1:f ρ=some (os,ρ1)) (h2:dO ρ1 os=some ss) (h3:m ss=some (.d d)):aB m f ρ=some (.val d,ρ1):=by unfold aB; (simp -iota only [h1,h2,h3,Z1,Mi]; exact rfl)
theorem EL {m:List S->Option S} {f:MA} {os:List Op} {ss:List S} {s s':S} (h1:f ρ=some (os,ρ1)) (h2:dO ρ1 os=some ss) (h3:m ss=some s) (h4:kz s=some s'):fY m f ρ=some (s',ρ1):=by unfold fY; simp -iota only [h1,h2,h3,h4,Z1]
theorem HB {i:Nat} {m:List S->Option (S × S)} {f:MA} {os:List Op} {ds:List D} {d:D} {s s0 s0' s1 s1':S} (h0:look ρ i=some s) (h1:f ρ=some (os,ρ1)) (h2:JB md ρ1 os=some ds) (h3:look ρ1 i=some s0) (h4:fV s0=some s0')
 (h5:m (s0'::ds.map S.d)=some (.d d,s1)) (h6:oh s0' s1=some s1') (h7:ρ1.set i (some s1')=ρ2):bR md i m f ρ=some (.val d,ρ2):=by
 unfold bR; (simp -iota only [h0,h1,h2,h3,h4,h5,h6,h7,Z1,Mi]; exact rfl)
theorem append {i:Nat} {f:MA} {os:List Op} {d:D} {l0 l:List D} (h0:look ρ i=some (.d (.lst l0))) (h1:f ρ=some (os,ρ1)) (h2:JB md ρ1 os=some [d]) (h3:look ρ1 i=some (.d (.lst l))) (h4:l.length < 1000000) (h5:ρ1.set i (some (.d (.lst (l++[d]))))=ρ2) :
 bm md i f ρ=some (.val .non,ρ2):=by
 unfold bm; rw [h0]; show ((f ρ).bind _)=_; rw [h1,Z1,h2,Z1,h3]; show (if _ then _ else _)=_; rw [Y1 (bC h4),h5]
theorem pop (h0:look ρ i=some (.d (.lst l))) (h1:l[l.length - 1]?=some d) (h2:ρ.set i (some (.d (.lst l.dropLast)))=ρ1):p7 i ρ=some (.val d,ρ1):=by unfold p7; (simp -iota only [h0,h1,tX,Option.bind_some,h2]; dsimp only; simp -iota only [h0,h1,tX,Option.bind_some,h2])
theorem IQ (h1:fa ρ=some (x,ρ1)) (h2:res ρ1 x=some (.bl b)) (h3:dq b (fb ρ1) (some (.val (.bl false),ρ1))=r):bz fa fb ρ=r:=by unfold bz; simp -iota only [h1,h2,Ld,Z1]; exact h3
theorem orV (h1:fa ρ=some (x,ρ1)) (h2:res ρ1 x=some (.bl b)) (h3:dq b (some (.val (.bl true),ρ1)) (fb ρ1)=r):vV fa fb ρ=r:=by unfold vV; simp -iota only [h1,h2,Ld,Z1]; exact h3
theorem IR (h1:fa ρ=some (x,ρ1)) (h2:res ρ1 x=some (.bl b)):kP fa ρ=some (.val (.bl (!b)),ρ1):=by unfold kP; (simp -iota only [h1,h2,Ld,Z1]; exact rfl)
theorem ifE {c:MT} {fa fb:ME} {b:Bool} {r:Option (Op × En)} (h1:c ρ=some (b,ρ1)) (h3:dq b (fa ρ1) (fb ρ1)=r):MC c fa fb ρ=r:=by unfold MC; simp -iota only [h1,Z1]; exact h3
theorem HC (h1:fa ρ=some (x,ρ1)) (h2:fb ρ1=some (y,ρ2)) (h3:res ρ2 x=some d) (h4:res ρ2 y=some e) (h5:g d e=some (.bl b))
 (h6:dq b (Jn g' (fun _=>some (y,ρ2)) fc ρ2) (some (.val (.bl false),ρ2))=r):jp g g' fa fb fc ρ=r:=by
 unfold jp; simp -iota only [h1,h2,h3,h4,h5,Ld,Z1];rw [<- h6]; unfold dq Jn; rfl
theorem oNo:wt ρ=some (none,ρ):=rfl
theorem HD (h1:f ρ=some (x,ρ1)) (h2:res ρ1 x=some (.int i)):fB f ρ=some (some i,ρ1):=by unfold fB; (simp -iota only [h1,h2,Nu,Z1]; exact rfl)
theorem join {z:Str} {f:MA} {os:List Op} {ds:List D} {u:D} (h1:f ρ=some (os,ρ1)) (h2:dg ρ1 os=some ds) (h3:ww z ds=some u):oz z f ρ=some (.val u,ρ1):=by unfold oz; simp -iota only [h1,h2,h3,Z1]
theorem IS (h:look ρ i=some (.scr ns)):kX i ρ=some (.val (.int ns.length),ρ):=by unfold kX; (simp -iota only [h,qc,Z1]; exact rfl)
theorem ixS (h0:look ρ i=some (.scr ns0)) (h1:f ρ=some (x,ρ1)) (h2:res ρ1 x=some (.int j)) (h3:look ρ1 i=some (.scr ns)) (h4:Ku ns j=some n):wz i f ρ=some (.val (.int n),ρ1):=by unfold wz; (simp -iota only [h0,h1,h2,h3,h4,qc,Nu,Option.bind_some]; dsimp only; simp -iota only [h0,h1,h2,h3,h4,qc,Nu,Option.bind_some])
theorem tb (h1:fa ρ=some (x,ρ1)) (h2:res ρ1 x=some (.bl b)):mB fa ρ=some (b,ρ1):=by unfold mB; (simp -iota only [h1,h2,Ld,Z1]; exact rfl)
theorem and (h1:fa ρ=some (b,ρ1)) (h3:dq b (fb ρ1) (some (false,ρ1))=r):pY fa fb ρ=r:=by unfold pY; simp -iota only [h1,Z1]; exact h3
theorem or (h1:fa ρ=some (b,ρ1)) (h3:dq b (some (true,ρ1)) (fb ρ1)=r):Lq fa fb ρ=r:=by unfold Lq; simp -iota only [h1,Z1]; exact h3
theorem not (h1:fa ρ=some (b,ρ1)):eX fa ρ=some (!b,ρ1):=by unfold eX; simp -iota only [h1,Z1]
theorem tru (h1:f ρ=some (x,ρ1)) (h2:res ρ1 x=some d) (h3:Ej d=some b):fD f ρ=some (b,ρ1):=by unfold fD; simp -iota only [h1,h2,h3,Z1]
def c3 (g' g'':D->D->Option D) (y:Op) (fc fd:ME):MT:=fun ρ=>(fc ρ).bind fun z=>(res z.2 y).bind fun e=>(res z.2 z.1).bind fun h=>(g' e h).bind fun u=>(Ld u).bind fun b=>if b=true then (fd z.2).bind fun w=>(res w.2 z.1).bind fun h=>(res w.2 w.1).bind fun k=>(g'' h k).bind fun u=>(Ld u).bind fun b=>some (b,w.2) else some (false,z.2)
theorem EM (h1:fa ρ=some (x,ρ1)) (h2:fb ρ1=some (y,ρ2)) (h3:res ρ2 x=some d) (h4:res ρ2 y=some e) (h5:g d e=some (.bl b))
 (h6:dq b (c3 g' g'' y fc fd ρ2) (some (false,ρ2))=r):dh g g' g'' fa fb fc fd ρ=r:=by
 unfold dh; simp -iota only [h1,h2,h3,h4,h5,Z1,show Ld (.bl b)=some b from rfl];rw [<- h6]; rfl
theorem c3r (h1:fc ρ=some (z,ρ1)) (h2:res ρ1 y=some e) (h3:res ρ1 z=some h) (h4:g' e h=some (.bl b))
 (h5:dq b (mB (Jn g'' (fun _=>some (z,ρ1)) fd) ρ1) (some (false,ρ1))=r):c3 g' g'' y fc fd ρ=r:=by
 unfold c3; simp -iota only [h1,h2,h3,h4,Z1,show Ld (.bl b)=some b from rfl];rw [<- h5];unfold dq mB Jn;cases b with
 | false=>rfl
 | true=>
  simp -iota only [if_true,Z1];cases fd ρ1 with
  | none=>rfl
  | some w=>
   simp -iota only [Z1];cases res w.2 z with
   | none=>rfl
   | some a1=>
    simp -iota only [Z1];cases res w.2 w.1 with
    | none=>rfl
    | some a2=>
     simp -iota only [Z1];cases g'' a1 a2 <;> rfl
theorem next:ba ρ=some (.nx,ρ):=rfl
def after (fl:Fl) (x y:Option (Fl × En)):Option (Fl × En):=match fl with
 | .nx=>x
 | _=>y
theorem xq (h1:f ρ=some (fl,ρ1)) (h2:after fl (g ρ1) (some (fl,ρ1))=r):ay f g ρ=r:=by unfold ay; simp -iota only [h1,Z1];cases fl <;> exact h2
theorem jN (h:x=r):after .nx x y=r:=h
theorem EN (h:y=r):after (.ret s) x y=r:=h
theorem kil (h1:f ρ=some (fl,ρ1)) (h2:kill ks ρ1=ρ2):am ks f ρ=some (fl,ρ2):=by unfold am; simp -iota only [h1,Z1,h2]
theorem drop (h1:f ρ=some (x,ρ1)):cI f ρ=some (.nx,ρ1):=by unfold cI; simp -iota only [h1,Z1]
theorem asg (h1:f ρ=some (x,ρ1)) (h2:K6 md ρ1 x=some d) (h3:g d ρ1=some ρ2):aK md f g ρ=some (.nx,ρ2):=by unfold aK; simp -iota only [h1,h2,h3,Z1]
theorem IT (h1:f ρ=some (s,ρ1)) (h2:ρ1.set i (some s)=ρ2):bB f i ρ=some (.nx,ρ2):=by unfold bB; simp -iota only [h1,h2,Z1]
theorem ifS {c:MT} {f g:MS} {b:Bool} {r:Option (Fl × En)} (h1:c ρ=some (b,ρ1)) (h2:dq b (f ρ1) (g ρ1)=r):bE c f g ρ=r:=by unfold bE; simp -iota only [h1,Z1]; exact h2
theorem ret (h1:f ρ=some (x,ρ1)) (h2:res ρ1 x=some d) (h3:cD (some d)=some d'):aO f ρ=some (.ret (.d d'),ρ1):=by unfold aO; simp -iota only [h1,h2,h3,Z1]
theorem EO (h1:f ρ=some (s,ρ1)) (h2:kz s=some s'):cJ f ρ=some (.ret s',ρ1):=by unfold cJ; simp -iota only [h1,h2,Z1]
theorem IU (h1:look ρ i=some s) (h2:kz s=some s'):kS i ρ=some (.ret s',ρ):=by unfold kS; simp -iota only [h1,h2,Z1]
theorem par {i j:Nat} {f:MA} {os:List Op} {d e:D} (h1:f ρ=some (os,ρ1)) (h2:JB md ρ1 os=some [d,e]) (h3:(ρ1.set i (some (.d d))).set j (some (.d e))=ρ2):t9 md i j f ρ=some (.nx,ρ2):=by unfold t9; rw [h1,Z1,h2,Z1]; exact h3 ▸ rfl
theorem aug (h0:look ρ i=some (.d (.int a))) (h1:f ρ=some (x,ρ1)) (h2:res ρ1 x=some (.int b)) (h3:ρ1.set i (some (.d (.int (g a b))))=ρ2):wD i g f ρ=some (.nx,ρ2):=by unfold wD; simp only [h0,h1,h2,h3,Mi,Nu,Z1]
theorem IV (h1:fi ρ=some (l,ρ1)) (h2:bw fg fb l ρ1=r):cp fi fg fb ρ=r:=by unfold cp; simp -iota only [h1,Z1]; exact h2
theorem IW {f:MA} {os:List Op} {j:Int} (h1:f ρ=some (os,ρ1)) (h2:dg ρ1 os=some [.int j]) (h3:j < 4611686018427387904/\-4611686018427387904<=j):dN f ρ=some ((ups 0 j.toNat).map D.int,ρ1):=by unfold dN; rw [h1,Z1,h2,Z1]; show (if _ then _ else _)=_;rw [Y1 ⟨by have:=h3.2; omega,by have:=h3.1; omega⟩,rR]
theorem IX {f:MA} {os:List Op} {i j:Int} (h1:f ρ=some (os,ρ1)) (h2:dg ρ1 os=some [.int i,.int j]) (h3:(j < 4611686018427387904/\-4611686018427387904<=j)/\(i < 4611686018427387904/\-4611686018427387904<=i)):kT f ρ=some ((ups i (j - i).toNat).map D.int,ρ1):=by unfold kT; rw [h1,Z1,h2,Z1]; show (if _ then _ else _)=_;have:=h3.1.1; have:=h3.1.2; have:=h3.2.1; have:=h3.2.2;rw [Y1 ⟨by omega,by omega,by omega,by omega⟩,rR]
theorem IY (h1:f ρ=some (x,ρ1)) (h2:K6 md ρ1 x=some d) (h3:D7 d=some l):cK md f ρ=some (l,ρ1):=by unfold cK; simp -iota only [h1,h2,h3,Z1]
theorem nop (h1:fa ρ=some (x,ρ1)) (h2:fb ρ1=some (y,ρ2)) (h3:res ρ2 x=some d) (h4:res ρ2 y=some e) (h5:g d e=some (.lst l)):qf g fa fb ρ=some (.d (.lst l),ρ2):=by unfold qf; (simp -iota only [h1,h2,h3,h4,h5,Z1]; exact rfl)
theorem dE (h:ρ.set i (some (.d d))=ρ1):af i d ρ=some ρ1:=by unfold af; rw [h]
theorem pj (h:l.length=n) (k:g l ρ=some ρ1):a9 n g (.tup l) ρ=some ρ1:=by unfold a9; simp only [Y1 h]; exact k
theorem yN:be [] ρ=some ρ:=rfl
theorem qS (h:f d ρ=some ρ1) (k:g ds ρ1=some ρ2):az f g (d::ds) ρ=some ρ2:=by unfold az; simp only [h,Z1]; exact k
theorem lW (h0:look ρ x=some s0) (h1:fi ρ=some (y,ρ1)) (h2:res ρ1 y=some i) (h3:look ρ1 x=o) (h4:tU i d o=some s) (h5:ρ1.set x (some s)=ρ2):dM md x fi d ρ=some ρ2:=by unfold dM; simp -iota only [h0,h1,h2,h3,h4,h5,Z1]
theorem IZ (h0:look ρ i=some (.dc kvs0)) (h1:f ρ=some (x,ρ1)) (h2:res ρ1 x=some (.tup l)) (h3:b5 l=some k) (h4:look ρ1 i=some (.dc kvs)) (h5:aE kvs k=some u):gf i f ρ=some (.val u,ρ1):=by unfold gf; (simp -iota only [h0,h1,h2,h3,h4,h5,LK,oH,Option.bind_some]; dsimp only; simp -iota only [h0,h1,h2,h3,h4,h5,LK,oH,Option.bind_some])
theorem EQ {m:List S->Option S} {fa:MA} {f:ME} {os:List Op} {ss:List S} {kvs:List (List Key × D)} {x:Op} {l:List D} {k:List Key} {u u':D} (h1:fa ρ=some (os,ρ1)) (h2:dO ρ1 os=some ss) (h3:m ss=some (.dc kvs)) (h4:f ρ1=some (x,ρ2)) (h5:res ρ2 x=some (.tup l)) (h6:b5 l=some k) (h7:aE kvs k=some u) (h8:cD (some u)=some u') :
 gj m fa f ρ=some (.val u',ρ2):=by
 unfold gj; (simp -iota only [h1,h2,h3,h4,h5,h6,h7,h8,LK,oH,Option.bind_some]; dsimp only; simp -iota only [h1,h2,h3,h4,h5,h6,h7,h8,LK,oH,Option.bind_some])
theorem HE {x:Nat} {fa:MA} {d:D} {os:List Op} {ds:List D} {k:List Key} {kvs0 kvs:List (List Key × D)} (h0:look ρ x=some (.dc kvs0)) (h1:fa ρ=some (os,ρ1)) (h2:JB md ρ1 os=some ds) (h3:b5 ds=some k) (h4:look ρ1 x=some (.dc kvs)) (h5:ds.length < 1000000) (h6:kvs.length < 1000000) (h7:ρ1.set x (some (.dc (gb kvs k d)))=ρ2) :
 fF md x fa d ρ=some ρ2:=by
 unfold fF; (simp -iota only [h0,h1,h2,h3,h4,LK,Option.bind_some]; dsimp only; simp -iota only [h0,h1,h2,h3,h4,LK,Option.bind_some]);rw [Y1 ⟨L8 (bC h5),bC h6⟩,h7]
theorem HF {i:Nat} {fa:MA} {fv:ME} {os:List Op} {ds:List D} {k:List Key} {x:Op} {d:D} (h1:fa ρ=some (os,ρ1)) (h2:JB md ρ1 os=some ds) (h3:b5 ds=some k) (h4:fv ρ1=some (x,ρ2)) (h5:K6 md ρ2 x=some d) (h6:ds.length < 1000000) (h7:ρ2.set i (some (.dc [(k,d)]))=ρ3) :
 jF md i fa fv ρ=some (.nx,ρ3):=by
 unfold jF; simp -iota only [h1,h2,h3,h4,h5,Z1];rw [Y1 (L8 (bC h6)),h7]
theorem HG (h1:look ρ i=some (.dc kvs)) (h2:D.JA (kvs.map (·.2))=true):jG i ρ=some (.ret (.dc kvs),ρ):=by unfold jG; (simp -iota only [h1,LK,Option.bind_some,if_pos h2]; dsimp only; simp -iota only [h1,LK,Option.bind_some,if_pos h2])
theorem ER:Ka md ρ []=some []:=rfl
theorem ES {o:Op} {os:List Op} {d:D} {ds:List D} (h1:Ly md ρ o=some d) (h2:Ka md ρ os=some ds):Ka md ρ (o::os)=some (d::ds):=by unfold Ka; simp -iota only [h1,h2,Z1]
theorem Ba (hm:ai md i=.ow) (h:look ρ i=some (.d (.lst l))) (hi:D.JA l=true):Ly md ρ (.var i)=some (.lst l):=by show Av (ai md i) (look ρ i)=_;rw [hm,h]; exact Y1 hi
theorem I9 {f:MA} {os:List Op} {ds:List D} (h1:f ρ=some (os,ρ1)) (h2:Ka md ρ1 os=some ds) (h3:ds.length < 1000000):oJ md f ρ=some (.ret (.d (.tup ds)),ρ1):=by unfold oJ; simp -iota only [h1,h2,Z1,Y1 (L8 (bC h3))]
theorem HH:qo ρ=some (.dc [],ρ):=rfl
def gp (lo:Int) (n:Nat):List Int:=(List.range n).map fun (k:Nat)=>lo+n - 1 - (k:Int)
theorem uC (lo:Int) (n:Nat):uj lo n=(gp lo n).map D.int:=by unfold uj gp;rw [KP];rfl
theorem Ja {f:MA} {os:List Op} {j:Int} (h1:f ρ=some (os,ρ1)) (h2:dg ρ1 os=some [.int j]) (h3:j < 4611686018427387904/\-4611686018427387904<=j):oI f ρ=some ((gp 0 j.toNat).map D.int,ρ1):=by unfold oI; rw [h1,Z1,h2,Z1]; show (if _ then _ else _)=_;rw [Y1 ⟨by have:=h3.2; omega,by have:=h3.1; omega⟩,uC]
theorem Cv {f:MA} {os:List Op} {i j c:Int} (h1:f ρ=some (os,ρ1)) (h2:dg ρ1 os=some [.int i,.int j,.int c]) (h3:gU i j c):oK f ρ=some (iu i c (ir i j c),ρ1):=by unfold oK; rw [h1,Z1,h2,Z1]; show (if _ then _ else _)=_;rw [Y0 (fun z=>absurd z.2.2.2.2.1 (Int.not_lt.mpr (Int.le_of_lt h3.2.2.2.2.1)))]; exact Y1 h3
theorem oS (h:gp lo n=pre++a::post):a=lo+n - 1 - pre.length/\pre.length < n:=by
 have hl:=Y9 List.length h;rw [LD,M8] at hl;simp -iota only [gp,Z2,Yq] at hl;have hp:pre.length < n:=by omega
 have ha:(gp lo n)[pre.length]?=some a:=by rw [h]; simp
 unfold gp at ha;rw [Kb,List.getElem?_range hp] at ha;exact ⟨by simpa using ha.symm,hp⟩
theorem comp (h1:fi ρ=some (l,ρ1)) (h2:kA nt ix ρ1=ρi) (h3:lp l ρi []=some (ρI,as)) (h4:wb kp nt ix ρI ρ1=ρ2):fh nt ix kp fi lp ρ=some (.val (.lst as),ρ2):=by unfold fh; simp -iota only [h1,h2,h3,h4,Z1]
theorem Bb (h1:f ρ=some (x,ρ1)) (h2:K6 md ρ1 x=some d) (h3:as.length < 1000000):bX md f ρ as=some (ρ1,as++[d]):=by unfold bX; simp -iota only [h1,h2,Z1,Y1 (bC h3)]
def mT (g:MG) (ft:MT) (fb:MB) (d:D) (ρ:En) (as:List D) (ρ':En) (as':List D):Prop:=∃ ρ1 ρ2 b,g d ρ=some ρ1/\ft ρ1=some (b,ρ2)/\((b=true/\fb ρ2 as=some (ρ',as'))∨(b=false/\ρ'=ρ2/\as'=as))
theorem Bc (h:mT g ft fb d ρ as ρ' as'):K5 g ft fb (d::ds) ρ as=K5 g ft fb ds ρ' as':=by
 obtain ⟨r1,r2,b,h1,h2,h3⟩:=h;show ((g d ρ).bind fun r1=>(ft r1).bind fun y=>if y.1=true then (fb y.2 as).bind fun z=>K5 g ft fb ds z.1 z.2 else K5 g ft fb ds y.2 as)=_;simp -iota only [h1,h2,Z1];rcases h3 with ⟨rfl,h3⟩ | ⟨rfl,rfl,rfl⟩
 ·simp -iota only [if_true,h3,Z1]
 ·simp -iota only [Lk,if_false]
theorem qy {α β:Type} {g:MG} {ft:MT} {fb:MB} {e:α->D} {env:β->En} {l:List α} (P:List α->β->List D->Prop) (hs:∀ pre a post b as,l=pre++a::post->P pre b as->∃ b' as',P (pre++[a]) b' as'/\mT g ft fb (e a) (env b) as (env b') as') (b:β) (as:List D) (hb:P [] b as) :
 ∃ b' as',P l b' as'/\K5 g ft fb (l.map e) (env b) as=some (env b',as'):=by
 suffices H:∀ (r pre:List α) (b:β) (as:List D),l=pre++r->P pre b as->∃ b' as',P (pre++r) b' as'/\K5 g ft fb (r.map e) (env b) as=some (env b',as') by
  obtain ⟨b',as',h1,h2⟩:=H l [] b as rfl hb;exact ⟨b',as',by simpa using h1,h2⟩
 intro r
 induction r with
 | nil=>intro pre b as _ h; exact ⟨b,as,by simpa using h,rfl⟩
 | cons a r ih=>intro pre b as hm h;obtain ⟨b1,as1,h1,h2⟩:=hs pre a r b as hm h;obtain ⟨b',as',h4,h5⟩:=ih (pre++[a]) b1 as1 (by rw [hm]; simp) h1;exact ⟨b',as',by simpa using h4,by rw [Z6,Bc h2]; exact h5⟩
theorem xr (h1:g d ρ=some ρ1) (h2:ft ρ1=some (true,ρ2)) (h3:fb ρ2 as=some (ρ3,as')) (h4:ρ3=ρ4):mT g ft fb d ρ as ρ4 as':=⟨ρ1,ρ2,true,h1,h2,.inl ⟨rfl,by rw [<- h4]; exact h3⟩⟩
theorem HI (h1:g d ρ=some ρ1) (h2:ft ρ1=some (false,ρ2)) (h4:ρ2=ρ4):mT g ft fb d ρ as ρ4 as:=⟨ρ1,ρ2,false,h1,h2,.inr ⟨rfl,h4.symm,rfl⟩⟩
theorem xt {α:Type} {md:List Md} {f:ME} {e h:α->D} {r:En} {l:List α} (hf:∀ a ∈ l,∃ o,f (some (.d (e a))::r)=some (o,some (.d (e a))::r)/\K6 md (some (.d (e a))::r) o=some (h a)) (hl:l.length < 1000000) (x:Option S) :
 ∃ y,K5 (af 0) ml (bX md f) (l.map e) (x::r) []=some (y::r,l.map h):=by
 obtain ⟨y,as,⟨p1,_⟩,p2⟩:=qy (g:=af 0) (ft:=ml) (fb:=bX md f) (e:=e) (env:=fun y:Option S=>y::r) (l:=l) (fun pre _ as=>as=pre.map h/\pre.length<=l.length)
  (fun pre a post b as hsp hp=>by
   obtain ⟨o,h1,h2⟩:=hf a (by rw [hsp]; simp);have hlen:=Y9 List.length hsp;simp at hlen;refine ⟨some (.d (e a)),as++[h a],⟨by rw [hp.1]; simp,by simp; omega⟩,xr (ρ1:=some (.d (e a))::r) (ρ2:=some (.d (e a))::r) rfl rfl (Bb h1 h2 (by rw [hp.1,Z2]; omega)) rfl⟩) x [] ⟨rfl,K0 _⟩
 exact ⟨y,by rw [<- p1]; exact p2⟩
theorem uD {α:Type} {md:List Md} {ft:MT} {f:ME} {e h:α->D} {c:α->Bool} {r:En} {l:List α} (ht:∀ a ∈ l,ft (some (.d (e a))::r)=some (c a,some (.d (e a))::r)) (hf:∀ a ∈ l,c a=true->∃ o,f (some (.d (e a))::r)=some (o,some (.d (e a))::r)/\K6 md (some (.d (e a))::r) o=some (h a)) (hl:l.length < 1000000) (x:Option S) :
 ∃ y,K5 (af 0) ft (bX md f) (l.map e) (x::r) []=some (y::r,(l.filter c).map h):=by
 obtain ⟨y,as,⟨p1,_⟩,p2⟩:=qy (g:=af 0) (ft:=ft) (fb:=bX md f) (e:=e) (env:=fun y:Option S=>y::r) (l:=l) (fun pre _ as=>as=(pre.filter c).map h/\pre.length<=l.length)
  (fun pre a post b as hsp hp=>by
   have ha:a ∈ l:=by rw [hsp]; simp
   have hlen:=Y9 List.length hsp;simp at hlen;have hfl:=NS c pre;cases hc:c a with
   | true=>obtain ⟨o,h1,h2⟩:=hf a ha hc;exact ⟨some (.d (e a)),as++[h a],⟨by rw [hp.1]; simp -iota [Ye,hc],by simp; omega⟩,xr (ρ1:=some (.d (e a))::r) (ρ2:=some (.d (e a))::r) rfl (by rw [ht a ha,hc]) (Bb h1 h2 (by rw [hp.1,Z2]; omega)) rfl⟩
   | false=>exact ⟨some (.d (e a)),as,⟨by rw [hp.1]; simp -iota [Ye,hc],by simp; omega⟩,HI (ρ1:=some (.d (e a))::r) (ρ2:=some (.d (e a))::r) rfl (by rw [ht a ha,hc]) rfl⟩) x [] ⟨rfl,K0 _⟩
 exact ⟨y,by rw [<- p1]; exact p2⟩
theorem rS {α:Type} {md:List Md} {f:ME} {e1 e2 h:α->D} {r:En} {l:List α} (hf:∀ a ∈ l,∃ o,f (some (.d (e1 a))::some (.d (e2 a))::r)=some (o,some (.d (e1 a))::some (.d (e2 a))::r)/\K6 md (some (.d (e1 a))::some (.d (e2 a))::r) o=some (h a)) (hl:l.length < 1000000) (x y:Option S) :
 ∃ x' y',K5 (a9 2 (az (af 0) (az (af 1) be))) ml (bX md f) (l.map fun a=>.tup [e1 a,e2 a]) (x::y::r) []=some (x'::y'::r,l.map h):=by
 obtain ⟨b,as,⟨p1,_⟩,p2⟩:=qy (g:=a9 2 (az (af 0) (az (af 1) be))) (ft:=ml) (fb:=bX md f) (e:=fun a=>.tup [e1 a,e2 a]) (env:=fun b:Option S × Option S=>b.1::b.2::r) (l:=l) (fun pre _ as=>as=pre.map h/\pre.length<=l.length)
  (fun pre a post b as hsp hp=>by
   obtain ⟨o,h1,h2⟩:=hf a (by rw [hsp]; simp);have hlen:=Y9 List.length hsp;simp at hlen;exact ⟨(some (.d (e1 a)),some (.d (e2 a))),as++[h a],⟨by rw [hp.1]; simp,by simp; omega⟩,xr (ρ1:=some (.d (e1 a))::some (.d (e2 a))::r) (ρ2:=some (.d (e1 a))::some (.d (e2 a))::r) rfl rfl (Bb h1 h2 (by rw [hp.1,Z2]; omega)) rfl⟩) (x,y) [] ⟨rfl,K0 _⟩
 exact ⟨b.1,b.2,by rw [<- p1]; exact p2⟩
def jO {α:Type} (c:α->Option S):List α->Option S
 | []=>none
 | a::l=>match c a with
  | some s=>some s
  | none=>jO c l
theorem jP {α:Type} {g:MG} {f:MS} {e:α->D} {ρ:En} {c:α->Option S} {l:List α} (hs:∀ a ∈ l,∃ ρ1,g (e a) ρ=some ρ1/\(match c a with | some s=>∃ ρ2,f ρ1=some (.ret s,ρ2) | none=>f ρ1=some (.nx,ρ))) :
 (∀ s,jO c l=some s->∃ ρ2,bw g f (l.map e) ρ=some (.ret s,ρ2))/\(jO c l=none->bw g f (l.map e) ρ=some (.nx,ρ)):=by
 induction l with
 | nil=>exact ⟨fun s h=>(by cases h),fun _=>rfl⟩
 | cons a l ih=>
  obtain ⟨r1,h1,h2⟩:=hs a (by simp);obtain ⟨i1,i2⟩:=ih fun b hb=>hs b (by simp -iota [hb]);cases e:c a with
  | some s=>
   rw [e] at h2;obtain ⟨r2,h2⟩:=h2;refine ⟨fun s' h=>?_,fun h=>by simp -iota [jO,e] at h⟩;have:s'=s:=by simpa [jO,e] using h.symm
   subst this;exact ⟨r2,by (simp -iota only [Z6,Mir.bw,h1,Z1,h2]; exact rfl)⟩
  | none=>
   rw [e] at h2;refine ⟨fun s' h=>?_,fun h=>?_⟩
   ·obtain ⟨r2,h3⟩:=i1 s' (by simpa [jO,e] using h);exact ⟨r2,by rw [Z6,dU h1 h2]; exact h3⟩
   ·rw [Z6,dU h1 h2]; exact i2 (by simpa [jO,e] using h)
end Ev
namespace Mir
open L2
theorem jQ (k j:List Key) (d:D):∀ kvs:List (List Key × D),aE (kvs.map fun kv=>if kv.1=k then (kv.1,d) else kv) j=if j=k then (aE kvs j).map (fun _=>d) else aE kvs j
 | []=>by simp -iota [aE]
 | (k',d')::r=>by
  rw [Z6];by_cases e:k'=k
  ·simp -iota only [Y1 e,aE];by_cases e2:k'=j
   ·rw [Y1 e2,Y1 e2,Y1 (by rw [<- e2,e])]; rfl
   ·rw [Y0 e2,Y0 e2,jQ k j d r]
  ·simp -iota only [Y0 e,aE];by_cases e2:k'=j
   ·rw [Y1 e2,Y1 e2,Y0 (by rw [<- e2]; exact e)]
   ·rw [Y0 e2,Y0 e2,jQ k j d r]
theorem ly (k j:List Key) (d:D):∀ kvs:List (List Key × D),aE kvs k=none->aE (kvs++[(k,d)]) j=if j=k then some d else aE kvs j
 | [],_=>by
  simp -iota only [List.nil_append,aE];by_cases e:k=j
  ·rw [Y1 e,Y1 e.symm]
  ·rw [Y0 e,Y0 (YI e)]
 | (k',d')::r,h=>by
  simp -iota only [OC,aE] at h ⊢;by_cases e:k'=k
  ·rw [Y1 e] at h; cases h
  ·rw [Y0 e] at h;by_cases e2:k'=j
   ·rw [Y1 e2,Y1 e2,Y0 (by rw [<- e2]; exact e)]
   ·rw [Y0 e2,Y0 e2,ly k j d r h]
theorem dY (kvs:List (List Key × D)) (k j:List Key) (d:D):aE (gb kvs k d) j=if j=k then some d else aE kvs j:=by
 unfold gb;split
 ·rw [jQ];by_cases e:j=k
  ·subst e;rw [Y1 rfl,Y1 rfl];obtain ⟨x,hx⟩:=Option.isSome_iff_exists.mp (by assumption);rw [hx]; rfl
  ·rw [Y0 e,Y0 e]
 ·exact ly k j d kvs (by rename_i h; cases e:aE kvs k with | none=>rfl | some x=>rw [e] at h; simp at h)
theorem jR (kvs:List (List Key × D)) (k:List Key) (d:D):(gb kvs k d).length<=kvs.length+1:=by
 unfold gb;split
 ·simp
 ·simp
theorem gX {P:D->Prop} {kvs:List (List Key × D)} {k:List Key} {d:D} (h:∀ kv ∈ kvs,P kv.2) (hd:P d):∀ kv ∈ gb kvs k d,P kv.2:=by
 intro kv hm;unfold gb at hm;split at hm
 ·obtain ⟨kv',h1,rfl⟩:=Ke.mp hm;split
  ·exact hd
  ·exact h _ h1
 ·rcases Kk.mp hm with h1 | h1
  ·exact h _ h1
  ·have:kv=(k,d):=by simpa using h1
   rw [this]; exact hd
theorem Bd (h:∀ d ∈ l,D.imm d=true):D.JA l=true:=by
 induction l with
 | nil=>rfl
 | cons a l ih=>rw [D.JA,h a (by simp),ih fun d hd=>h d (by simp -iota [hd])]; rfl
end Mir
namespace Mir
theorem ET:wb [] nt ix ρI ρ=ρ:=rfl
theorem HJ (a b:Int):b5 [.int a,.int b]=some [Sum.inl a,Sum.inl b]:=rfl
theorem xu (l:List Int):zG [.lst (l.map L2.D.int)]=some (.int l.sum):=by show (ck (l.map L2.D.int)).map _=_;rw [of]; rfl
end Mir
namespace Mir
open L2
def HK:List Md:=[.pl]
def gq:MS:=aO (bz (fU "int" (ac 0)) (kP (fU "bool" (ac 0))))
def xx:List S->Option S:=Kg 1 1 gq
def HL:List Md:=[.pl,.pl,.pl]
def fm:MS:=aO (bz (fU "tuple" (ac 0)) (jp O5 O5 (ac 1) (Kd a7 (ad (ac 0) ah)) (ac 2)))
def Be:List S->Option S:=Kg 3 3 fm
def HN:List Md:=[.pl,.pl]
def lz:MS:=aO (bz (Jn Lf (Jn JC (ac 1) (mC (.int 0))) (Jn JC (ac 0) (mC (.int 0)))) (vV (Jn Lf (Jn JC (ac 1) (mC (.int 1))) (Jn JC (ac 0) (mC (.int 0)))) (Jn Lf (Jn JC (ac 0) (mC (.int 1))) (Jn JC (ac 1) (mC (.int 1))))))
def xy:List S->Option S:=Kg 2 2 lz
def jS:List Md:=[.pl,.pl,.ow,.pl,.pl]
def iV:MS:=ay (aK jS (ac 4) (dM jS 2 (ac 3))) (am [3,4] (aK jS (ac 3) (dM jS 2 (ac 4))))
def rT:MS:=ay (am [0] (bB (qf wq (fS jS (ad (mC (.int (-1))) ah)) (ac 0)) 2)) (ay (am [1,3,4] (cp (cK jS (ac 1)) (a9 2 (az (af 3) (az (af 4) be))) iV)) (kS 2))
def Bf:List S->Option S:=Kg 5 2 rT
def HQ:List Md:=[.pl]
def rV:MS:=aO (oM (mC (.str ("abcdefghijklmnopqrstuvwxyz":Str))) wt (fB (Jn cF (mC (.int 2)) (ac 0))))
def Bg:List S->Option S:=Kg 1 1 rV
def Cw:List Md:=[.pl,.pl]
def oT:MS:=ay (am [0] (aK Cw (oO (mC (.str ("abcdefghijklmnopqrstuvwxyz":Str))) (ac 0)) (af 1))) (aO (MC (mB (Jn (JG 4 false) (Jn jq (ac 1) (mC (.int 2))) (mC (.int 0)))) (Jn JC (mC (.str ("abcdefghijklmnopqrstuvwxyz":Str))) (Jn aZ (ac 1) (mC (.int 1)))) (Jn JC (mC (.str ("abcdefghijklmnopqrstuvwxyz":Str))) (Jn kx (ac 1) (mC (.int 1))))))
def mU:List S->Option S:=Kg 2 1 oT
def bH:List Md:=[.pl,.pl,.pl,.pl,.pl,.pl]
def dZ:MS:=ay (am [5] (aK bH (Jn jq (Jn aZ (Jn aZ (Jn aZ (Jn cF (ac 3) (ac 3)) (Jn cF (mC (.int 69069)) (ac 3))) (ac 5)) (mC (.int 1))) (mC (.int 2147483629))) (af 3))) (aK bH (Jn aZ (Jn cF (ac 4) (mC (.int 2147483629))) (ac 3)) (af 4))
def jT:MS:=ay (aK bH (Jn aZ (Jn cF (mC (.int 7)) (ac 1)) (mC (.int 5))) (af 2)) (ay (am [0] (bE (mB (Jn Lf (ac 1) (kX 0))) (am [0] (aK bH (wz 0 (ac 1)) (af 2))) (ba))) (ay (bE (mB (Jn (JG 4 false) (Jn jq (ac 2) (mC (.int 3))) (mC (.int 0)))) (cJ (bW bH (ad (Jn ul (ac 2) (mC (.int 3))) ah))) (ba)) (ay (am [1,2] (aK bH (Jn aZ (Jn jq (ac 2) (mC (.int 2147483629))) (Jn cF (mC (.int 40014)) (Jn aZ (ac 1) (mC (.int 1))))) (af 3))) (ay (aK bH (mC (.int 0)) (af 4)) (ay (am [3,5] (cp (dN (ad (mC (.int 9)) ah)) (af 5) dZ)) (cJ (bW bH (ad (ac 4) ah))))))))
def rW:List S->Option S:=Kg 6 2 jT
def mV:List Md:=[.io,.pl,.pl]
def mW:MS:=ay (aK mV (Jn jq (Jn JC (ac 0) (mC (.int 0))) (ac 1)) (af 2)) (ay (am [1] (aK mV (Jn ul (Jn JC (ac 0) (mC (.int 0))) (ac 1)) (dM mV 0 (mC (.int 0))))) (aO (ac 2)))
def d4:List S->Option (S × S):=iH false 3 2 mW
def EU:List Md:=[.pl]
def qz:MS:=aO (bz (fU "int" (ac 0)) (kP (fU "bool" (ac 0))))
def lA:List S->Option S:=Kg 1 1 qz
def qA:List Md:=[.pl,.pl,.pl]
def mX:MS:=ay (aK qA (mC (.str ("abcdefghijklmnopqrstuvwxyz":Str))) (af 1)) (ay (am [0] (aK qA (jJ (ac 1) (ac 0)) (af 2))) (aO (Jn JC (ac 1) (Jn kx (Jn aZ (ac 2) (mC (.int 1))) (Jn cF (mC (.int 2)) (Jn jq (ac 2) (mC (.int 2))))))))
def lB:List S->Option S:=Kg 3 1 mX
def EV:List Md:=[.pl,.pl,.ow,.pl]
def ao:List Md:=[.pl,.lk,.ow,.pl]
def bO:MS:=cI (p7 2)
def mY:MS:=mP ao (bB (bW ao ah) 2) (cq 100000 (pY (mB (Jn (JG 4 true) (ac 2) (fS ao ah))) (mB (Jn Lf (Jn JC (Jn JC (ac 2) (LQ dJ (mC (.int 1)))) (mC (.int 1))) (Jn JC (ac 3) (mC (.int 0)))))) bO) (mB (Jn (JG 4 false) (ac 2) (fS ao ah))) (Jn JC (ac 2) (LQ dJ (mC (.int 1)))) (cI (bm ao 2 (ad (ac 3) ah)))
def rX:List S->Option S:=Kg 4 1 mY
def oU:List Md:=[.pl,.pl,.pl]
def gv:MS:=am [1,2] (bE (eX (fD (Kd v7 (ad (fh 1 [2] [] (cK oU (oM (ac 0) wt (fB (ac 1)))) (K5 (af 0) ml (bX (b6 oU 1 [2] []) (aB xy (ad (ac 1) (ad (ac 0) ah)))))) ah)))) (aO (mC (.bl false))) (ba))
def oV:MS:=ay (am [0,1,2] (cp (k9 oU (ad (ac 0) ah)) (a9 2 (az (af 1) (az (af 2) be))) gv)) (aO (mC (.bl true)))
def Bh:List S->Option S:=Kg 3 1 oV
def Cy:List Md:=[.pl,.pl,.pl,.pl]
def cL:MS:=ay (bE (eX (fD (aB Be (ad (ac 1) (ad (mC (.int 2)) (ad (mC (.int 2)) ah)))))) (aO (mC (.bl false))) (ba)) (ay (am [1] (aK Cy (ac 1) (a9 2 (az (af 2) (az (af 3) be))))) (aO (bz (aB xx (ad (ac 2) ah)) (bz (aB xx (ad (ac 3) ah)) (cZ O5 Lf Lf (mC (.int 0)) (ac 2) (ac 3) (ac 0))))))
def xz:List S->Option S:=Kg 4 2 cL
def gY:List Md:=[.pl,.pl,.pl,.pl,.ow,.pl]
def d5:MS:=am [5] (bE (mB (Jn (JG 4 false) (Jn JC (ac 0) (ac 5)) (aB mU (ad (Jn JC (ac 0) (ac 2)) ah)))) (am [5] (cI (bm gY 4 (ad (cE gY (ad (ac 5) (ad (Jn cF (gf 1 (cE gY (ad (Jn aZ (ac 2) (mC (.int 1))) (ad (ac 5) ah)))) (gf 1 (cE gY (ad (Jn aZ (ac 5) (mC (.int 1))) (ad (ac 3) ah))))) ah))) ah)))) (ba))
def mZ:MS:=ay (bB (bW gY ah) 4) (ay (am [0,1,2,3,5] (cp (kT (ad (Jn aZ (ac 2) (mC (.int 1))) (ad (ac 3) ah))) (af 5) d5)) (kS 4))
def rY:List S->Option S:=Kg 6 4 mZ
def cx:List Md:=[.pl,.pl,.pl,.pl,.pl,.pl,.ow,.ow]
def cy:MS:=ay (bE (mB (Jn (JG 4 false) (Jn JC (ac 3) (ac 4)) (mC (.int (-1))))) (cI (bm cx 7 (ad (ac 4) ah))) (ay (cI (bm cx 6 (ad (cE cx (ad (ac 4) (ad (Jn JC (ac 3) (ac 4)) ah))) ah))) (aK cx (Jn JC (ac 3) (ac 4)) (af 4)))) (wD 4 (fun i j=>i+j) (mC (.int 1)))
def jU:MS:=ay (am [1] (aK cx (aB Bf (ad (ac 0) (ad (ac 1) ah))) (af 3))) (ay (am [0] (t9 cx 4 5 (ad (mC (.int 0)) (ad (ac 0) ah)))) (ay (am [2] (bE (mB (Jn wW (ac 2) (mC .non))) (am [2] (t9 cx 4 5 (ad (Jn aZ (Jn JC (ac 2) (mC (.int 0))) (mC (.int 1))) (ad (Jn JC (ac 2) (mC (.int 1))) ah)))) (ba))) (ay (bB (bW cx ah) 6) (ay (bB (bW cx ah) 7) (ay (am [3,4,5] (cq 100000 (mB (Jn Lf (ac 4) (ac 5))) cy)) (oJ cx (ad (ac 6) (ad (ac 7) ah))))))))
def iz:List S->Option S:=Kg 8 3 jU
def gZ:List Md:=[.io,.pl,.pl,.pl,.pl,.pl]
def d6:MS:=ay (am [3] (aK gZ (ac 5) (dM gZ 0 (ac 3)))) (am [4,5] (aK gZ (aB mU (ad (ac 5) ah)) (dM gZ 0 (ac 4))))
def m4:MS:=am [1,2,3,4,5] (cp (up gZ (ad (ac 2) (ad (ac 1) ah))) (a9 2 (az (a9 2 (az (af 3) (az (af 4) be))) (az (af 5) be))) d6)
def rZ:List S->Option (S × S):=iH false 6 3 m4
def cQ:List Md:=[.io,.pl,.ow,.ow,.pl,.pl]
def bP:MS:=am [5] (bE (pY (mB (Jn Mg (ac 4) (mC (.int 0)))) (Lq (mB (Jn (JG 4 false) (ac 3) (fS cQ ah))) (mB (Jn Lf (bR cQ 0 d4 (ad (mC (.int 5)) ah)) (Jn aZ (mC (.int 2)) (Jn jq (Kd a7 (ad (ac 3) ah)) (mC (.int 2)))))))) (ay (am [5] (cI (bm cQ 3 (ad (ac 5) ah)))) (aK cQ (Jn kx (ac 4) (mC (.int 1))) (af 4))) (am [5] (cI (bm cQ 2 (ad (cE cQ (ad (p7 3) (ad (ac 5) ah))) ah)))))
def m5:MS:=ay (bB (bW cQ ah) 2) (ay (bB (bW cQ ah) 3) (ay (aK cQ (ac 1) (af 4)) (ay (am [1,3,4,5] (cp (dN (ad (Jn cF (mC (.int 2)) (ac 1)) ah)) (af 5) bP)) (aO (Kd Ei (ad (Kd Srt.iq (ad (ac 2) ah)) ah))))))
def r8:List S->Option (S × S):=iH false 6 2 m5
def du:List Md:=[.pl,.pl,.ow,.pl,.pl,.pl,.pl]
def c9:MS:=am [6] (bE (mB (Jn (JG 4 false) (Jn JC (ac 0) (ac 6)) (aB lB (ad (Jn JC (ac 0) (Jn kx (Jn aZ (ac 4) (ac 3)) (mC (.int 1)))) ah)))) (am [6] (aK du (Jn aZ (ac 5) (Jn cF (gf 2 (cE du (ad (ac 4) (ad (ac 6) ah)))) (gf 2 (cE du (ad (Jn aZ (ac 6) (mC (.int 1))) (ad (Jn kx (Jn aZ (ac 4) (ac 3)) (mC (.int 1))) ah)))))) (af 5))) (ba))
def d7:MS:=ay (aK du (Kd pZ (ad (Jn (JG 4 false) (ac 3) (mC (.int 0))) ah)) (af 5)) (ay (am [6] (cp (oK (ad (Jn kx (Jn aZ (ac 4) (ac 3)) (mC (.int 2))) (ad (Jn kx (ac 4) (mC (.int 1))) (ad (LQ dJ (mC (.int 2))) ah)))) (af 6) c9)) (am [4,5] (aK du (ac 5) (fF du 2 (ad (ac 4) (ad (Jn aZ (ac 4) (ac 3)) ah))))))
def gw:MS:=am [3,4,5,6] (cp (dN (ad (Jn kx (Jn aZ (ac 1) (mC (.int 1))) (ac 3)) ah)) (af 4) d7)
def m6:MS:=ay (aK du (Kd a7 (ad (ac 0) ah)) (af 1)) (ay (bB (qo) 2) (ay (am [0,3,4,5,6] (cp (dN (ad (Jn aZ (ac 1) (mC (.int 1))) ah)) (af 3) gw)) (aO (gf 2 (cE du (ad (mC (.int 0)) (ad (ac 1) ah)))))))
def r9:List S->Option S:=Kg 7 1 m6
def bI:List Md:=[.pl,.pl,.ow,.pl,.pl,.pl,.pl,.ow,.pl]
def d8:MS:=am [8] (bE (mB (Jn Mg (Jn JC (ac 2) (ac 8)) (ac 8))) (am [8] (cI (bm bI 7 (ad (ac 8) ah)))) (am [8] (bE (Lq (mB (Jn (JG 4 false) (ac 7) (fS bI ah))) (mB (Jn (JG 4 true) (p7 7) (Jn JC (ac 2) (ac 8))))) (aO (mC (.bl false))) (ba))))
def gx:MS:=ay (bE (Lq (eX (fD (fU "tuple" (ac 4)))) (Lq (mB (Jn (JG 4 true) (Kd a7 (ad (ac 4) ah)) (mC (.int 2)))) (Lq (eX (fD (aB lA (ad (Jn JC (ac 4) (mC (.int 0))) ah)))) (eX (fD (aB lA (ad (Jn JC (ac 4) (mC (.int 1))) ah))))))) (aO (mC (.bl false))) (ba)) (ay (am [4] (aK bI (ac 4) (a9 2 (az (af 5) (az (af 6) be))))) (ay (am [3] (bE (Lq (eX (dh Lf Lf Lf (ac 3) (ac 5) (ac 6) (Kd a7 (ad (ac 0) ah)))) (Lq (mB (Jn Mg (Jn JC (ac 2) (ac 5)) (LQ dJ (mC (.int 1))))) (Lq (mB (Jn Mg (Jn JC (ac 2) (ac 6)) (LQ dJ (mC (.int 1))))) (mB (Jn (JG 4 true) (Jn JC (ac 0) (ac 6)) (aB lB (ad (Jn JC (ac 0) (ac 5)) ah))))))) (aO (mC (.bl false))) (ba))) (ay (aK bI (ac 6) (dM bI 2 (ac 5))) (ay (am [6] (aK bI (ac 5) (dM bI 2 (ac 6)))) (am [5] (aK bI (ac 5) (af 3)))))))
def m7:MS:=ay (bE (Lq (eX (fD (fU "tuple" (ac 1)))) (mB (Jn (JG 4 true) (Jn cF (mC (.int 2)) (Kd a7 (ad (ac 1) ah))) (Kd a7 (ad (ac 0) ah))))) (aO (mC (.bl false))) (ba)) (ay (bB (qf wq (fS bI (ad (LQ dJ (mC (.int 1))) ah)) (Kd a7 (ad (ac 0) ah))) 2) (ay (aK bI (LQ dJ (mC (.int 1))) (af 3)) (ay (am [1,3,4,5,6] (cp (cK bI (ac 1)) (af 4) gx)) (ay (bB (bW bI ah) 7) (ay (am [0,2,7,8] (cp (dN (ad (Kd a7 (ad (ac 0) ah)) ah)) (af 8) d8)) (aO (mC (.bl true))))))))
def sd:List S->Option S:=Kg 9 2 m7
def xA:List Md:=[.pl,.pl,.ow,.pl]
def d9:MS:=am [3] (aK xA (Jn aZ (Kd a7 (ad (jK 1 (ac 3)) ah)) (Kd pZ (ad (Jn wW (ac 3) (mC .non)) ah))) (gV 2 (ac 3)))
def m8:MS:=ay (am [0] (fH rX (ad (ac 0) ah) 1)) (ay (bB (mM) 2) (ay (am [1,3] (cp (qu 1) (af 3) d9)) (ld 2)))
def lC:List S->Option S:=Kg 4 1 m8
def jV:List Md:=[.io,.pl]
def jW:MS:=ay (bE (mB (Jn (JG 4 false) (bR jV 0 d4 (ad (mC (.int 3)) ah)) (mC (.int 0)))) (aO (bR jV 0 d4 (ad (mC (.int 14)) ah))) (ba)) (aO (Kd rK (ad (mC (.int 0)) (ad (Kd rJ (ad (mC (.int 13)) (ad (Jn aZ (Jn ul (Jn aZ (ac 1) (mC (.int 1))) (mC (.int 2))) (Jn JC (fS jV (ad (mC (.int 0)) (ad (mC (.int 0)) (ad (LQ dJ (mC (.int 1))) (ad (mC (.int 1)) ah))))) (bR jV 0 d4 (ad (mC (.int 4)) ah)))) ah))) ah))))
def se:List S->Option (S × S):=iH false 2 2 jW
def sf:List Md:=[.pl,.pl]
def lD:MS:=ay (bE (Lq (eX (fD (fU "tuple" (ac 1)))) (mB (Jn (JG 4 true) (Jn cF (mC (.int 2)) (Kd a7 (ad (ac 1) ah))) (ac 0)))) (aO (mC (.bl false))) (ba)) (aO (bz (Kd v7 (ad (fh 1 [0] [] (cK sf (ac 1)) (K5 (af 0) ml (bX (b6 sf 1 [0] []) (aB xz (ad (ac 1) (ad (ac 0) ah)))))) ah)) (aB Bh (ad (ac 1) ah))))
def Bi:List S->Option S:=Kg 2 2 lD
def cR:List Md:=[.pl,.pl,.ow,.pl,.pl]
def ee:MS:=am [4] (aK cR (Kd zG (ad (fh 2 [] [] (cK cR (aB rY (ad (ac 0) (ad (ac 2) (ad (ac 3) (ad (ac 4) ah)))))) (K5 (a9 2 (az (af 0) (az (af 1) be))) ml (bX (b6 cR 2 [] []) (ac 1)))) ah)) (fF cR 2 (ad (ac 3) (ad (ac 4) ah))))
def gy:MS:=ay (aK cR (mC (.int 1)) (fF cR 2 (ad (ac 3) (ad (ac 3) ah)))) (am [3,4] (cp (kT (ad (Jn aZ (ac 3) (mC (.int 1))) (ad (Jn aZ (ac 1) (mC (.int 1))) ah))) (af 4) ee))
def m9:MS:=ay (aK cR (Kd a7 (ad (ac 0) ah)) (af 1)) (ay (jF cR 2 (ad (ac 1) (ad (ac 1) ah)) (mC (.int 1))) (ay (am [0,1,3,4] (cp (oI (ad (ac 1) ah)) (af 3) gy)) (jG 2)))
def si:List S->Option S:=Kg 5 1 m9
def xB:List Md:=[.pl,.pl,.pl,.pl,.pl]
def jX:MS:=ay (am [0,1,4] (aK xB (aB iz (ad (ac 0) (ad (ac 1) (ad (ac 2) ah)))) (a9 2 (az (af 3) (az (af 4) be))))) (aO (MC (mB (Jn Mn (ac 2) (mC .non))) (Kd a7 (ad (ac 3) ah)) (Jn aZ (Kd a7 (ad (ac 3) ah)) (mC (.int 1)))))
def jY:List S->Option S:=Kg 5 3 jX
def cz:List Md:=[.pl,.pl,.pl,.ow,.pl,.pl,.pl,.pl]
def da:MS:=ay (am [6] (aK cz (aB iz (ad (ac 0) (ad (ac 1) (ad (ac 4) ah)))) (a9 2 (az (af 5) (az (af 6) be))))) (ay (am [4] (aK cz (MC (mB (Jn Mn (ac 4) (mC .non))) (mC (.str ("":Str))) (Jn JC (ac 3) (Jn JC (ac 4) (mC (.int 1))))) (af 7))) (am [5,7] (cI (bR cz 3 rZ (ad (fh 1 [7] [] (cK cz (aB Bg (ad (ac 2) ah))) (K5 (af 0) (mB (Jn (JG 4 true) (ac 0) (ac 1))) (bX (b6 cz 1 [7] []) (ac 0)))) (ad (ac 5) ah))))))
def nh:MS:=ay (bB (qf wq (fS cz (ad (mC (.str ("":Str))) ah)) (ac 0)) 3) (ay (am [0,1,2,4,5,6,7] (cp (cK cz (Jn aZ (cE cz (ad (mC .non) ah)) (ac 1))) (af 4) da)) (aO (oz ("":Str) (ad (ac 3) ah))))
def sj:List S->Option S:=Kg 8 3 nh
def sk:List Md:=[.pl,.pl]
def sn:MS:=aO (bz (aB Bi (ad (Kd a7 (ad (ac 0) ah)) (ad (ac 1) ah))) (Kd v7 (ad (fh 2 [0] [] (cK sk (ac 1)) (K5 (a9 2 (az (af 0) (az (af 1) be))) ml (bX (b6 sk 2 [0] []) (Jn (JG 4 false) (Jn JC (ac 2) (ac 1)) (aB mU (ad (Jn JC (ac 2) (ac 0)) ah)))))) ah)))
def Bj:List S->Option S:=Kg 2 2 sn
def xC:List Md:=[.pl]
def ni:MS:=aO (gj si (ad (ac 0) ah) (cE xC (ad (mC (.int 0)) (ad (Kd a7 (ad (ac 0) ah)) ah))))
def sr:List S->Option S:=Kg 1 1 ni
def jZ:List Md:=[.pl,.pl,.pl,.pl]
def db:MS:=am [3] (bE (mB (Jn Mg (aB jY (ad (ac 0) (ad (ac 1) (ad (ac 3) ah)))) (Jn cF (mC (.int 2)) (ac 2)))) (aO (cE jZ (ad (mC (.str ("wide":Str))) (ad (ac 3) ah)))) (ba))
def j6:MS:=ay (am [3] (cp (cK jZ (Jn aZ (cE jZ (ad (mC .non) ah)) (ac 1))) (af 3) db)) (aO (cE jZ (ad (mC (.str ("cord":Str))) (ad (aB sj (ad (ac 0) (ad (ac 1) (ad (ac 2) ah)))) ah))))
def oW:List S->Option S:=Kg 4 3 j6
def EW:List Md:=[.pl,.pl]
def nr:MS:=aO (bz (aB Bj (ad (ac 0) (ad (ac 1) ah))) (Jn (JG 4 false) (aB sr (ad (ac 0) ah)) (mC (.int 1))))
def sv:List S->Option S:=Kg 2 2 nr
def qB:List Md:=[.pl,.pl,.pl,.pl,.pl]
def eg:MS:=am [4] (bE (mB (Jn (O8 4 true) (ac 4) (oM (mC (.str ("abcdefghijklmnopqrstuvwxyz":Str))) wt (fB (Jn cF (mC (.int 2)) (ac 1)))))) (aO (mC (.bl false))) (ba))
def j7:MS:=ay (fH lC (ad (ac 0) ah) 2) (ay (aK qB (aB oW (ad (Jn cF (mC (.int 2)) (Kd a7 (ad (ac 0) ah))) (ad (ac 0) (ad (ac 1) ah)))) (af 3)) (ay (bE (Lq (eX (fD (fU "tuple" (ac 3)))) (mB (Jn (JG 4 true) (Kd a7 (ad (ac 3) ah)) (mC (.int 2))))) (aO (mC (.bl false))) (ba)) (ay (am [2] (bE (mB (Jn Mg (lv 2) (Jn cF (mC (.int 2)) (ac 1)))) (aO (bz (Jn (JG 4 false) (Jn JC (ac 3) (mC (.int 0))) (mC (.str ("wide":Str)))) (bz (uA (Jn JC (ac 3) (mC (.int 1))) 2) (Jn Mg (jK 2 (Jn JC (ac 3) (mC (.int 1)))) (Jn cF (mC (.int 2)) (ac 1)))))) (ba))) (ay (bE (Lq (mB (Jn (JG 4 true) (Jn JC (ac 3) (mC (.int 0))) (mC (.str ("cord":Str))))) (Lq (eX (fD (fU "str" (Jn JC (ac 3) (mC (.int 1)))))) (mB (Jn (JG 4 true) (Kd a7 (ad (Jn JC (ac 3) (mC (.int 1))) ah)) (Jn cF (mC (.int 2)) (Kd a7 (ad (ac 0) ah))))))) (aO (mC (.bl false))) (ba)) (ay (am [1,4] (cp (cK qB (Jn JC (ac 3) (mC (.int 1)))) (af 4) eg)) (aO (bz (aB sd (ad (Jn JC (ac 3) (mC (.int 1))) (ad (ac 0) ah))) (bz (Jn (JG 4 false) (aB r9 (ad (Jn JC (ac 3) (mC (.int 1))) ah)) (mC (.int 1))) (Jn Mn (aB sv (ad (Jn JC (ac 3) (mC (.int 1))) (ad (ac 0) ah))) (mC (.bl true)))))))))))
def eA:List S->Option S:=Kg 5 2 j7
def cA:List Md:=[.pl,.pl,.ow,.pl,.pl]
def eB:MS:=ay (am [1] (bB (fY rW (ad (ac 0) (ad (ac 1) ah))) 2)) (ay (aK cA (bR cA 2 r8 (ad (bR cA 2 d4 (ad (mC (.int 21)) ah)) ah)) (af 3)) (ay (am [2] (aK cA (bR cA 2 se (ad (lx lC (ad (ac 3) ah)) ah)) (af 4))) (am [3,4] (bE (Lq (eX (fD (aB eA (ad (ac 3) (ad (ac 4) ah))))) (eX (fD (aB eA (ad (ac 3) (ad (ac 4) ah)))))) (aO (mC (.bl false))) (ba)))))
def nu:MS:=ay (am [0,1,2,3,4] (cp (dN (ad (Kd rK (ad (mC (.int 3)) (ad (Kd rJ (ad (mC (.int 4)) (ad (kX 0) ah))) ah))) ah)) (af 1) eB)) (aO (bz (aB eA (ad (cE cA ah) (ad (mC (.int 0)) ah))) (bz (aB eA (ad (cE cA (ad (cE cA (ad (mC (.int 0)) (ad (mC (.int 1)) ah))) ah)) (ad (mC (.int 0)) ah))) (aB eA (ad (cE cA (ad (cE cA (ad (mC (.int 0)) (ad (mC (.int 1)) ah))) ah)) (ad (mC (.int 1)) ah))))))
def Cz:List S->Option S:=Kg 5 1 nu
def Bk (M:Int->Int->Bool):Nat->Nat->Int->Int
 | 0,_,_=>1
 | _+1,0,_=>1
 | f+1,L+1,a=>Bk M f L (a+1)+((List.range L).map fun (t:Nat)=>if M a (a+1+(t:Int))=true then Bk M f t (a+1) * Bk M f (L - 1 - t) (a+1+t+1) else 0).sum
def G (M:Int->Int->Bool) (a b:Int):Int:=Bk M (b - a).toNat (b - a).toNat a
def PL (M:Int->Int->Bool) (a b:Int):List (Int × Int):=(-1,G M (a+1) b)::((ups (a+1) (b - (a+1)).toNat).filter (M a)).map fun p=>(p,G M (a+1) p * G M (p+1) b)
theorem j8 {c:Int->Bool} {f:Int->Int}:∀ l:List Int,((l.filter c).map f).sum=(l.map fun p=>if c p=true then f p else 0).sum
 | []=>rfl
 | a::l=>by
  rw [List.filter_cons,Z6,Yg,<- j8 l];split
  ·rw [Z6,Yg]
  ·simp
open L2 Builtin.Str
def sgn (c:Nat):Str:=⟨#[c]⟩
def txt (cs:List Nat):Str:=⟨cs.toArray⟩
theorem b7 (a:List Nat):(txt a).length=a.length:=by show a.toArray.size=_; simp
theorem Bl (c:Nat):sgn c=txt [c]:=rfl
theorem Lo:sgn a=sgn b ↔ a=b:=by
 constructor
 ·intro h; injection h with h; simpa using h
 ·rintro rfl; rfl
theorem Nv:txt a=txt b ↔ a=b:=by
 constructor
 ·intro h;have:a.toArray=b.toArray:=by injection h
  simpa using Y9 Array.toList this
 ·rintro rfl; rfl
theorem CA:(Str.ofString "")=txt []:=by decide +kernel
theorem HR (h:cs.length < 1000000):a7 [.str (txt cs)]=some (.int cs.length):=by rw [<- b7 cs]; exact Ht (by rw [b7]; exact h)
theorem HS (h:0<=i/\i < cs.length) (hl:cs.length < 1000000):JC (.str (txt cs)) (.int i)=some (.str (sgn (cs.getD i.toNat 0))):=by show (if _ then _ else _)=_;rw [Y1 (by rw [b7]; exact L8 (bC hl))];show (Ku (txt cs).cps.toList i).map _=_;rw [show (txt cs).cps.toList=cs by simp [txt],eQ h,Z5,Z3 (by omega:i.toNat < cs.length)];rfl
theorem Jb {cs:List Nat} {a b:Nat} (hab:a<=b) (hb:b<=cs.length) (hl:cs.length < 1000000):Oy (.str (txt cs)) (some (a:Int)) (some (b:Int))=some (.str (txt ((cs.drop a).take (b - a)))):=by
 show (if _ then _ else _)=_;rw [Y1 (by rw [b7]; exact L8 (bC hl))];have h:=StrLaws.sliced_plain (txt cs) hab (by rw [b7]; exact hb);have e:(txt cs).cps.toList=cs:=by simp [txt]
 rw [e] at h;unfold Txt.slice;split
 ·rename_i hc;have hn:(strSliceIndices (some (a:Int)) (some (b:Int)) 1 (txt cs).length).length=cs.length:=by rw [b7] at hc ⊢; simpa using hc
  rw [StrLaws.strSliceIndices_plain hab (by rw [b7]; exact hb)] at hn;simp at hn;have h0:a=0:=by omega
  have h1:b=cs.length:=by omega
  subst h0 h1;simp
 ·rw [h]; rfl
local macro_rules | `(tactic| walk_at "dz")=>`(tactic| first | with_reducible assumption | omega | (simp only [List.length_map,List.length_set,List.length_append,List.length_cons,List.length_nil,List.length_replicate,List.length_dropLast,Mir.dj] at *; omega) | decide)
local macro_rules | `(tactic| walk_at "imm")=>`(tactic| first | with_reducible assumption | exact Mir.oR (fun _=>rfl) _ | rfl)
local macro_rules | `(tactic| walk_at "bt")=>`(tactic| first | with_reducible assumption | with_reducible exact decide_eq_true (by first | assumption | omega) | with_reducible exact Mir.IJ (by first | assumption | omega) | rfl | decide)
local macro_rules | `(tactic| walk_at "bf")=>`(tactic| first | with_reducible assumption | with_reducible exact decide_eq_false (by first | assumption | omega) | with_reducible exact Mir.IK (by first | assumption | omega) | rfl | decide)
local macro_rules | `(tactic| walk_at "norm")=>`(tactic| focus ((try dsimp only [Mir.kill,List.set_cons_zero,List.set_cons_succ]); (try exact rfl); done))
local macro_rules | `(tactic| walk_at "normI")=>`(tactic| focus ((try simp only [Mir.kA,List.replicate_succ,List.replicate_zero,List.map_cons,List.map_nil,Mir.look,List.cons_append,List.nil_append]); (try exact rfl); done))
local macro_rules | `(tactic| walk_at "normW")=>`(tactic| first | with_reducible exact Mir.ET | focus ((try simp only [Mir.wb0,Mir.wb1,List.idxOf_cons,beq_self_eq_true,cond_true,cond_false,Nat.reduceBEq,Nat.reduceAdd,Nat.zero_add,Nat.add_zero,Mir.look]); (try exact rfl); done))
local macro_rules | `(tactic| walk_at "opl")=>do
   let a <- Mir.M7 `Mir "Hr Hs ltI leI gtI geI A7 A8 A9 xn eqBB ltLL uB EK IL listT listL IN IO intI isNN isNI isNT notNN notNI notNT isYB notYB"
   let b <- Mir.alz "divmodI Ht mulI1 mulI2 IH divI addS ixT_ints dX"
   `(tactic| first
 | (first $[| $a]*)
 | with_reducible assumption | with_reducible exact Mir.xo (Mir.bG (fun _=>NT rfl) _) | with_reducible exact Mir.mQ (Mir.bG (fun _=>NT rfl) _)
 | (first $[| $b]*))
local macro_rules | `(tactic| walk_at "ev g0")=>Mir.tx ["A Ev.c","A Ev.var","A Ev.op","G Eq (Ev.dq _ _ _) _; R Ev.qw <bt> ?_","G Eq (Ev.dq _ _ _) _; R Ev.qx <bf> ?_","A Ev.IZ","A Ev.comp","A Ev.EQ","A Ev.dIn","A Ev.callX","A Ev.cb","A Ev.HA","A Ev.callF","A Ev.tup","A Ev.lst","A Ev.append","A Ev.HB","A Ev.isi","A Ev.un","A Ev.pop","A Ev.reverse","A Ev.extend","A Ev.IQ","A Ev.orV","A Ev.IR","A Ev.ifE","A Ev.HC","A Ev.sl","A Ev.join","A Ev.IS","A Ev.ixS","W ev const","W evE"]
local macro_rules | `(tactic| walk_at "ev g1")=>Mir.tx ["A Ev.xq","A Ev.kil","A Ev.asg","A Ev.ifS","A Ev.jN","A Ev.EN","A Ev.next","G Eq (Ev.dq _ _ _) _; R Ev.qw <bt> ?_","G Eq (Ev.dq _ _ _) _; R Ev.qx <bf> ?_","A Ev.HF","A Ev.HG","A Ev.asgDc","A Ev.I9","A Ev.drop","A Ev.ret","A Ev.IV","A Ev.IT","A Ev.EO","A Ev.IU","A Ev.par","A Ev.aug","A Ev.forL","A Ev.afterB","A Ev.afterC","A Ev.brk","A Ev.ct","A Ev.retNone","G Eq (Mir.bw _ _ _ _) _; S","G Eq (Mir.bw _ _ _ _) _; s","W evS","S"]
local macro_rules | `(tactic| walk_at "ev g2")=>Mir.tx ["G Eq (Mir.res _ _) _; E rfl","G Eq (Mir.K6 _ _ _) _; E rfl","G Eq (Mir.Ly _ _ _) _; E Ev.Ba rfl rfl <imm>","G Eq (Mir.Ly _ _ _) _; E rfl","G Eq (Mir.cD _) _; E Mir.AX _","G Eq (Mir.cD _) _; E Mir.EI _","G Eq (Mir.cD _) _; E Mir.AY _","G Eq (Mir.cD _) _; E Mir.imm_non","G Eq (Mir.cD _) _; E Mir.AZ <imm>","W opl","S","q rfl"]
local macro_rules | `(tactic| walk_at "ev g3")=>Mir.tx ["A Ev.nil","A Ev.cons"]
local macro_rules | `(tactic| walk_at "ev g4")=>Mir.tx ["A Ev.Hu","A Ev.Hw","A Ev.ER","A Ev.Hv","A Ev.Hx","A Ev.ES","G Eq (Mir.D7 _) _; E rfl"]
local macro_rules | `(tactic| walk_at "ev g5")=>Mir.tx ["G Eq (List.set _ _ _) _; W norm","G Eq (Mir.kill _ _) _; W norm","G Eq (Mir.kA _ _ _) _; W normI","G Eq (Mir.wb _ _ _ _ _) _; W normW"]
local macro_rules | `(tactic| walk_at "ev g6")=>Mir.tx ["A Ev.dE","A Ev.pj","A Ev.qS","A Ev.lW","A Ev.HE","A Ev.yN","W evG"]
local macro_rules | `(tactic| walk_at "ev g7")=>Mir.tx ["A Ev.tb","A Ev.tru","A Ev.and","A Ev.or","A Ev.not","A Ev.yes","G Eq (Ev.dq _ _ _) _; R Ev.qw <bt> ?_","G Eq (Ev.dq _ _ _) _; R Ev.qx <bf> ?_","A Ev.EM","A Ev.c3r"]
local macro_rules | `(tactic| walk_at "ev g8")=>Mir.tx ["A Ev.IW","A Ev.IX","A Ev.IY","A Ev.seqV","A Ev.Ja","A Ev.enu","A Ev.rng3","W evI"]
local macro_rules | `(tactic| walk_at "ev g9")=>Mir.tx ["A Ev.HH","A Ev.IP","A Ev.EL","A Ev.ncomp","A Ev.nstream","A Ev.nop","W evN"]
local macro_rules | `(tactic| walk_at "ev g10")=>Mir.tx ["G Eq (Mir.look _ _) _; E rfl","G Eq (Mir.Ae _) _; E rfl","G Eq (Mir.tU _ _ _) _; E Mir.A4 <dz>","G Eq (Mir.kz _) _; E Mir.EJ <imm>","q Mir.okIo_pot _","q Mir.okIo2_pot _ _","S","W evC"]
local macro_rules | `(tactic| walk_at "ev g11")=>Mir.tx ["S","A Ev.Bb","W evL"]
local macro_rules | `(tactic| walk_at "ev g12")=>Mir.tx ["S","q Mir.HJ _ _","q rfl","E rfl"]
local macro_rules | `(tactic| walk_at "ev g13")=>Mir.tx ["A Ev.xargs","A Ev.xop","A Ev.xdc"]
local macro_rules | `(tactic| walk_at "ev g14")=>Mir.tx ["A Ev.Hy","A Ev.Hz"]
local macro_rules | `(tactic| walk_at "ev g15")=>Mir.tx ["A Ev.oNo","A Ev.HD"]
local macro_rules | `(tactic| walk_at "ev g16")=>Mir.tx ["W ev msimp","G Eq (Mir.G6 _) _; E Mir.draw_pot <dz>","W evM"]
local macro_rules | `(tactic| walk_at "ev g17")=>Mir.tx ["G Eq (Mir.Ej _) _; E rfl"]
local macro_rules | `(tactic| walk_at "ev const")=>`(tactic| ((with_reducible show (fun _=>_) _=_); with_reducible exact Ev.const))
local macro_rules | `(tactic| walk_at "ev msimp")=>`(tactic| ((try simp only [List.map_cons,List.map_nil]); with_reducible assumption))
local macro_rules | `(tactic| walk_at "ev1")=>do
   let a <- Mir.tx ["T Option (Prod Mir.Op Mir.En); W ev g0","T Option (Prod Mir.Fl Mir.En); W ev g1","T Option L2.D; W ev g2","T Option (Prod (List Mir.Op) Mir.En); W ev g3","T Option (List L2.D); W ev g4","T Mir.En; W ev g5","T Option Mir.En; W ev g6","T Option (Prod Bool Mir.En); W ev g7","T Option (Prod (List L2.D) Mir.En); W ev g8","T Option (Prod Mir.S Mir.En); W ev g9","T Option Mir.S; W ev g10","T Option (Prod Mir.En (List L2.D)); W ev g11","T Option (List L2.Key); W ev g12","T Option (Prod (List Mir.S) Mir.En); W ev g13","T Option (List Mir.S); W ev g14","T Option (Prod (Option Int) Mir.En); W ev g15","T Option (Prod Mir.S Mir.S); W ev g16","T Option Bool; W ev g17"]
   `(tactic| first | $a:tactic | focus ((with_reducible show (_ : Nat) < _); walk_at "dz") | focus ((with_reducible show (_ : Nat) = _); first | exact rfl | walk_at "dz") | focus ((with_reducible show _ /\ _); walk_at "dz") | with_reducible assumption | with_reducible exact rfl)
local macro_rules | `(tactic| walk_at "ev")=>`(tactic| repeat (walk_at "ev1"))
local macro_rules | `(tactic| walk_at "evE")=>`(tactic| fail)
local macro_rules | `(tactic| walk_at "evS")=>`(tactic| fail)
local macro_rules | `(tactic| walk_at "evI")=>`(tactic| fail)
local macro_rules | `(tactic| walk_at "evN")=>`(tactic| fail)
local macro_rules | `(tactic| walk_at "evC")=>`(tactic| fail)
local macro_rules | `(tactic| walk_at "evM")=>`(tactic| fail)
local macro_rules | `(tactic| walk_at "evL")=>`(tactic| fail)
local macro_rules | `(tactic| walk_at "evG")=>`(tactic| fail)
open PySem.Spec PyProof.Rows L2
def Ou:Str:="abcdefghijklmnopqrstuvwxyz"
theorem xD:∀ x:Nat,x < 26->Txt.find Ou (sgn (97+x))=(x:Int):=by decide +kernel
theorem Bm:∀ x:Nat,x < 26->qr Ou (sgn (97+x))=some x:=by decide +kernel
theorem sw:Ou=txt ((List.range 26).map (97+·)):=by decide +kernel
open PySem.Spec PyProof.Rows L2
def fl (x:Nat):Nat:=if x % 2=0 then x+1 else x - 1
theorem ny {x:Nat} {i:Int} (hx:x < 26) (hi:i=(x:Int)):JC (.str ("abcdefghijklmnopqrstuvwxyz":Str)) (.int i)=some (.str (sgn (97+x))):=by have e:("abcdefghijklmnopqrstuvwxyz":Str)=txt ((List.range 26).map (97+·)):=sw;rw [e,hi];rw [HS ⟨by omega,by simp; omega⟩ (by simp)];simp [Z5,hx]
local macro_rules | `(tactic| walk_at "evE")=>`(tactic| first | with_reducible apply Ev.find | with_reducible apply Ev.index)
theorem hG {x:Nat} (hx:x < 26):mU [.d (.str (sgn (97+x)))]=some (.d (.str (sgn (97+fl x)))):=by
 have hf:xc (.str ("abcdefghijklmnopqrstuvwxyz":Str)) (.str (sgn (97+x)))=some (.int x):=by show some (D.int (Txt.find Ou (sgn (97+x))))=_;rw [xD x hx]
 by_cases hp:(x:Int) % 2=0
 ·have hi:JC (.str ("abcdefghijklmnopqrstuvwxyz":Str)) (.int ((x:Int)+1))=some (.str (sgn (97+fl x))):=by rw [show fl x=x+1 by unfold fl; rw [Y1 (by omega)]];exact ny (by omega) (by omega)
  apply Ev.fn (ρ:=[some (.d (.str (sgn (97+x)))),none]) rfl;unfold oT;walk_at "ev"
 ·have hi:JC (.str ("abcdefghijklmnopqrstuvwxyz":Str)) (.int ((x:Int) - 1))=some (.str (sgn (97+fl x))):=by rw [show fl x=x - 1 by unfold fl; rw [Y0 (by omega)]];exact ny (by omega) (by omega)
  apply Ev.fn (ρ:=[some (.d (.str (sgn (97+x)))),none]) rfl;unfold oT;walk_at "ev"
theorem j9 {x:Nat} (hx:x < 26):lB [.d (.str (sgn (97+x)))]=some (.d (.str (sgn (97+fl x)))):=by
 have hf:mL (.str ("abcdefghijklmnopqrstuvwxyz":Str)) (.str (sgn (97+x)))=some (.int x):=by have e:mL (.str Ou) (.str (sgn (97+x)))=(qr Ou (sgn (97+x))).map fun i=>D.int (i:Int):=rfl;rw [Bm x hx] at e;exact e
 have h2:=Int.emod_two_eq (x:Int);have hm:cF (.int 2) (.int ((x:Int) % 2))=some (.int (2 * ((x:Int) % 2))):=by rcases h2 with h2 | h2 <;> rw [h2] <;> rfl
 have hi:JC (.str ("abcdefghijklmnopqrstuvwxyz":Str)) (.int ((x:Int)+1 - 2 * ((x:Int) % 2)))=some (.str (sgn (97+fl x))):=by
  by_cases hp:(x:Int) % 2=0
  ·rw [show fl x=x+1 by unfold fl; rw [Y1 (by omega)]];exact ny (by omega) (by omega)
  ·rw [show fl x=x - 1 by unfold fl; rw [Y0 (by omega)]];exact ny (by omega) (by omega)
 apply Ev.fn (ρ:=[some (.d (.str (sgn (97+x)))),none,none]) rfl;unfold mX;walk_at "ev"
open L2
abbrev RS:=List Int × List (Int × Int)
def HU (a j:Int) (p q:RS):RS:=(j::(p.1++a::q.1),(a,j)::(p.2++q.2))
def Np (M:Int->Int->Bool):Nat->Nat->Int->List RS
 | 0,_,_=>[([],[])]
 | _+1,0,_=>[([],[])]
 | f+1,L+1,a=>(List.range L).flatMap fun (t:Nat)=>if M a (a+1+(t:Int))=true then (Np M f t (a+1)).flatMap fun p=>(Np M f (L - 1 - t) (a+1+t+1)).map fun q=>HU a (a+1+t) p q else []
def FP (M:Int->Int->Bool) (a b:Int):List RS:=Np M (b - a).toNat (b - a).toNat a
theorem cB {α β:Type} {f g:α->List β}:∀ {l:List α},(∀ x ∈ l,f x=g x)->l.flatMap f=l.flatMap g
 | [],_=>rfl
 | a::l,h=>by
  rw [List.flatMap_cons,List.flatMap_cons,h a Li,cB fun x hx=>h x (Z8 _ hx)]
theorem oX (M:Int->Int->Bool):∀ (f L:Nat) (a:Int),L<=f->Np M f L a=Np M L L a:=by
 suffices H:∀ (n f g L:Nat) (a:Int),L<=n->L<=f->L<=g->Np M f L a=Np M g L a from fun f L a h=>H L f L L a (JI _) h (JI _)
 intro n
 induction n with
 | zero=>
  intro f g L a h _ _;have:L=0:=by omega
  subst this;cases f <;> cases g <;> rfl
 | succ n ih=>
  intro f g L a h h1 h2;cases L with
  | zero=>cases f <;> cases g <;> rfl
  | succ L=>obtain ⟨f,rfl⟩:∃ f',f=f'+1:=⟨f - 1,by omega⟩;obtain ⟨g,rfl⟩:∃ g',g=g'+1:=⟨g - 1,by omega⟩;simp only [Np];apply cB;intro t ht;have ht:=List.mem_range.mp ht;rw [ih f g t _ (by omega) (by omega) (by omega),ih f g (L - 1 - t) _ (by omega) (by omega) (by omega)]
theorem EX (M:Int->Int->Bool) {a b:Int} (h:b<=a):FP M a b=[([],[])]:=by unfold FP;rw [show (b - a).toNat=0 by omega];rfl
def O4 (M:Int->Int->Bool) (a b j:Int):List RS:=if M a j=true then (FP M (a+1) j).flatMap fun p=>(FP M (j+1) b).map fun q=>HU a j p q else []
theorem Bo (M:Int->Int->Bool) {a b:Int} (h:a < b):FP M a b=(ups (a+1) (b - (a+1)).toNat).flatMap (O4 M a b):=by obtain ⟨L,hL⟩:∃ L,(b - a).toNat=L+1:=⟨(b - a).toNat - 1,by omega⟩;unfold FP;rw [hL,show (b - (a+1)).toNat=L by omega];simp only [Np,ups,List.flatMap_map];apply cB;intro t ht;have ht:=List.mem_range.mp ht;simp only [O4,FP];rw [oX M L t _ (by omega),oX M L (L - 1 - t) _ (by omega),show (a+1+(t:Int) - (a+1)).toNat=t by omega,show (b - (a+1+(t:Int)+1)).toNat=L - 1 - t by omega]
def FN (M:Int->Int->Bool) (a b:Int):Int:=(FP M a b).length
theorem fI (M:Int->Int->Bool) {a b:Int} (h:b<=a):FN M a b=1:=by unfold FN; rw [EX M h]; rfl
theorem lE {α β γ:Type} (f:α->β->γ) (y:List β):∀ x:List α,(x.flatMap fun p=>y.map (f p)).length=x.length * y.length
 | []=>by simp
 | a::x=>by rw [List.flatMap_cons,LD,Z2,lE f y x,M8,Nat.succ_mul,Nat.add_comm]
theorem Bp (M:Int->Int->Bool) (a b j:Int):((O4 M a b j).length:Int)=if M a j=true then FN M (a+1) j * FN M (j+1) b else 0:=by
 unfold O4 FN;split
 ·rw [lE]; simp
 ·rfl
theorem eR (M:Int->Int->Bool) {a b:Int} (h:a < b):FN M a b=((ups (a+1) (b - (a+1)).toNat).map fun j=>if M a j=true then FN M (a+1) j * FN M (j+1) b else 0).sum:=by
 unfold FN;rw [Bo M h];generalize ups (a+1) (b - (a+1)).toNat=l
 induction l with
 | nil=>rfl
 | cons x l ih=>rw [List.flatMap_cons,LD,Z6,Yg,<- ih,Int.natCast_add,Bp];rfl
open L2
theorem J9 {lo:Int} {n:Nat} {j:Int}:j ∈ ups lo n ↔ lo<=j/\j < lo+n:=by
 unfold ups;rw [Ke];constructor
 ·rintro ⟨t,ht,rfl⟩;have:=List.mem_range.mp ht;omega
 ·rintro ⟨h1,h2⟩;exact ⟨(j - lo).toNat,List.mem_range.mpr (by omega),by omega⟩
theorem lF (M:Int->Int->Bool) (a b:Int):0<=FN M a b:=by unfold FN; omega
theorem sy {f g:Int->Int}:∀ {l:List Int},(∀ x ∈ l,f x<=g x)->(l.map f).sum<=(l.map g).sum
 | [],_=>L7 _
 | a::l,h=>by
  rw [Z6,Z6,Yg,Yg];have h1:=h a Li;have h2:=sy (l:=l) fun x hx=>h x (Z8 _ hx);omega
def NN (n:Nat):Int:=[1,0,1,0,2,0,5,0,14,0,42,0,132,0,429,0,1430,0,4862,0,16796,0,58786,0,208012,0,742900,0,2674440,0,9694845,0,35357670,0,129644790,0,477638700,0,1767263190,0,6564120420].getD n 0
theorem Bq:∀ n:Nat,n<=40->1<=n->((List.range (n - 1)).map fun t=>NN t * NN (n - 2 - t)).sum<=NN n:=by decide +kernel
theorem sA:∀ n:Nat,n<=40->0<=NN n:=by decide +kernel
theorem xE:∀ n:Nat,n<=40->NN n<=6564120420:=by decide +kernel
theorem EY (M:Int->Int->Bool):∀ (n:Nat) {a b:Int},n<=40->b - a=n->FN M a b<=NN n:=by
 intro n
 induction n using Nat.strongRecOn with
 | ind n ih=>
  intro a b h10 hn;by_cases h:a < b
  ·rw [eR M h];refine Int.le_trans (sy (g:=fun j=>NN (j - (a+1)).toNat * NN (b - (j+1)).toNat) fun j hj=>?_) ?_
   ·have hj':=J9.mp hj;have p1:=sA (j - (a+1)).toNat (by omega);have p2:=sA (b - (j+1)).toNat (by omega);split
    ·exact Int.mul_le_mul (ih (j - (a+1)).toNat (by omega) (by omega) (by omega)) (ih (b - (j+1)).toNat (by omega) (by omega) (by omega)) (lF _ _ _) p1
    ·exact Int.mul_nonneg p1 p2
   ·refine Int.le_trans (Int.le_of_eq ?_) (Bq n h10 (by omega));unfold ups;rw [KP,show (b - (a+1)).toNat=n - 1 by omega];congr 1;apply Yn;intro t ht;have:=List.mem_range.mp ht;simp only [Function.comp];rw [show (a+1+(t:Int) - (a+1)).toNat=t by omega,show (b - (a+1+(t:Int)+1)).toNat=n - 2 - t by omega]
  ·rw [fI M (by omega),show n=0 by omega];decide
theorem gz (M:Int->Int->Bool) {a b:Int} (h:b - a<=40) (h':a<=b):0<=FN M a b/\FN M a b<=6564120420:=
 ⟨lF _ _ _,Int.le_trans (EY M (b - a).toNat (by omega) (by omega)) (xE _ (by omega))⟩
theorem EZ (M:Int->Int->Bool):∀ (n:Nat) {a b:Int},b - a=n->n % 2=1->FN M a b=0:=by
 intro n
 induction n using Nat.strongRecOn with
 | ind n ih=>
  intro a b hn ho;rw [eR M (by omega)];have key:∀ l:List Int,(∀ j ∈ l,a+1<=j/\j < b)->(l.map fun j=>if M a j=true then FN M (a+1) j * FN M (j+1) b else 0).sum=0:=by
   intro l
   induction l with
   | nil=>intro _; rfl
   | cons j l ihl=>
    intro hl;have hj:=hl j Li;rw [Z6,Yg,ihl fun x hx=>hl x (Z8 _ hx)];have z:(if M a j=true then FN M (a+1) j * FN M (j+1) b else 0)=0:=by
     split
     ·by_cases hp:(j - (a+1)).toNat % 2=1
      ·rw [ih (j - (a+1)).toNat (by omega) (a:=a+1) (b:=j) (by omega) hp,Int.zero_mul]
      ·rw [ih (b - (j+1)).toNat (by omega) (a:=j+1) (b:=b) (by omega) (by omega),Int.mul_zero]
     ·rfl
    rw [z]; rfl
  exact key _ fun j hj=>by have:=J9.mp hj; omega
open L2
def sm (l:List Int) (f:Int->Int):Int:=(l.map f).sum
theorem ka (f:Int->Int):sm [] f=0:=rfl
theorem bq (a:Int) (l:List Int) (f:Int->Int):sm (a::l) f=f a+sm l f:=by unfold sm; rw [Z6,Yg]
theorem kb (l m:List Int) (f:Int->Int):sm (l++m) f=sm l f+sm m f:=by unfold sm; rw [LW,List.sum_append]
theorem cC (h:∀ x ∈ l,f x=g x):sm l f=sm l g:=by unfold sm; rw [Yn h]
theorem iW (h:∀ x ∈ l,f x=0):sm l f=0:=by
 induction l with
 | nil=>rfl
 | cons a l ih=>rw [bq,h a Li,ih fun x hx=>h x (Z8 _ hx)]; rfl
theorem E1 (l:List Int) (f g:Int->Int):sm l (fun x=>f x+g x)=sm l f+sm l g:=by
 induction l with
 | nil=>rfl
 | cons a l ih=>rw [bq,bq,bq,ih]; omega
theorem sB (c:Int) (l:List Int) (f:Int->Int):c * sm l f=sm l fun x=>c * f x:=by
 induction l with
 | nil=>rw [ka,ka,Int.mul_zero]
 | cons a l ih=>rw [bq,bq,Int.mul_add,ih]
theorem xF (c:Int) (l:List Int) (f:Int->Int):sm l f * c=sm l fun x=>f x * c:=by rw [Int.mul_comm,sB]; exact cC fun x _=>Int.mul_comm _ _
theorem Br (l m:List Int) (f:Int->Int->Int):(sm l fun x=>sm m fun y=>f x y)=sm m fun y=>sm l fun x=>f x y:=by
 induction l with
 | nil=>rw [ka]; exact (iW fun _ _=>rfl).symm
 | cons a l ih=>rw [bq,ih,<- E1];exact cC fun y _=>(bq a l fun x=>f x y).symm
theorem eS (lo:Int) (m n:Nat):ups lo (m+n)=ups lo m++ups (lo+m) n:=by
 induction n with
 | zero=>simp [ups]
 | succ n ih=>rw [<- Nat.add_assoc,dW,ih,dW,List.append_assoc,show lo+((m+n:Nat):Int)=lo+m+n by omega]
theorem xG (lo:Int) (n:Nat):ups lo (n+1)=lo::ups (lo+1) n:=by rw [Nat.add_comm,eS];simp [ups]
theorem xH {lo c:Int} {n:Nat} (h1:lo<=c) (h2:c < lo+n) (g:Int->Int):sm (ups (c+1) (lo+n - (c+1)).toNat) g=sm (ups lo n) fun q=>if c < q then g q else 0:=by
 have e:n=(c+1 - lo).toNat+(lo+n - (c+1)).toNat:=by omega
 conv=>rhs; rw [e,eS,kb,show lo+((c+1 - lo).toNat:Int)=c+1 by omega]
 rw [iW (l:=ups lo _),Int.zero_add]
 ·exact cC fun q hq=>by rw [Y1 (by have:=J9.mp hq; omega)]
 ·intro q hq;rw [Y0 (by have:=J9.mp hq; omega)]
theorem xI {lo c:Int} {n:Nat} (h1:lo<=c) (h2:c<=lo+n) (g:Int->Int):sm (ups lo (c - lo).toNat) g=sm (ups lo n) fun q=>if q < c then g q else 0:=by
 have e:n=(c - lo).toNat+(lo+n - c).toNat:=by omega
 conv=>rhs; rw [e,eS,kb,show lo+((c - lo).toNat:Int)=c by omega]
 rw [iW (l:=ups c _),Int.add_zero]
 ·exact cC fun q hq=>by rw [Y1 (by have:=J9.mp hq; omega)]
 ·intro q hq;rw [Y0 (by have:=J9.mp hq; omega)]
def Oi (M:Int->Int->Bool) (a b j:Int):Int:=if M a j=true then FN M (a+1) j * FN M (j+1) b else 0
def Nb (M:Int->Int->Bool) (a b q:Int):Int:=if M q (b - 1)=true then FN M a q * FN M (q+1) (b - 1) else 0
theorem oY (M:Int->Int->Bool) {a b:Int} (h:a < b):FN M a b=sm (ups (a+1) (b - (a+1)).toNat) (Oi M a b):=eR M h
theorem Bs (M:Int->Int->Bool):∀ (n:Nat) {a b:Int},b - a=n->a < b->FN M a b=sm (ups a (b - 1 - a).toNat) (Nb M a b):=by
 intro n
 induction n using Nat.strongRecOn with
 | ind n ih=>
  intro a b hn h;rw [oY M h];by_cases h2:b=a+1
  ·subst h2;rw [show (a+1 - (a+1)).toNat=0 by omega,show (a+1 - 1 - a).toNat=0 by omega];rfl
  ·obtain ⟨m,hm⟩:∃ m:Nat,b=a+2+m:=⟨(b - (a+2)).toNat,by omega⟩;rw [show (b - (a+1)).toNat=m+1 by omega,show (b - 1 - a).toNat=m+1 by omega,dW,xG,kb,bq,bq,ka,Int.add_zero];have t0:Oi M a b (a+1+m)=Nb M a b a:=by unfold Oi Nb;rw [show a+1+(m:Int)=b - 1 by omega,show b - 1+1=b by omega,fI M (L7 b),fI M (L7 a),Int.mul_one,Int.one_mul]
   rw [t0,Int.add_comm];congr 1;have e1:sm (ups (a+1) m) (Oi M a b)=sm (ups (a+1) m) fun j=>sm (ups (a+1) m) fun q=>if j < q then (if M a j=true then FN M (a+1) j else 0) * (if M q (b - 1)=true then FN M (j+1) q * FN M (q+1) (b - 1) else 0) else 0:=by
    refine cC fun j hj=>?_;have hj:=J9.mp hj;rw [<- xH (c:=j) (by omega) (by omega),<- sB,show (a+1+(m:Int) - (j+1)).toNat=(b - 1 - (j+1)).toNat by omega];have:=ih (b - (j+1)).toNat (by omega) (a:=j+1) (b:=b) (by omega) (by omega);unfold Oi;split
    ·rw [this]; rfl
    ·rw [Int.zero_mul]
   have e2:sm (ups (a+1) m) (Nb M a b)=sm (ups (a+1) m) fun q=>sm (ups (a+1) m) fun j=>if j < q then (if M a j=true then FN M (a+1) j else 0) * (if M q (b - 1)=true then FN M (j+1) q * FN M (q+1) (b - 1) else 0) else 0:=by
    refine cC fun q hq=>?_;have hq:=J9.mp hq;rw [<- xI (c:=q) (by omega) (by omega)];unfold Nb;split
    ·rename_i hm;rw [oY M (show a < q by omega),xF,show (q - (a+1)).toNat=(q - (a+1)).toNat from rfl];refine cC fun j _=>?_;unfold Oi;split
     ·rw [Int.mul_assoc]
     ·rw [Int.zero_mul,Int.zero_mul]
    ·symm;exact iW fun j _=>Int.mul_zero _
   rw [e1,e2];exact Br _ _ _
open L2
theorem xJ (h:x.natAbs < 2 ^ n) (hn:n<=1000000):JQ x:=by
 unfold JQ;by_cases e:x.natAbs=0
 ·rw [e]; decide
 ·exact KL ((Nat.log2_lt e).mpr h) hn
theorem uE (h:-1000000000000000000 < x/\x < 1000000000000000000):JQ x:=xJ (n:=60) (by omega) (by omega)
theorem E2 {x:Int} {n:Nat} (h:x.natAbs < 2 ^ n) (hn:n<=9000) (h0:x ≠ 0):x.natAbs.log2 < 9000:=KL ((Nat.log2_lt (by omega)).mpr h) hn
theorem sC (h1:JQ i) (h2:JQ j):cF (.int i) (.int j)=some (.int (i * j)):=Y1 ⟨h1,h2⟩
theorem xK (h1:0 < j) (h2:j.natAbs.log2 < 9000):ul (.int i) (.int j)=some (.int (i / j)):=by show (if _ then _ else _)=_;rw [Y1 ⟨by omega,h2⟩,Int.fdiv_eq_ediv_of_nonneg _ (by omega)]
local macro_rules | `(tactic| walk_at "bits")=>`(tactic| first | assumption | exact uE (by omega))
local macro_rules | `(tactic| walk_at "opl")=>`(tactic| first | with_reducible assumption | with_reducible exact Mir.sC (by walk_at "bits") (by walk_at "bits") | with_reducible exact Mir.max2I _ _ | with_reducible exact Mir.absI' _)
theorem sD (s:Int) {n:Int} (h:0 < n) (hb:n.natAbs.log2 < 9000):d4 [.d (.lst [.int s]),.d (.int n)]=some (.d (.int (s % n)),.d (.lst [.int (s / n)])):=by
 have dv:=xK (i:=s) h hb;have i0:JC (.lst [.int s]) (.int 0)=some (.int s):=rfl;apply Ev.O7 (ρ:=[some (.d (.lst [.int s])),some (.d (.int n)),none]) rfl;unfold mW;walk_at "ev"
 ·rfl
 ·rfl
 ·rfl
open L2
local macro_rules | `(tactic| walk_at "opl")=>`(tactic| first | with_reducible assumption | with_reducible exact Mir.sC (by walk_at "bits") (by walk_at "bits") | with_reducible exact Mir.absI' _)
theorem Bt (h:k<=9):(2147483629:Int) ^ k<=2147483629 ^ 9:=by
 have:k=0∨k=1∨k=2∨k=3∨k=4∨k=5∨k=6∨k=7∨k=8∨k=9:=by omega
 rcases this with rfl | rfl | rfl | rfl | rfl | rfl | rfl | rfl | rfl | rfl <;> decide +kernel
theorem E3 (h:-B < x/\x < B) (hB:B.natAbs < 2 ^ n):x.natAbs < 2 ^ n:=Nat.lt_trans (by omega) hB
theorem cS (ns:List Int) (hns:ns.length<=63) {k:Int} (h0:0<=k) (h1:k < 1000):∃ s,rW [.scr ns,.d (.int k)]=some (.d (.lst [.int s])):=by
 have done:∀ (n:Int),(∃ s ρ',ay (bE (mB (Jn (JG 4 false) (Jn jq (ac 2) (mC (.int 3))) (mC (.int 0)))) (cJ (bW bH (ad (Jn ul (ac 2) (mC (.int 3))) ah))) (ba)) (ay (am [1,2] (aK bH (Jn aZ (Jn jq (ac 2) (mC (.int 2147483629))) (Jn cF (mC (.int 40014)) (Jn aZ (ac 1) (mC (.int 1))))) (af 3))) (ay (aK bH (mC (.int 0)) (af 4)) (ay (am [3,5] (cp (dN (ad (mC (.int 9)) ah)) (af 5) dZ)) (cJ (bW bH (ad (ac 4) ah)))))) [none,some (.d (.int k)),some (.d (.int n)),none,none,none]=some (.ret (.d (.lst [.int s])),ρ')):=by
  intro n;by_cases w:n % 3=0
  ·have dv:=xK (i:=n) (j:=3) (by decide) (by decide);refine ⟨n / 3,?_⟩;apply Exists.intro;walk_at "ev"
  ·have m0:=Int.emod_nonneg n (show (2147483629:Int) ≠ 0 by decide);have m1:=Int.emod_lt_of_pos n (show (0:Int) < 2147483629 by decide);obtain ⟨⟨mx,fd⟩,⟨a1,a2,a3,a4⟩,loop⟩:=bA (g:=af 5) (f:=dZ) (e:=D.int) (l:=ups 0 (9:Int).toNat) (env:=fun x:Int × Int=>[none,none,none,some (.d (.int x.1)),some (.d (.int x.2)),none])
    (fun pre x=>0<=x.1/\x.1 < 1000000000000/\0<=x.2/\x.2 < 2147483629 ^ pre.length)
    (fun pre a post x hsp hP=>by
     obtain ⟨mx,fd⟩:=x;obtain ⟨q1,q2,q3,q4⟩:=hP;obtain ⟨b1,b2,_⟩:=cf hsp;dsimp only at q1 q2 q3 q4;have hl:pre.length < 9:=b2;have e0:=Int.emod_nonneg (mx * mx+69069 * mx+a+1) (show (2147483629:Int) ≠ 0 by decide);have e1:=Int.emod_lt_of_pos (mx * mx+69069 * mx+a+1) (show (0:Int) < 2147483629 by decide);generalize em:(mx * mx+69069 * mx+a+1) % 2147483629=mm at e0 e1;have p1:=Bt (k:=pre.length) (by omega);have bf:JQ fd:=xJ (n:=320) (E3 (B:=2147483629 ^ 9) ⟨by omega,by omega⟩ (by decide +kernel)) (by omega);refine ⟨(mm,fd * 2147483629+mm),⟨by dsimp only; omega,by dsimp only; omega,?_,?_⟩,?_⟩
     ·dsimp only;have:=Int.mul_nonneg q3 (show (0:Int)<=2147483629 by decide);omega
     ·dsimp only;have h2:(fd+1) * 2147483629<=2147483629 ^ pre.length * 2147483629:=Int.mul_le_mul_of_nonneg_right (by omega) (by decide);rw [show (pre++[a]).length=pre.length+1 by simp,Int.pow_succ];rw [Int.add_mul] at h2;omega
     ·apply Ev.turn;walk_at "ev";unfold dZ;walk_at "ev";rw [em]) (n % 2147483629+40014 * (k+1),0) ⟨by dsimp only; omega,by dsimp only; omega,by dsimp only; omega,by simp⟩
   refine ⟨fd,?_⟩;apply Exists.intro;walk_at "ev"
 by_cases w:k < (ns.length:Int)
 ·obtain ⟨s,ρ',hd⟩:=done (ns.getD k.toNat 0);have ix:Ku ns k=some (ns.getD k.toNat 0):=by rw [eQ ⟨h0,w⟩,Z5,Z3 (by omega)];rfl
  refine ⟨s,?_⟩;apply Ev.fn (ρ:=[some (.scr ns),some (.d (.int k)),none,none,none,none]) rfl
  ·unfold jT;apply Ev.xq
   ·walk_at "ev"
   apply Ev.jN;apply Ev.xq
   ·walk_at "ev"
   apply Ev.jN;exact hd
  ·rfl
 ·obtain ⟨s,ρ',hd⟩:=done (7 * k+5);refine ⟨s,?_⟩;apply Ev.fn (ρ:=[some (.scr ns),some (.d (.int k)),none,none,none,none]) rfl
  ·unfold jT;apply Ev.xq
   ·walk_at "ev"
   apply Ev.jN;apply Ev.xq
   ·walk_at "ev"
   apply Ev.jN;exact hd
  ·rfl
open L2
theorem lG {β:Type} {fc:MT} {fb:MS} {env:β->En} (P Q:β->Prop) (m:β->Nat)
 (hs:∀ b,P b->(Q b/\fc (env b)=some (false,env b))∨∃ b',fc (env b)=some (true,env b)/\fb (env b)=some (.nx,env b')/\P b'/\m b' < m b) :
 ∀ (n:Nat) (b:β),P b->m b < n->∃ b',P b'/\Q b'/\NX fc fb n (env b)=some (.nx,env b'):=by
 intro n
 induction n with
 | zero=>intro b _ h; omega
 | succ n ih=>
  intro b hb hm;rcases hs b hb with ⟨q,h⟩ | ⟨b',h1,h2,h3,h4⟩
  ·refine ⟨b,hb,q,?_⟩;unfold NX;simp only [h,Z1];simp
  ·obtain ⟨c,c1,c2,c3⟩:=ih b' h3 (by omega);refine ⟨c,c1,c2,?_⟩;unfold NX;simp only [h1,Z1,h2];simpa using c3
def b8 (r:List Int) (p:Int × Int):List Int:=(r.set p.1.toNat p.2).set p.2.toNat p.1
def Pf (n:Int) (sh:List (Int × Int)):Prop:=∀ p ∈ sh,0<=p.1/\p.1 < n/\0<=p.2/\p.2 < n
theorem xL (n:Nat) (d:D):(List.replicate n [d]).flatten=List.replicate n d:=by
 induction n with
 | zero=>rfl
 | succ n ih=>rw [LR,MQ,ih,LR]; rfl
theorem qC (h:0<=n/\n < 1000000):wq (.lst [d]) (.int n)=some (.lst (List.replicate n.toNat d)):=by have hs:n.toNat < sizeLine:=bC (by omega);have:-(2 ^ 63)<=n/\n < 2 ^ 63/\[d].length * n.toNat<=sizeLine:=⟨by omega,by omega,by simp; omega⟩;show (if _ then _ else _)=_;rw [Y1 this,xL]
def iK (n:Int) (sh:List (Int × Int)):List Int:=sh.foldl b8 (List.replicate n.toNat (-1))
theorem xM (h0:0<=n) (h1:n<=100) (hb:Pf n sh):Bf [.d (.int n),.d (.tup (sh.map ae))]=some (.d (.lst ((iK n sh).map D.int))):=by
 obtain ⟨_,loop⟩:=xp (g:=a9 2 (az (af 3) (az (af 4) be))) (f:=iV) (e:=ae) (l:=sh) (env:=fun r:List Int=>[none,some (.d (.tup (sh.map ae))),some (.d (.lst (r.map D.int))),none,none]) (step:=b8) (P:=fun r=>r.length=n.toNat)
  (fun r p hp hr=>by
   have hp:=hb p hp;refine ⟨by simp [b8,hr],?_⟩;apply Ev.turn;walk_at "ev";unfold iV;walk_at "ev";simp only [b8,List.map_set]) (List.replicate n.toNat (-1)) (by simp)
 rw [List.map_replicate] at loop;have hr:=qC (n:=n) (d:=.int (-1)) (by omega);apply Ev.fn (ρ:=[some (.d (.int n)),some (.d (.tup (sh.map ae))),none,none,none]) rfl;unfold rT;walk_at "ev";rfl
def Sh (n:Int) (sh:List (Int × Int)):Prop:=(∀ p ∈ sh,0<=p.1/\p.1 < p.2/\p.2 < n)/\sh.Pairwise fun a b=>a.1 < b.1/\(a.2 < b.1∨b.2 < a.2)
theorem Sh.two (h:Sh n sh) {p q:Int × Int} (hp:p ∈ sh) (hq:q ∈ sh) (hl:p.1 < q.1):p.2 < q.1∨q.2 < p.2:=by
 have h2:=h.2;clear h
 induction sh with
 | nil=>cases hp
 | cons a sh ih=>
  rw [List.pairwise_cons] at h2;rcases JS.mp hp with rfl | hp'
  ·rcases JS.mp hq with rfl | hq'
   ·omega
   ·exact (h2.1 q hq').2
  ·rcases JS.mp hq with rfl | hq'
   ·have:=(h2.1 p hp').1; omega
   ·exact ih hp' hq' h2.2
theorem Sh.one (h:Sh n sh) {p q:Int × Int} (hp:p ∈ sh) (hq:q ∈ sh) (hl:p.1=q.1):p=q:=by
 have h2:=h.2;clear h
 induction sh with
 | nil=>cases hp
 | cons a sh ih=>
  rw [List.pairwise_cons] at h2;rcases JS.mp hp with rfl | hp'
  ·rcases JS.mp hq with rfl | hq'
   ·rfl
   ·have:=(h2.1 q hq').1; omega
  ·rcases JS.mp hq with rfl | hq'
   ·have:=(h2.1 p hp').1; omega
   ·exact ih hp' hq' h2.2
def oZ (k:Int) (q:Int) (p:Int × Int):Int:=if p.2=k then p.1 else if p.1=k then p.2 else q
theorem o5 {α:Type} (r:List α) (i k:Nat) (x d:α) (h:i < r.length):(r.set i x).getD k d=if i=k then x else r.getD k d:=by
 rw [Z5,Z5,List.getElem?_set];by_cases e:i=k
 ·subst e; simp [h]
 ·simp [e]
theorem nB (k:Nat):∀ (sh:List (Int × Int)) (r:List Int),Pf n sh->r.length=n.toNat->(sh.foldl b8 r).getD k 0=sh.foldl (oZ k) (r.getD k 0)
 | [],r,_,_=>rfl
 | p::sh,r,hb,hr=>by
  have hp:=hb p (by simp);rw [Oo,Oo,nB k sh _ (fun q hq=>hb q (by simp [hq])) (by simp [b8,hr])];congr 1;unfold b8 oZ;rw [o5 _ _ _ _ _ (by rw [K9]; omega),o5 _ _ _ _ _ (by omega)];have e2:(p.2.toNat=k)=(p.2=(k:Int)):=propext (by omega);have e1:(p.1.toNat=k)=(p.1=(k:Int)):=propext (by omega);simp only [e1,e2]
theorem nC:∀ {sh:List (Int × Int)} {q:Int},(∀ p ∈ sh,p.1 ≠ k/\p.2 ≠ k)->sh.foldl (oZ k) q=q
 | [],_,_=>rfl
 | p::sh,q,h=>by
  have hp:=h p (by simp);rw [Oo,nC fun p hp=>h p (by simp [hp])];unfold oZ;rw [Y0 hp.2,Y0 hp.1]
theorem Sh.LH (h:Sh n sh):Pf n sh:=fun p hp=>by have:=h.1 p hp; omega
theorem xN (h:Sh n sh) {k:Int} (h0:0<=k) (h1:k < n) (hf:∀ p ∈ sh,p.1 ≠ k/\p.2 ≠ k):(iK n sh).getD k.toNat 0=-1:=by unfold iK;rw [nB k.toNat sh _ h.LH (by simp),show ((k.toNat:Nat):Int)=k by omega,nC hf];rw [Z5,List.getElem?_replicate,Y1 (by omega)]; rfl
theorem uF (h:Sh n sh) {p:Int × Int} (hp:p ∈ sh):(iK n sh).getD p.1.toNat 0=p.2:=by
 have hb:=h.1 p hp;unfold iK;rw [nB p.1.toNat sh _ h.LH (by simp),show ((p.1.toNat:Nat):Int)=p.1 by omega];obtain ⟨l1,l2,rfl⟩:=List.append_of_mem hp;rw [List.foldl_append,Oo,nC]
 ·unfold oZ;rw [Y0 (by omega),Y1 rfl]
 ·intro q hq;have h2:=h.2;rw [LC] at h2;have h3:=List.pairwise_cons.mp h2.2.1;have:=(h3.1 q hq).1;have hq':=h.1 q (by simp [hq]);constructor <;> omega
theorem Bu:(iK n sh).length=n.toNat:=by
 unfold iK;have:∀ (sh:List (Int × Int)) (r:List Int),(sh.foldl b8 r).length=r.length:=by
  intro sh
  induction sh with
  | nil=>intro r; rfl
  | cons p sh ih=>intro r; rw [Oo,ih]; simp [b8]
 rw [this]; simp
def aH (sh:List (Int × Int)) (a b:Int):List (Int × Int):=sh.filter fun p=>decide (a < p.1) && decide (p.2 < b)
def bJ (ws:List (Int × Int)) (p:Int × Int):List (Int × Int):=ws.filter fun q=>decide (q.1 < p.1) && decide (p.2 < q.2)
def inner (sh:List (Int × Int)) (a b:Int):List (Int × Int):=(aH sh a b).filter fun p=>(bJ (aH sh a b) p).isEmpty
def eC (l:List (Int × Int)):Int:=(l.map fun p=>p.2 - p.1+1).sum
theorem Jl:p ∈ aH sh a b ↔ p ∈ sh/\a < p.1/\p.2 < b:=by simp [aH]
theorem Jv:p ∈ inner sh a b ↔ p ∈ aH sh a b/\∀ q ∈ aH sh a b,q.1 < p.1->¬ p.2 < q.2:=by
 unfold inner;rw [List.mem_filter,List.isEmpty_iff];constructor
 ·rintro ⟨h1,h2⟩;refine ⟨h1,fun q hq h3 h4=>?_⟩;have:q ∈ bJ (aH sh a b) p:=by simp [bJ,hq,h3,h4]
  rw [h2] at this; cases this
 ·rintro ⟨h1,h2⟩;refine ⟨h1,List.eq_nil_iff_forall_not_mem.mpr fun q hq=>?_⟩;simp [bJ] at hq;exact h2 q hq.1 hq.2.1 hq.2.2
theorem dw (h:Sh n sh) (a b:Int):(inner sh a b).Pairwise fun a b=>a.1 < b.1:=by unfold inner aH;exact ((h.2.imp fun h=>h.1).filter _).filter _
theorem Bv {l:List (Int × Int)} (hs:l.Pairwise fun a b=>a.1 < b.1) {p:Int × Int} (hp:p ∈ l) {t:Int} (ht:p.1<=t) (hn:∀ q ∈ l,q.1<=t->q.1<=p.1):(l.filter fun q=>decide (q.1 < t+1))=(l.filter fun q=>decide (q.1 < p.1))++[p]:=by
 induction l with
 | nil=>cases hp
 | cons a l ih=>
  rw [List.pairwise_cons] at hs;rcases JS.mp hp with rfl | hp'
  ·rw [List.filter_cons_of_pos (by simp; omega),List.filter_cons_of_neg (by simp)];have e1:(l.filter fun q=>decide (q.1 < t+1))=[]:=List.filter_eq_nil_iff.mpr fun q hq=>by
    have:=hs.1 q hq;intro h;have h:=of_decide_eq_true h;have:=hn q (by simp [hq]) (by omega);omega
   have e2:(l.filter fun q=>decide (q.1 < p.1))=[]:=List.filter_eq_nil_iff.mpr fun q hq=>by
    have:=hs.1 q hq;intro h;have h:=of_decide_eq_true h;omega
   rw [e1,e2]; rfl
  ·have:=hs.1 p hp';rw [List.filter_cons_of_pos (by simp; omega),List.filter_cons_of_pos (by simpa using this),ih hs.2 hp' fun q hq h=>hn q (by simp [hq]) h];rfl
local macro_rules | `(tactic| walk_at "evS")=>`(tactic| focus ((with_reducible show Mir.cq _ _ _ _=_); with_reducible assumption))
open L2
theorem OF:JC (.tup (a::l)) (.int 0)=some a:=by show Ku (a::l) 0=some a;rw [eQ (by simp)]; rfl
theorem OS:JC (.tup (a::b::l)) (.int 1)=some b:=by show Ku (a::b::l) 1=some b;rw [eQ (by simp; omega)]; rfl
local macro_rules | `(tactic| walk_at "opl")=>`(tactic| first | with_reducible exact Mir.OF | with_reducible exact Mir.OS)
theorem nY1 (o:Int × Int):wW (ae o) .non=some (.bl true):=rfl
theorem nY0:wW .non .non=some (.bl false):=rfl
local macro_rules | `(tactic| walk_at "opl")=>`(tactic| first | with_reducible exact Mir.OF | with_reducible exact Mir.OS | with_reducible exact Mir.nY1 _ | with_reducible exact Mir.nY0)
def Bw (sh:List (Int × Int)) (a b:Int):Prop:=∀ p ∈ sh,(a < p.1->p.1 < b->p.2 < b)/\(a < p.2->p.2 < b->a < p.1)
theorem o6 (h:Sh n sh):Bw sh (-1) n:=fun p hp=>by have:=h.1 p hp; constructor <;> intros <;> omega
theorem lH (h:Sh n sh) {o:Int × Int} (ho:o ∈ sh):Bw sh o.1 o.2:=fun p hp=>by
 have hb:=h.1 p hp;constructor
 ·intro h1 h2;have:=h.two ho hp h1;omega
 ·intro h1 h2;rcases YE p.1 o.1 with h3 | h3 | h3
  ·have:=h.two hp ho h3; omega
  ·have:=h.one hp ho h3; subst this; omega
  ·exact h3
theorem uG (l m:List (Int × Int)):eC (l++m)=eC l+eC m:=by simp [eC]
theorem lI (hn:0<=n/\n<=100) (h:Sh n sh) {a b:Int} (ha:-1<=a) (hab:a < b) (hb:b<=n) (pt:Bw sh a b) :
 ∃ free:List Int,(free.length:Int)+eC (inner sh a b)=b - a - 1/\cq 100000 (mB (Jn Lf (ac 4) (ac 5))) cy [none,none,none,some (.d (.lst ((iK n sh).map D.int))),some (.d (.int (a+1))),some (.d (.int b)),some (.d (.lst [])),some (.d (.lst []))] =
  some (.nx,[none,none,none,some (.d (.lst ((iK n sh).map D.int))),some (.d (.int b)),some (.d (.int b)),some (.d (.lst ((inner sh a b).map ae))),some (.d (.lst (free.map D.int)))]):=by
 have hlen:=Bu (n:=n) (sh:=sh);obtain ⟨⟨s,hs,fr⟩,⟨c1,c2,c3,c4,c5,c6,c7⟩,q,loop⟩:=lG (fc:=mB (Jn Lf (ac 4) (ac 5))) (fb:=cy) (env:=fun x:Int × List (Int × Int) × List Int=>[none,none,none,some (.d (.lst ((iK n sh).map D.int))),some (.d (.int x.1)),some (.d (.int b)),some (.d (.lst (x.2.1.map ae))),some (.d (.lst (x.2.2.map D.int)))])
  (fun x=>a < x.1/\x.1<=b/\(∀ p ∈ aH sh a b,p.1 < x.1->p.2 < x.1)/\x.2.1=(inner sh a b).filter (fun p=>decide (p.1 < x.1))/\(x.2.2.length:Int)+eC x.2.1=x.1 - a - 1/\(x.2.1.length:Int)<=x.1 - a - 1/\(x.2.2.length:Int)<=x.1 - a - 1)
  (fun x=>x.1=b) (fun x=>(b - x.1).toNat)
  (fun x hx=>by
   obtain ⟨s,hs,fr⟩:=x;obtain ⟨c1,c2,c3,c4,c5,c6,c7⟩:=hx;dsimp only at c1 c2 c3 c4 c5 c6 c7;by_cases hsb:s < b
   ·right;by_cases hf:∃ p ∈ sh,p.1=s
    ·obtain ⟨p,hp,rfl⟩:=hf;have hpb:=h.1 p hp;have hin:=(pt p hp).1 c1 hsb;have hw:p ∈ aH sh a b:=Jl.mpr ⟨hp,c1,hin⟩;have hi:p ∈ inner sh a b:=Jv.mpr ⟨hw,fun q hq h1 h2=>by have:=c3 q hq h1; omega⟩;have e1:=uF h hp;have e2:¬ (iK n sh).getD p.1.toNat 0=-1:=by rw [e1]; omega
     refine ⟨(p.2+1,hs++[p],fr),?_,?_,⟨by dsimp only; omega,by dsimp only; omega,?_,?_,?_,?_,?_⟩,?_⟩
     ·rw [<- decide_eq_true hsb];walk_at "ev"
     ·apply Ev.top;unfold cy;walk_at "ev";simp only [e1,LW,Z6,Yl]
     ·intro q hq h1;dsimp only at h1 ⊢;have hq':=Jl.mp hq;rcases YE q.1 p.1 with h3 | h3 | h3
      ·have:=c3 q hq h3; omega
      ·have:=h.one hq'.1 hp h3; subst this; omega
      ·have:=h.two hp hq'.1 h3; omega
     ·dsimp only;rw [c4,Bv (dw h a b) hi (t:=p.2) (by omega)];intro q hq h1;have hq':=Jv.mp hq;have hq2:=Jl.mp hq'.1;by_cases h3:p.1 < q.1
      ·have:=h.two hp hq2.1 h3;have:=hq'.2 p hw h3;omega
      ·omega
     ·dsimp only;rw [uG];simp only [eC,Z6,Yl,Yg,List.sum_nil];simp only [eC] at c5;omega
     ·dsimp only; simp; omega
     ·dsimp only; omega
     ·dsimp only; omega
    ·have hf':∀ p ∈ sh,p.1 ≠ s:=fun p hp e=>hf ⟨p,hp,e⟩;have hf2:∀ p ∈ sh,p.1 ≠ s/\p.2 ≠ s:=fun p hp=>⟨hf' p hp,fun e=>by
      have hpb:=h.1 p hp;have h1:=(pt p hp).2 (by omega) (by omega);have:=c3 p (Jl.mpr ⟨hp,h1,by omega⟩) (by omega);omega⟩
     have e1:=xN h (k:=s) (by omega) (by omega) hf2;refine ⟨(s+1,hs,fr++[s]),?_,?_,⟨by dsimp only; omega,by dsimp only; omega,?_,?_,?_,?_,?_⟩,?_⟩
     ·rw [<- decide_eq_true hsb];walk_at "ev"
     ·apply Ev.top;unfold cy;walk_at "ev";simp only [LW,Z6,Yl]
     ·intro q hq h1;dsimp only at h1 ⊢;have:=hf' q (Jl.mp hq).1;have:=c3 q hq (by omega);omega
     ·dsimp only;rw [c4];apply List.filter_congr;intro q hq;have:=hf' q (Jl.mp (Jv.mp hq).1).1;exact decide_eq_decide.mpr (by omega)
     ·dsimp only; simp; omega
     ·dsimp only; omega
     ·dsimp only; simp; omega
     ·dsimp only; omega
   ·left;refine ⟨by dsimp only; omega,?_⟩;rw [<- Y2 hsb];walk_at "ev") 100000 (a+1,[],[]) ⟨by dsimp only; omega,by dsimp only; omega,fun p hp h1=>by
     have:=Jl.mp hp;dsimp only at h1; omega,by
     dsimp only;refine (List.filter_eq_nil_iff.mpr fun q hq=>?_).symm;have:=(Jl.mp (Jv.mp hq).1).2.1;simp; omega,by simp [eC]; omega,by simp; omega,by simp; omega⟩ (by dsimp only; omega)
 dsimp only at c1 c2 c3 c4 c5 c6 c7 q loop;subst q;have e:hs=inner sh a s:=by rw [c4];apply List.filter_eq_self.mpr;intro p hp;have h1:=Jl.mp (Jv.mp hp).1;have:=h.1 p h1.1;exact decide_eq_true (by omega)
 subst e;exact ⟨fr,c5,loop⟩
theorem sE (hn:0<=n/\n<=100) (h:Sh n sh) {o:Int × Int} (ho:o ∈ sh) :
 ∃ free:List Int,(free.length:Int)+eC (inner sh o.1 o.2)=o.2 - o.1 - 1/\iz [.d (.int n),.d (.tup (sh.map ae)),.d (ae o)]=some (.d (.tup [.lst ((inner sh o.1 o.2).map ae),.lst (free.map D.int)])):=by
 have hb:=h.1 o ho;obtain ⟨free,f1,loop⟩:=lI hn h (a:=o.1) (b:=o.2) (by omega) (by omega) (by omega) (lH h ho);have hr:=xM hn.1 hn.2 h.LH;refine ⟨free,f1,?_⟩;apply Ev.fn (ρ:=[some (.d (.int n)),some (.d (.tup (sh.map ae))),some (.d (ae o)),none,none,none,none,none]) rfl;unfold jU;walk_at "ev"
theorem lJ (hn:0<=n/\n<=100) (h:Sh n sh) :
 ∃ free:List Int,(free.length:Int)+eC (inner sh (-1) n)=n/\iz [.d (.int n),.d (.tup (sh.map ae)),.d .non]=some (.d (.tup [.lst ((inner sh (-1) n).map ae),.lst (free.map D.int)])):=by
 obtain ⟨free,f1,loop⟩:=lI hn h (a:=-1) (b:=n) (by omega) (by omega) (by omega) (o6 h);have hr:=xM hn.1 hn.2 h.LH;refine ⟨free,by omega,?_⟩;replace loop:cq 100000 (mB (Jn Lf (ac 4) (ac 5))) cy [none,none,none,some (.d (.lst ((iK n sh).map D.int))),some (.d (.int 0)),some (.d (.int n)),some (.d (.lst [])),some (.d (.lst []))]=_:=loop;apply Ev.fn (ρ:=[some (.d (.int n)),some (.d (.tup (sh.map ae))),some (.d .non),none,none,none,none,none]) rfl;unfold jU;walk_at "ev"
open L2
def JP (ls:List Nat):Str:=txt (ls.map (97+·))
def J6 (ls:List Nat) (i:Int):Nat:=ls.getD i.toNat 0
def fe (ls:List Nat) (a j:Int):Bool:=decide (J6 ls j=fl (J6 ls a))
def Ls (ls:List Nat):Prop:=∀ x ∈ ls,x < 26
theorem hJ (h:Ls ls) {i:Int} (hi:0<=i/\i < ls.length):J6 ls i < 26:=by unfold J6;rw [Z5,Z3 (by omega)];exact h _ (YJ _)
theorem NJ (hl:ls.length < 1000000) {i:Int} (hi:0<=i/\i < ls.length):JC (.str (JP ls)) (.int i)=some (.str (sgn (97+J6 ls i))):=by unfold JP;rw [HS (by simpa using hi) (by simpa using hl)];unfold J6;rw [Z5,Kb,Z5,Z3 (by omega)];rfl
theorem uH (hl:ls.length < 1000000):a7 [.str (JP ls)]=some (.int ls.length):=by unfold JP;rw [HR (by simpa using hl)];simp
def lK (ls:List Nat) (kvs:List (List Key × D)) (lo n:Int):Prop:=∀ x y,lo<=x->x<=y->y<=n->aE kvs [.inl x,.inl y]=some (.int (FN (fe ls) x y))
def QL (ls:List Nat) (a s:Int):List (Int × Int):=((ups (a+1) (s - (a+1)).toNat).filter (fe ls a)).map fun p=>(p,FN (fe ls) (a+1) p * FN (fe ls) (p+1) s)
local macro_rules | `(tactic| walk_at "opl")=>`(tactic| first | with_reducible assumption | with_reducible exact Mir.sC (by walk_at "bits") (by walk_at "bits"))
theorem qD (hls:Ls ls) (hl:ls.length<=40) {kvs:List (List Key × D)} {a s:Int} (ha:0<=a) (has:a < s) (hs:s<=ls.length) (hg:lK ls kvs (a+1) ls.length) :
 rY [.d (.str (JP ls)),.dc kvs,.d (.int a),.d (.int s)]=some (.d (.lst ((QL ls a s).map ae))):=by
 have ia:=NJ (ls:=ls) (by omega) (i:=a) (by omega);have fa:=hG (hJ hls (i:=a) (by omega));obtain ⟨l,⟨c1,c2⟩,loop⟩:=bA (g:=af 5) (f:=d5) (e:=D.int) (l:=ups (a+1) (s - (a+1)).toNat) (env:=fun (l:List (Int × Int))=>[some (.d (.str (JP ls))),some (.dc kvs),some (.d (.int a)),some (.d (.int s)),some (.d (.lst (l.map ae))),none])
  (fun pre l=>l=(pre.filter (fe ls a)).map (fun p=>(p,FN (fe ls) (a+1) p * FN (fe ls) (p+1) s))/\l.length<=pre.length)
  (fun pre p post l hsp hp=>by
   obtain ⟨hp1,hp2⟩:=hp;obtain ⟨hp3,hp4,_⟩:=cf hsp;have ip:=NJ (ls:=ls) (by omega) (i:=p) (by omega);have g1:=hg (a+1) p (by omega) (by omega) (by omega);have g2:=hg (p+1) s (by omega) (by omega) (by omega);have b1:=gz (fe ls) (a:=a+1) (b:=p) (by omega) (by omega);have b2:=gz (fe ls) (a:=p+1) (b:=s) (by omega) (by omega);cases e:fe ls a p with
   | true=>
    have e':sgn (97+J6 ls p)=sgn (97+fl (J6 ls a)):=by rw [of_decide_eq_true e]
    refine ⟨l++[(p,FN (fe ls) (a+1) p * FN (fe ls) (p+1) s)],⟨by rw [hp1]; simp [Ye,e],by simp; omega⟩,?_⟩;apply Ev.turn;walk_at "ev";unfold d5;walk_at "ev";simp
   | false=>have e':¬ sgn (97+J6 ls p)=sgn (97+fl (J6 ls a)):=fun z=>of_decide_eq_false e (by have:=Lo.mp z; omega);refine ⟨l,⟨by rw [hp1]; simp [Ye,e],by simp; omega⟩,?_⟩;apply Ev.turn;walk_at "ev";unfold d5;walk_at "ev") [] ⟨rfl,by simp⟩
 have e1:l=QL ls a s:=c1;subst e1;apply Ev.fn (ρ:=[some (.d (.str (JP ls))),some (.dc kvs),some (.d (.int a)),some (.d (.int s)),none,none]) rfl;unfold mZ;walk_at "ev"
open L2
def eD (kvs:List (List Key × D)):Prop:=∀ kv ∈ kvs,D.imm kv.2=true
theorem E4 (ls:List Nat) {a s:Int} (h:a < s):((QL ls a s).map (·.2)).sum=FN (fe ls) a s:=by rw [eR _ h];unfold QL;rw [KP];exact j8 (c:=fe ls a) (f:=fun p=>FN (fe ls) (a+1) p * FN (fe ls) (p+1) s) _
theorem E5 (ls:List Nat) {a s:Int} (h:a < s):zG [.lst ((QL ls a s).map fun p=>D.int p.2)]=some (.int (FN (fe ls) a s)):=by rw [show ((QL ls a s).map fun p=>D.int p.2)=((QL ls a s).map (·.2)).map D.int by rw [KP]; rfl,xu,E4 ls h]
theorem E6 (ls:List Nat) (a s:Int):(QL ls a s).length<=(s - (a+1)).toNat:=by have:=NS (fe ls a) (ups (a+1) (s - (a+1)).toNat);rw [dj] at this;simp [QL];omega
theorem xO (hls:Ls ls) (hl:ls.length<=40) {kvs:List (List Key × D)} {a:Int} (ha:0<=a) (han:a < ls.length) (hg:lK ls kvs (a+1) ls.length) (h0:aE kvs [.inl a,.inl a]=some (.int 1)) (hp:eD kvs) (hk:kvs.length < 10000) :
 ∃ kvs',lK ls kvs' a ls.length/\eD kvs'/\kvs'.length<=kvs.length+41 /\
  bw (af 4) ee ((ups (a+1) ((ls.length:Int)+1 - (a+1)).toNat).map D.int) [some (.d (.str (JP ls))),some (.d (.int ls.length)),some (.dc kvs),some (.d (.int a)),none] =
   some (.nx,[some (.d (.str (JP ls))),some (.d (.int ls.length)),some (.dc kvs'),some (.d (.int a)),none]):=by
 obtain ⟨kvs',⟨c1,c2,c3,c4⟩,loop⟩:=bA (g:=af 4) (f:=ee) (e:=D.int) (l:=ups (a+1) ((ls.length:Int)+1 - (a+1)).toNat) (env:=fun (kvs:List (List Key × D))=>[some (.d (.str (JP ls))),some (.d (.int ls.length)),some (.dc kvs),some (.d (.int a)),none])
  (fun pre k=>lK ls k (a+1) ls.length/\(∀ y,a<=y->y<=a+pre.length->aE k [.inl a,.inl y]=some (.int (FN (fe ls) a y)))/\eD k/\k.length<=kvs.length+pre.length)
  (fun pre s post k hsp hP=>by
   obtain ⟨p1,p2,p3,p4⟩:=hP;obtain ⟨e1,e2,_⟩:=cf hsp;have pk:=qD hls hl (kvs:=k) (a:=a) (s:=s) ha (by omega) (by omega) p1;have su:=E5 ls (a:=a) (s:=s) (by omega);have hpl:=E6 ls a s;obtain ⟨y1,y2,lp⟩:=Ev.rS (md:=b6 cR 2 [] []) (f:=ac 1) (e1:=fun p:Int × Int=>.int p.1) (e2:=fun p=>.int p.2) (h:=fun p=>.int p.2) (r:=[]) (l:=QL ls a s) (fun p _=>⟨_,rfl,rfl⟩) (by omega) none none;refine ⟨gb k [.inl a,.inl s] (.int (FN (fe ls) a s)),⟨?_,?_,gX (P:=fun d=>D.imm d=true) p3 rfl,by have:=jR k [.inl a,.inl s] (.int (FN (fe ls) a s)); simp; omega⟩,?_⟩
   ·intro x y h1 h2 h3;rw [dY,Y0 (by intro h; injection h with h _; injection h with h; omega)];exact p1 x y h1 h2 h3
   ·intro y h1 h2;rw [dY];by_cases e:y=s
    ·subst e; rw [Y1 rfl]
    ·rw [Y0 (by intro h; injection h with _ h; injection h with h _; injection h with h; exact e h)];exact p2 y h1 (by simp at h2; omega)
   ·apply Ev.turn;walk_at "ev";unfold ee;walk_at "ev") kvs ⟨hg,fun y h1 h2=>by
     have:y=a:=by simp at h2; omega
     subst this; rw [h0,fI _ (L7 _)],hp,by simp⟩
 rw [dj] at c2 c4;refine ⟨kvs',?_,c3,by omega,loop⟩;intro x y h1 h2 h3;by_cases e:x=a
 ·subst e; exact c2 y h2 (by omega)
 ·exact c1 x y (by omega) h2 h3
theorem HV (hls:Ls ls) (hl:ls.length<=40):∃ kvs,lK ls kvs 0 ls.length/\si [.d (.str (JP ls))]=some (.dc kvs):=by
 have hlen:=uH (ls:=ls) (by omega);obtain ⟨kvs,⟨c1,c2,c3⟩,loop⟩:=bA (g:=af 3) (f:=gy) (e:=D.int) (l:=Ev.gp 0 (ls.length:Int).toNat) (env:=fun (kvs:List (List Key × D))=>[some (.d (.str (JP ls))),some (.d (.int ls.length)),some (.dc kvs),none,none])
  (fun pre k=>lK ls k (ls.length - pre.length) ls.length/\eD k/\k.length<=1+42 * pre.length)
  (fun pre a post k hsp hP=>by
   obtain ⟨p1,p2,p3⟩:=hP;obtain ⟨e1,e2⟩:=Ev.oS hsp;have ea:a+1=ls.length - pre.length:=by omega
   have hk':=jR k [.inl a,.inl a] (.int 1);obtain ⟨k',q1,q2,q3,q4⟩:=xO hls hl (kvs:=gb k [.inl a,.inl a] (.int 1)) (a:=a) (by omega) (by omega) (by
    intro x y h1 h2 h3;rw [dY,Y0 (by intro h; injection h with h _; injection h with h; omega)];exact p1 x y (by omega) h2 h3) (by rw [dY,Y1 rfl]) (gX (P:=fun d=>D.imm d=true) p2 rfl) (by omega)
   refine ⟨k',⟨?_,q2,by simp; omega⟩,?_⟩
   ·rw [show (ls.length:Int) - (pre++[a]).length=a by simp; omega];exact q1
   ·apply Ev.turn;walk_at "ev";unfold gy;walk_at "ev") [([.inl (ls.length:Int),.inl (ls.length:Int)],.int 1)] ⟨by
     intro x y h1 h2 h3;simp at h1;have:x=ls.length:=by omega
     have:y=ls.length:=by omega
     subst x y;rw [fI _ (L7 _)];simp [aE],by intro kv h; simp at h; subst h; rfl,by simp⟩
 simp only [Ev.gp,Z2,Yq] at c1 c3;rw [show (ls.length:Int) - (ls.length:Int).toNat=0 by omega] at c1;refine ⟨kvs,c1,?_⟩;have im:D.JA (kvs.map (·.2))=true:=Bd fun d hd=>by
  obtain ⟨kv,h1,rfl⟩:=Ke.mp hd;exact c2 kv h1
 apply Ev.fn (ρ:=[some (.d (.str (JP ls))),none,none,none,none]) rfl;unfold m9;walk_at "ev"
theorem qE (hls:Ls ls) (hl:ls.length<=40):sr [.d (.str (JP ls))]=some (.d (.int (FN (fe ls) 0 ls.length))):=by obtain ⟨kvs,h1,h2⟩:=HV hls hl;have h3:=h1 0 ls.length (L7 _) (by omega) (L7 _);have hlen:=uH (ls:=ls) (by omega);apply Ev.fn (ρ:=[some (.d (.str (JP ls)))]) rfl;unfold ni;walk_at "ev"
open L2
theorem CB (h:x < 26):fl (fl x)=x:=by unfold fl; split <;> split <;> omega
theorem E7 (hls:Ls ls) {q e:Int} (hq:0<=q/\q < ls.length) (he:0<=e/\e < ls.length):fe ls q e=decide (J6 ls q=fl (J6 ls e)):=by
 unfold fe;have h1:=CB (hJ hls hq);have h2:=CB (hJ hls he);by_cases c:J6 ls e=fl (J6 ls q)
 ·rw [decide_eq_true c,decide_eq_true (by rw [c,h1])]
 ·rw [Y2 c,Y2 (fun z=>c (by rw [z,h2]))]
theorem E8 (f:Int->Int):∀ (n m:Nat) (lo:Int),m<=n->(∀ x,lo<=x->x < lo+m->(lo+m - x) % 2=0->f x=0)->sm (ups lo m) f=((List.range ((m+1) / 2)).map fun (k:Nat)=>f (lo+m - 1+(k:Int) * -2)).sum:=by
 intro n
 induction n with
 | zero=>
  intro m lo hm _;obtain rfl:m=0:=by omega
  rfl
 | succ n ih=>
  intro m lo hm hz
  match m,hm,hz with
  | 0,_,_=>rfl
  | 1,_,_=>simp [sm,ups]
  | m+2,hm,hz=>
   rw [dW,dW,kb,kb,bq,bq,ka,ih m lo (by omega) fun x h1 h2 h3=>hz x h1 (by omega) (by omega),hz (lo+m) (by omega) (by omega) (by omega)];rw [show (m+2+1) / 2=(m+1) / 2+1 by omega,List.range_succ_eq_map,Z6,Yg,KP];have e:((List.range ((m+1) / 2)).map fun (k:Nat)=>f (lo+m - 1+(k:Int) * -2))=(List.range ((m+1) / 2)).map ((fun (k:Nat)=>f (lo+((m+2:Nat):Int) - 1+(k:Int) * -2)) ∘ Nat.succ):=by apply Yn;intro k _;simp only [Function.comp];congr 1;omega
   rw [e,show lo+((m+1:Nat):Int)=lo+((m+2:Nat):Int) - 1+((0:Nat):Int) * -2 by omega];omega
theorem HW (M:Int->Int->Bool) {a:Int} {z:Nat} (hz:1<=z):FN M a (a+z)=((List.range (z / 2)).map fun (k:Nat)=>Nb M a (a+z) (a+z - 2+(k:Int) * -2)).sum:=by
 rw [Bs M z (by omega) (by omega),show (a+(z:Int) - 1 - a).toNat=z - 1 by omega,E8 _ (z - 1) (z - 1) a (JI _) ?_]
 ·rw [show (z - 1+1) / 2=z / 2 by omega];congr 1;apply Yn;intro k _;rw [show a+((z - 1:Nat):Int) - 1=a+z - 2 by omega]
 ·intro x h1 h2 h3;unfold Nb;split
  ·rw [EZ M (a+z - 1 - (x+1)).toNat (a:=x+1) (b:=a+z - 1) (by omega) (by omega),Int.mul_zero]
  ·rfl
theorem E9 (hz:0<=z):ir (i+z - 2) (i - 1) (-2)=(z / 2).toNat:=by unfold ir;rw [show -(-2:Int)=2 by decide];split <;> omega
local macro_rules | `(tactic| walk_at "opl")=>`(tactic| first | with_reducible assumption | with_reducible exact Mir.OF | with_reducible exact Mir.OS | with_reducible exact Mir.sC (by walk_at "bits") (by walk_at "bits"))
local macro_rules | `(tactic| walk_at "evI")=>`(tactic| with_reducible apply Ev.Cv)
def lL (ls:List Nat) (kvs:List (List Key × D)) (x y:Int):Prop:=aE kvs [.inl x,.inl y]=some (.int (FN (fe ls) x y))
theorem HX (hls:Ls ls) (hl:ls.length<=40) {kvs:List (List Key × D)} {i z:Int} (hi:0<=i) (hz:0<=z) (hs:i+z<=ls.length) (hg:∀ x y:Int,0<=x->x<=y->y<=ls.length->y - x < z->lL ls kvs x y) {n:Int} (v0:Int) (hv:v0=if z=0 then 1 else 0) :
 bw (af 6) c9 (iu (i+z - 2) (-2) (ir (i+z - 2) (i - 1) (-2))) [some (.d (.str (JP ls))),some (.d (.int n)),some (.dc kvs),some (.d (.int z)),some (.d (.int i)),some (.d (.int v0)),none] =
  some (.nx,[some (.d (.str (JP ls))),some (.d (.int n)),some (.dc kvs),some (.d (.int z)),some (.d (.int i)),some (.d (.int (FN (fe ls) i (i+z)))),none]):=by
 obtain ⟨zn,rfl⟩:=Int.eq_ofNat_of_zero_le hz;rw [E9 hz];have hn2:((zn:Int) / 2).toNat=zn / 2:=by omega
 rw [hn2];obtain ⟨v,c1,loop⟩:=bA (α:=Nat) (g:=af 6) (f:=c9) (e:=fun k=>D.int (i+zn - 2+(k:Nat) * (-2))) (l:=List.range (zn / 2)) (env:=fun (v:Int)=>[some (.d (.str (JP ls))),some (.d (.int n)),some (.dc kvs),some (.d (.int zn)),some (.d (.int i)),some (.d (.int v)),none])
  (fun pre v=>v=v0+(pre.map fun (k:Nat)=>Nb (fe ls) i (i+zn) (i+zn - 2+(k:Int) * -2)).sum)
  (fun pre k post v hsp hp=>by
   have hk:k < zn / 2:=List.mem_range.mp (by rw [hsp]; simp);obtain ⟨j,hj⟩:∃ j:Int,j=i+zn - 2+(k:Int) * -2:=⟨_,rfl⟩;have hj1:i<=j/\j<=i+zn - 2:=by omega
   have ij:=NJ (ls:=ls) (by omega) (i:=j) (by omega);have il:=NJ (ls:=ls) (by omega) (i:=i+zn - 1) (by omega);have fa:=j9 (hJ hls (i:=i+zn - 1) (by omega));have g1:aE kvs [.inl i,.inl j]=some (.int (FN (fe ls) i j)):=hg i j hi (by omega) (by omega) (by omega);have g2:aE kvs [.inl (j+1),.inl (i+zn - 1)]=some (.int (FN (fe ls) (j+1) (i+zn - 1))):=hg (j+1) (i+zn - 1) (by omega) (by omega) (by omega) (by omega);have b1:=gz (fe ls) (a:=i) (b:=j) (by omega) (by omega);have b2:=gz (fe ls) (a:=j+1) (b:=i+zn - 1) (by omega) (by omega);have fr:=E7 hls (q:=j) (e:=i+zn - 1) (by omega) (by omega);rw [<- hj];cases e:fe ls j (i+zn - 1) with
   | true=>
    rw [e] at fr;have e':sgn (97+J6 ls j)=sgn (97+fl (J6 ls (i+zn - 1))):=by rw [of_decide_eq_true fr.symm]
    refine ⟨v+FN (fe ls) i j * FN (fe ls) (j+1) (i+zn - 1),?_,?_⟩
    ·rw [hp,LW,List.sum_append,Z6,Yl,Yg,List.sum_nil,<- hj];unfold Nb;rw [Y1 e];omega
    ·apply Ev.turn;walk_at "ev";unfold c9;walk_at "ev"
   | false=>
    rw [e] at fr;have e':¬ sgn (97+J6 ls j)=sgn (97+fl (J6 ls (i+zn - 1))):=fun w=>of_decide_eq_false fr.symm (by have:=Lo.mp w; omega);refine ⟨v,?_,?_⟩
    ·rw [hp,LW,List.sum_append,Z6,Yl,Yg,List.sum_nil,<- hj];unfold Nb;rw [Y0 (by rw [e]; simp)];omega
    ·apply Ev.turn;walk_at "ev";unfold c9;walk_at "ev") v0 (by simp)
 have hf:v=FN (fe ls) i (i+zn):=by
  rw [c1,hv];by_cases h0:zn=0
  ·subst h0;rw [fI _ (by omega)];rfl
  ·rw [HW (fe ls) (by omega),Y0 (by omega)];omega
 subst hf;exact loop
open L2
local macro_rules | `(tactic| walk_at "ev g8")=>`(tactic| with_reducible apply Ev.Cv)
theorem eq0 (z:Int):JG 4 false (.int z) (.int 0)=some (.bl (decide (z=0))):=A7 z 0
theorem Jc (b:Bool):pZ [.bl b]=some (.int (if b=true then 1 else 0)):=by cases b <;> rfl
theorem HY (hls:Ls ls) (hl:ls.length<=40) {kvs:List (List Key × D)} {z:Int} (hz:0<=z) (hzn:z<=ls.length) (hk:kvs.length < 5000) (hp:eD kvs) (hg:∀ x y:Int,0<=x->x<=y->y<=ls.length->y - x < z->lL ls kvs x y) :
 ∃ kvs',(∀ x y:Int,0<=x->x<=y->y<=ls.length->y - x < z+1->lL ls kvs' x y)/\eD kvs'/\kvs'.length<=kvs.length+41 /\
  bw (af 4) d7 ((ups 0 ((ls.length:Int)+1 - z).toNat).map D.int) [some (.d (.str (JP ls))),some (.d (.int ls.length)),some (.dc kvs),some (.d (.int z)),none,none,none] =
   some (.nx,[some (.d (.str (JP ls))),some (.d (.int ls.length)),some (.dc kvs'),some (.d (.int z)),none,none,none]):=by
 obtain ⟨kvs',⟨c1,c3,c2⟩,loop⟩:=bA (g:=af 4) (f:=d7) (e:=D.int) (l:=ups 0 ((ls.length:Int)+1 - z).toNat) (env:=fun (k:List (List Key × D))=>[some (.d (.str (JP ls))),some (.d (.int ls.length)),some (.dc k),some (.d (.int z)),none,none,none])
  (fun pre k=>(∀ x y:Int,0<=x->x<=y->y<=ls.length->(y - x < z∨(y - x=z/\x < pre.length))->lL ls k x y)/\eD k/\k.length<=kvs.length+pre.length)
  (fun pre i post k hsp hp=>by
   obtain ⟨hp1,hp5,hp2⟩:=hp;obtain ⟨hp3,hp4,_⟩:=cf hsp;have hlen:=jR k [.inl i,.inl (i+z)] (.int (FN (fe ls) i (i+z)));refine ⟨gb k [.inl i,.inl (i+z)] (.int (FN (fe ls) i (i+z))),⟨?_,gX (P:=fun d=>D.imm d=true) hp5 rfl,by simp; omega⟩,?_⟩
   ·intro x y h1 h2 h3 h4;unfold lL;rw [dY];by_cases e:x=i/\y=i+z
    ·obtain ⟨rfl,rfl⟩:=e;rw [Y1 rfl]
    ·rw [Y0 (by intro h; injection h with ha hb; injection ha with ha; injection hb with hb _; injection hb with hb; exact e ⟨ha,hb⟩)];refine hp1 x y h1 h2 h3 ?_;simp at h4;omega
   ·have lj:=HX hls hl (kvs:=k) (i:=i) (z:=z) (by omega) (by omega) (by omega) (fun x y h1 h2 h3 h4=>hp1 x y h1 h2 h3 (.inl h4)) (n:=ls.length) (if decide (z=0)=true then 1 else 0) (by simp);have e0:=eq0 z;have i0:=Jc (decide (z=0));have st:gU (i+z - 2) (i - 1) (-2):=⟨by omega,by omega,by omega,by omega,by decide,by decide⟩;have ng:dJ (.int 2)=some (.int (-2)):=rfl;apply Ev.turn;walk_at "ev";unfold d7;walk_at "ev") kvs ⟨fun x y h1 h2 h3 h4=>hg x y h1 h2 h3 (by simp at h4; omega),hp,by simp⟩
 rw [dj] at c1 c2;refine ⟨kvs',fun x y h1 h2 h3 h4=>c1 x y h1 h2 h3 (by omega),c3,by omega,loop⟩
theorem Bx (hls:Ls ls) (hl:ls.length<=40):r9 [.d (.str (JP ls))]=some (.d (.int (FN (fe ls) 0 ls.length))):=by
 have hlen:=uH (ls:=ls) (by omega);obtain ⟨kvs,⟨c1,c2,c3⟩,loop⟩:=bA (g:=af 3) (f:=gw) (e:=D.int) (l:=ups 0 ((ls.length:Int)+1).toNat) (env:=fun (kvs:List (List Key × D))=>[some (.d (.str (JP ls))),some (.d (.int ls.length)),some (.dc kvs),none,none,none,none])
  (fun pre k=>(∀ x y:Int,0<=x->x<=y->y<=ls.length->y - x < pre.length->lL ls k x y)/\eD k/\k.length<=41 * pre.length)
  (fun pre z post k hsp hP=>by
   obtain ⟨p1,p2,p3⟩:=hP;obtain ⟨e1,e2,_⟩:=cf hsp;obtain ⟨k',q1,q2,q3,q4⟩:=HY hls hl (kvs:=k) (z:=z) (by omega) (by omega) (by omega) p2 (fun x y h1 h2 h3 h4=>p1 x y h1 h2 h3 (by omega));refine ⟨k',⟨fun x y h1 h2 h3 h4=>q1 x y h1 h2 h3 (by simp at h4; omega),q2,by simp; omega⟩,?_⟩;apply Ev.turn;walk_at "ev";unfold gw;walk_at "ev") [] ⟨fun x y h1 h2 h3 h4=>by simp at h4; omega,(by intro kv h; cases h),by simp⟩
 rw [dj] at c1 c3;have g0:aE kvs [.inl 0,.inl (ls.length:Int)]=some (.int (FN (fe ls) 0 ls.length)):=c1 0 ls.length (by omega) (by omega) (by omega) (by omega);apply Ev.fn (ρ:=[some (.d (.str (JP ls))),none,none,none,none,none,none]) rfl;unfold m6;walk_at "ev"
open L2
set_option genInjectivity true in
inductive Rk (M:Int->Int->Bool):Int->Int->List (Int × Int)->Int->Prop
 | nil (a:Int):Rk M a a [] 0
 | hoop {a j b:Int} {p q:List (Int × Int)} {k1 k2:Int}:a < j->j < b->M a j=true->Rk M (a+1) j p k1->Rk M (j+1) b q k2->Rk M a b ((a,j)::(p++q)) (sm (ups (a+1) (j - (a+1)).toNat) (Oi M a b)+k1 * FN M (j+1) b+k2)
theorem Rk.le (h:Rk M a b sh k):a<=b:=by
 induction h with
 | nil=>exact L7 _
 | hoop h1 h2 _ _ _ _ _=>omega
theorem Rk.LH (h:Rk M a b sh k):∀ p ∈ sh,a<=p.1/\p.1 < p.2/\p.2 < b/\M p.1 p.2=true:=by
 induction h with
 | nil=>intro p hp; cases hp
 | hoop h1 h2 hm h3 h4 i1 i2=>
  intro p hp;have l1:=h3.le;have l2:=h4.le;rcases JS.mp hp with rfl | hp
  ·exact ⟨L7 _,h1,h2,hm⟩
  ·rcases Kk.mp hp with hp | hp
   ·obtain ⟨z1,z2,z3,z4⟩:=i1 p hp; exact ⟨by omega,z2,by omega,z4⟩
   ·obtain ⟨z1,z2,z3,z4⟩:=i2 p hp; exact ⟨by omega,z2,z3,z4⟩
theorem Rk.rise (h:Rk M a b sh k):sh.Pairwise fun x y=>x.1 < y.1:=by
 induction h with
 | nil=>exact .nil
 | @hoop a j b p q k1 k2 h1 h2 hm h3 h4 i1 i2=>
  have n1:=h3.LH;have n2:=h4.LH;refine .cons (fun x hx=>?_) (LC.mpr ⟨i1,i2,fun x hx y hy=>?_⟩)
  ·rcases Kk.mp hx with hx | hx
   ·have:=n1 x hx; dsimp only; omega
   ·have:=n2 x hx; dsimp only; omega
  ·have z1:=n1 x hx; have z2:=n2 y hy; omega
theorem Rk.len (h:Rk M a b sh k):2 * (sh.length:Int)=b - a:=by
 induction h with
 | nil=>simp
 | hoop h1 h2 _ _ _ i1 i2=>simp; omega
open L2
theorem Rk.apart (h:Rk M a b sh k):sh.Pairwise fun x y=>x.1 ≠ y.1/\x.1 ≠ y.2/\x.2 ≠ y.1/\x.2 ≠ y.2:=by
 induction h with
 | nil=>exact .nil
 | @hoop a j b p q k1 k2 h1 h2 hm h3 h4 i1 i2=>
  have n1:=h3.LH;have n2:=h4.LH;refine .cons (fun x hx=>?_) (LC.mpr ⟨i1,i2,fun x hx y hy=>?_⟩)
  ·rcases Kk.mp hx with hx | hx
   ·have:=n1 x hx; dsimp only; omega
   ·have:=n2 x hx; dsimp only; omega
  ·have z1:=n1 x hx; have z2:=n2 y hy; omega
set_option genInjectivity true in
inductive Kr (g:MG) (f:MS):List D->En->En->Prop
 | nil (ρ:En):Kr g f [] ρ ρ
 | cons {d:D} {l:List D} {ρ ρ1 ρ2 ρ3:En}:g d ρ=some ρ1->f ρ1=some (.nx,ρ2)->Kr g f l ρ2 ρ3->Kr g f (d::l) ρ ρ3
theorem Kr.app (h:Kr g f l ρ ρ1) (k:Kr g f m ρ1 ρ2):Kr g f (l++m) ρ ρ2:=by
 induction h with
 | nil=>exact k
 | cons h1 h2 _ ih=>exact .cons h1 h2 (ih k)
theorem Kr.run (h:Kr g f l ρ ρ1):bw g f l ρ=some (.nx,ρ1):=by
 induction h with
 | nil=>rfl
 | cons h1 h2 _ ih=>unfold bw;rw [h1,Z1,h2,Z1];exact ih
theorem Kr.one (h:∃ ρ1,g d ρ=some ρ1/\f ρ1=some (.nx,ρ2)):Kr g f [d] ρ ρ2:=by obtain ⟨ρ1,h1,h2⟩:=h;exact .cons h1 h2 (.nil _)
theorem By {c:S} {row:List Int} {n:Int} (hn:(row.length:Int)=n) (hn2:n<=1000) {M:Int->Int->Bool} {a b k:Int} {sh:List (Int × Int)} (rk:Rk M a b sh k):0<=a->b<=n->(∀ q ∈ sh,row.getD q.1.toNat 0=q.2/\row.getD q.2.toNat 0=q.1)->∀ ws:List Int,ws.length<=a ->
 Kr (af 8) d8 ((ups a (b - a).toNat).map D.int) [some c,none,some (.d (.lst (row.map D.int))),none,none,none,none,some (.d (.lst (ws.map D.int))),none] [some c,none,some (.d (.lst (row.map D.int))),none,none,none,none,some (.d (.lst (ws.map D.int))),none]:=by
 induction rk with
 | nil a=>intro _ _ _ ws _;rw [show (a - a).toNat=0 by omega];exact .nil _
 | @hoop a j b p q k1 k2 h1 h2 hm h3 h4 i1 i2=>
  intro ha hb hr ws hws;obtain ⟨r1,r2⟩:=hr (a,j) Li;dsimp only at r1 r2;have x1:=dX (l:=row) (i:=a) (by omega);have x2:=dX (l:=row) (i:=j) (by omega);rw [r1] at x1;rw [r2] at x2;have l3:=h3.le;have l4:=h4.le;have e:ups a (b - a).toNat=[a]++(ups (a+1) (j - (a+1)).toNat++([j]++ups (j+1) (b - (j+1)).toNat)):=by rw [show (b - a).toNat=1+((j - (a+1)).toNat+(1+(b - (j+1)).toNat)) by omega,eS,eS,eS];simp only [Int.natCast_one];rw [show a+1+((j - (a+1)).toNat:Int)=j by omega];simp [ups]
  rw [e];simp only [LW,Z6,Yl];have in1:=i1 (by omega) (by omega) (fun z hz=>hr z (Z8 _ (M9 _ hz))) (ws++[a]) (by simp; omega);have LH:=i2 (by omega) (by omega) (fun z hz=>hr z (Z8 _ (MX _ hz))) ws (by omega);generalize row.map D.int=R at *;refine .app (.one ?_) (.app in1 (.app (.one ?_) LH))
  ·apply Ev.turn;walk_at "ev";unfold d8;walk_at "ev";simp
  ·have ne:JG 4 false (.lst ((ws++[a]).map D.int)) (.lst [])=some (.bl false):=by have:=mQ (l:=(ws++[a]).map D.int) (bG (fun _=>NT rfl) _);rw [this];simp
   have hp:(List.map D.int (ws++[a]))[(List.map D.int (ws++[a])).length - 1]?=some (.int a):=by simp
   have nj:¬ j < a:=by omega
   have ng:¬ j < a:=by omega
   have eq2:JG 4 true (.int a) (.int a)=some (.bl false):=by rw [A8]; simp
   apply Ev.turn;walk_at "ev";unfold d8;walk_at "ev";simp
open L2
theorem a8 {l:List Int} {i j:Nat} {x:Int} (h:i ≠ j):(l.set i x).getD j 0=l.getD j 0:=by rw [Z5,Z5,Yp h]
theorem iA {l:List Int} {i:Nat} {x:Int} (h:i < l.length):(l.set i x).getD i 0=x:=by rw [Z5,Yu h]; rfl
structure FR (n:Int) (pre:List (Int × Int)) (x:List Int × Int):Prop where
 a:(x.1.length:Int)=n
 b:∀ z:Int,0<=z->z < n->(∀ q ∈ pre,q.1 ≠ z/\q.2 ≠ z)->x.1.getD z.toNat 0=-1
 c:∀ q ∈ pre,x.1.getD q.1.toNat 0=q.2/\x.1.getD q.2.toNat 0=q.1
 d:x.2=-1∨∃ q ∈ pre,x.2=q.1
theorem BA {ls:List Nat} (hls:Ls ls) (hl:ls.length<=40) {sh:List (Int × Int)} {k:Int} (rk:Rk (fe ls) 0 ls.length sh k):sd [.d (.str (JP ls)),.d (.tup (sh.map ae))]=some (.d (.bl true)):=by
 have hlen:=uH (ls:=ls) (by omega);have hsl:=rk.len;have hin:=rk.LH;have hri:=rk.rise;have hap:=rk.apart;have hln:a7 [.tup (sh.map ae)]=some (.int sh.length):=by rw [EK,Z2]
 have rp:=qC (n:=ls.length) (d:=.int (-1)) (by omega);have ng:dJ (.int 1)=some (.int (-1)):=rfl;obtain ⟨⟨row,bh⟩,I,loop⟩:=bA (g:=af 4) (f:=gx) (e:=ae) (l:=sh) (env:=fun (x:List Int × Int)=>[some (.d (.str (JP ls))),some (.d (.tup (sh.map ae))),some (.d (.lst (x.1.map D.int))),some (.d (.int x.2)),none,none,none,none,none])
  (fun pre x=>FR ls.length pre x)
  (fun pre p post x hsp I=>by
   obtain ⟨row,bh⟩:=x;obtain ⟨a,b,c,d⟩:=I;dsimp only at a b c d;have pin:=hin p (by rw [hsp]; simp);rw [hsp] at hri hap;have hri:=(LC.mp hri).2.2;have hap:=(LC.mp hap).2.2;have hp:∀ q ∈ pre,q.1 < p.1/\q.1 ≠ p.1/\q.1 ≠ p.2/\q.2 ≠ p.1/\q.2 ≠ p.2:=fun q hq=>⟨hri q hq p Li,hap q hq p Li⟩;have hqi:∀ q ∈ pre,0<=q.1/\q.1 < q.2:=fun q hq=>by have:=hin q (by rw [hsp]; simp [hq]); omega
   obtain ⟨i,j⟩:=p;dsimp only at pin hp;obtain ⟨p1,p2,p3,p4⟩:=pin;have bi:=b i (by omega) (by omega) fun q hq=>by have:=hp q hq; omega
   have bj:=b j (by omega) (by omega) fun q hq=>by have:=hp q hq; omega
   have xi:=dX (l:=row) (i:=i) (by omega);have xj:=dX (l:=row) (i:=j) (by omega);rw [bi] at xi;rw [bj] at xj;have ci:=NJ (ls:=ls) (by omega) (i:=i) (by omega);have cj:=NJ (ls:=ls) (by omega) (i:=j) (by omega);have fa:=j9 (hJ hls (i:=i) (by omega));have e':sgn (97+J6 ls j)=sgn (97+fl (J6 ls i)):=by rw [of_decide_eq_true p4]
   rw [<- e'] at fa;have hb:bh < i:=by
    rcases d with d | ⟨q,hq,d⟩
    ·omega
    ·have:=hp q hq; omega
   refine ⟨((row.set i.toNat j).set j.toNat i,i),⟨by simp; omega,fun z z0 z1 hz=>?_,fun q hq=>?_,.inr ⟨(i,j),by simp,rfl⟩⟩,?_⟩
   ·dsimp only at z1 ⊢;have hz1:=hz (i,j) (by simp);dsimp only at hz1;rw [a8 (by omega),a8 (by omega)];exact b z z0 z1 fun q hq=>hz q (by simp [hq])
   ·dsimp only;rcases Kk.mp hq with hq | hq
    ·have h1:=hp q hq;have h2:=hqi q hq;have h3:=c q hq;rw [a8 (by omega),a8 (by omega),a8 (by omega),a8 (by omega)];exact h3
    ·rw [Lg] at hq;subst hq;dsimp only;rw [a8 (by omega),iA (by omega),iA (by simp; omega)];exact ⟨rfl,rfl⟩
   ·have i1:(!kw (fT (ae (i,j))) "tuple")=false:=rfl;have lp:a7 [ae (i,j)]=some (.int 2):=rfl;have w1:lA [.d (.int i)]=some (.d (.bl true)):=rfl;have w2:lA [.d (.int j)]=some (.d (.bl true)):=rfl;have gi:¬ (-1:Int) < -1:=by decide
    have es:JG 4 true (.str (sgn (97+J6 ls j))) (.str (sgn (97+J6 ls j)))=some (.bl false):=by rw [xn]; simp
    dsimp only;rw [List.map_set,List.map_set];have lr:(row.map D.int).length=ls.length:=by simp; omega
    generalize row.map D.int=R at *;apply Ev.turn;walk_at "ev";unfold gx;walk_at "ev") (List.replicate ls.length (-1),-1) ⟨by simp,fun z z0 z1 _=>by
     dsimp only;rw [Z5,List.getElem?_replicate,Y1 (by omega)]; rfl,(fun q hq=>by cases hq),.inl rfl⟩
 obtain ⟨a,b,c,d⟩:=I;dsimp only at a b c d loop;have wk:=(By (c:=.d (.str (JP ls))) (row:=row) a (by omega) rk (L7 _) (L7 _) c [] (by simp)).run;rw [show ((ls.length:Int) - 0).toNat=((ls.length:Int)).toNat by omega] at wk;rw [List.map_replicate] at loop;rw [show ((ls.length:Int)).toNat=ls.length by omega] at rp;simp only [Yl] at wk;have it:(!kw (fT (.tup (sh.map ae))) "tuple")=false:=rfl;have e2:JG 4 true (.int (2 * (sh.length:Int))) (.int (ls.length:Int))=some (.bl false):=by rw [A8,hsl]; simp
 generalize row.map D.int=R at *;generalize sh.map ae=Sm at *;apply Ev.fn (ρ:=[some (.d (.str (JP ls))),some (.d (.tup Sm)),none,none,none,none,none,none,none]) rfl;unfold m7;walk_at "ev"
open L2
set_option genInjectivity true in
inductive Fu (M:Int->Int->Bool):Int->Int->List (Int × Int)->Prop
 | nil (a:Int):Fu M a a []
 | hoop {a j b:Int} {p q:List (Int × Int)}:a < j->j < b->M a j=true->Fu M (a+1) j p->Fu M (j+1) b q->Fu M a b ((a,j)::(p++q))
theorem Fu.cat (h:Fu M a b x) (k:Fu M b c y):Fu M a c (x++y):=by
 have le:∀ {a b:Int} {x:List (Int × Int)},Fu M a b x->a<=b:=fun h=>by
  induction h with
  | nil=>exact L7 _
  | hoop h1 h2 _ _ _ _ _=>omega
 have hk:=le k
 induction h with
 | nil=>exact k
 | @hoop a j b p q h1 h2 hm h3 h4 i1 i2=>have:=Fu.hoop h1 (show j < c by omega) hm h3 (i2 k hk);rw [<- List.append_assoc] at this;exact this
theorem Fu.mono (h:Fu M a b x) (hm:∀ p ∈ x,M' p.1 p.2=true):Fu M' a b x:=by
 induction h with
 | nil=>exact .nil _
 | hoop h1 h2 _ _ _ i1 i2=>exact .hoop h1 h2 (hm _ Li) (i1 fun p hp=>hm p (Z8 _ (M9 _ hp))) (i2 fun p hp=>hm p (Z8 _ (MX _ hp)))
theorem Fu.one (h:Fu M (a+1) j x) (hj:a < j) (hm:M a j=true):Fu M a (j+1) ((a,j)::x):=by have:=Fu.hoop hj (show j < j+1 by omega) hm h (.nil (j+1));rw [Ma] at this;exact this
theorem Fu.rk (h:Fu M a b x):∃ k,Rk M a b x k:=by
 induction h with
 | nil a=>exact ⟨0,.nil a⟩
 | hoop h1 h2 hm _ _ i1 i2=>obtain ⟨k1,r1⟩:=i1;obtain ⟨k2,r2⟩:=i2;exact ⟨_,.hoop h1 h2 hm r1 r2⟩
set_option genInjectivity true in
inductive Sg (M:Int->Int->Bool):Int->Int->List Int->List (Int × Int)->Prop
 | nil {a b:Int} {x:List (Int × Int)}:Fu M a b x->Sg M a b [] x
 | cons {a b w:Int} {ws:List Int} {x y:List (Int × Int)}:Sg M a w ws x->Fu M (w+1) b y->Sg M a b (ws++[w]) (x++y)
theorem Sg.le (h:Sg M a b ws x):a<=b:=by
 have le:∀ {a b:Int} {x:List (Int × Int)},Fu M a b x->a<=b:=fun h=>by
  induction h with
  | nil=>exact L7 _
  | hoop h1 h2 _ _ _ _ _=>omega
 induction h with
 | nil h=>exact le h
 | cons _ h ih=>have:=le h; omega
theorem Sg.push (h:Sg M a b ws x):Sg M a (b+1) (ws++[b]) x:=by have:=Sg.cons h (.nil (b+1));rw [Ma] at this;exact this
theorem Sg.ext (h:Sg M a b ws x) (k:Fu M b c y):Sg M a c ws (x++y):=by
 cases h with
 | nil h=>exact .nil (h.cat k)
 | cons h1 h2=>rw [List.append_assoc]; exact .cons h1 (h2.cat k)
theorem Sg.Mc (h:Sg M a b (ws++[w]) x) (hm:∀ u v,M u v=true):∃ y,y.Perm ((w,b)::x)/\Sg M a (b+1) ws y:=by
 generalize e:ws++[w]=zs at h;cases h with
 | nil h=>simp at e
 | @cons _ w' ws' x' y' h1 h2=>obtain ⟨rfl,e2⟩:=List.append_inj' e rfl;injection e2 with e2 _;subst e2;have le:=Sg.le (Sg.nil (a:=w+1) h2);refine ⟨x'++((w,b)::y'),?_,h1.ext (Fu.one h2 (by omega) (hm _ _))⟩;exact List.perm_middle
open L2
@[reducible] def M6 (s:Int):S:=.d (.lst [.int s])
theorem BB (s:Int):fV (.d (.lst [.int s]))=some (.d (.lst [.int s])):=rfl
theorem xP (s t:Int):oh (.d (.lst [.int s])) (.d (.lst [.int t]))=some (.d (.lst [.int t])):=rfl
local macro_rules | `(tactic| walk_at "evC")=>`(tactic| first | with_reducible exact Mir.BB _ | with_reducible exact Mir.xP _ _)
theorem BC {ps ls:List (Int × Int)} (hr:ls.Pairwise fun a b=>a.1 < b.1) (hl:ps.length < 64) (hp:ps.Perm ls):Srt.iq [.lst (ps.map ae)]=some (.lst (ls.map ae)):=by
 obtain ⟨q,q1,q2,q3⟩:=qv hl;rw [q3];have e:q=ls:=by refine List.Perm.eq_of_pairwise (le:=fun a b=>O2 a b=true) (fun a b _ _ x y=>?_) q2 (hr.imp fun {a b} z=>(mS a b).mpr (.inl z)) (q1.trans hp);have x':=(mS a b).mp x;have y':=(mS b a).mp y;exact Prod.ext (by omega) (by omega)
 rw [e]
structure FI (h:Int) (k:Nat) (x:Int × List (Int × Int) × List Int × Int):Prop where
 a:x.2.2.1.length+2 * x.2.1.length=k
 b:x.2.2.2=h - x.2.2.1.length - x.2.1.length
 c:0<=x.2.2.2
 d:∀ p ∈ x.2.1,0<=p.1/\p.1 < p.2/\p.2 < k
 e:∀ p ∈ x.2.2.1,0<=p/\p < k
theorem FI.push (I:FI h k (s,ps,ws,lf)) (hl:0 < lf):FI h (k+1) (s',ps,ws++[(k:Int)],lf - 1):=by
 obtain ⟨a,b,c,d,e⟩:=I;dsimp only at a b c d e;refine ⟨by simp; omega,by simp; omega,by dsimp only; omega,fun p hp=>by have:=d p hp; omega,fun p hp=>?_⟩;rcases Kk.mp hp with hp | hp
 ·have:=e p hp; omega
 ·rw [Lg] at hp; omega
theorem FI.Mc (I:FI h k (s,ps,ws++[w],lf)):FI h (k+1) (s',ps++[(w,(k:Int))],ws,lf):=by
 obtain ⟨a,b,c,d,e⟩:=I;dsimp only at a b c d e;simp at a b;have hw:=e w (by simp);refine ⟨by simp; omega,by simp; omega,by dsimp only; omega,fun p hp=>?_,fun p hp=>by have:=e p (by simp [hp]); omega⟩;rcases Kk.mp hp with hp | hp
 ·have:=d p hp; omega
 ·rw [List.mem_singleton] at hp; subst hp; dsimp only; omega
abbrev Ot:Int->Int->Bool:=fun _ _=>true
structure FJ (h:Int) (k:Nat) (x:Int × List (Int × Int) × List Int × Int):Prop extends FI h k x where
 f:∃ y,Sg Ot 0 k x.2.2.1 y/\x.2.1.Perm y
theorem FJ.push (I:FJ h k (s,ps,ws,lf)) (hl:0 < lf):FJ h (k+1) (s',ps,ws++[(k:Int)],lf - 1):=by obtain ⟨y,y1,y2⟩:=I.f;refine ⟨I.toFI.push hl,y,?_,y2⟩;have:=y1.push;exact_mod_cast this
theorem FJ.Mc (I:FJ h k (s,ps,ws++[w],lf)):FJ h (k+1) (s',ps++[(w,(k:Int))],ws,lf):=by obtain ⟨y,y1,y2⟩:=I.f;obtain ⟨z,z1,z2⟩:=Sg.Mc y1 (fun _ _=>rfl);refine ⟨I.toFI.Mc,z,by exact_mod_cast z2,?_⟩;have a:(ps++[(w,(k:Int))]).Perm ((w,(k:Int))::ps):=List.perm_append_singleton _ _;exact a.trans ((List.Perm.cons _ y2).trans z1.symm)
theorem uI (hh:0<=h/\h<=21) {k:Nat} (hk:(k:Int) < 2 * h) {s:Int} {ps:List (Int × Int)} {ws:List Int} {lf:Int} (I:FJ h k (s,ps,ws,lf)) :
 ∃ x,FJ h (k+1) x/\∃ ρ1,af 5 (.int (k:Int)) [some (M6 s),some (.d (.int h)),some (.d (.lst (ps.map ae))),some (.d (.lst (ws.map D.int))),some (.d (.int lf)),none]=some ρ1/\bP ρ1=some (.nx,[some (M6 x.1),some (.d (.int h)),some (.d (.lst (x.2.1.map ae))),some (.d (.lst (x.2.2.1.map D.int))),some (.d (.int x.2.2.2)),none]):=by
 have ha:ws.length+2 * ps.length=k:=I.a;have hb:lf=h - ws.length - ps.length:=I.b;have hc:0<=lf:=I.c;have tk:=sD s (n:=5) (by decide) (by decide);by_cases c1:0 < lf
 ·rcases YF ws with e | ⟨ws',w,e⟩
  ·subst e;refine ⟨_,I.push (s':=s) c1,?_⟩;have en:JG 4 false (.lst []) (.lst [])=some (.bl true):=rfl;apply Ev.turn;walk_at "ev";unfold bP;walk_at "ev";rfl
  ·rw [YG] at e;subst e;have en:JG 4 false (.lst ((ws'++[w]).map D.int)) (.lst [])=some (.bl false):=by have:=mQ (l:=(ws'++[w]).map D.int) (bG (fun _=>NT rfl) _);rw [this];simp
   have hp:(List.map D.int (ws'++[w]))[(List.map D.int (ws'++[w])).length - 1]?=some (.int w):=by simp
   have hln:a7 [.lst ((ws'++[w]).map D.int)]=some (.int ((ws'++[w]).length:Int)):=by have:=uB (l:=(ws'++[w]).map D.int);rw [Z2] at this;exact this
   by_cases c2:s % 5 < 2+((ws'++[w]).length:Int) % 2
   ·refine ⟨_,I.push (s':=s / 5) c1,?_⟩;dsimp only;apply Ev.turn;walk_at "ev";unfold bP;walk_at "ev";simp only [LW,Z6,Yl]
   ·refine ⟨_,I.Mc (s':=s / 5),?_⟩;dsimp only;apply Ev.turn;walk_at "ev";unfold bP;walk_at "ev";simp
 ·rcases YF ws with e | ⟨ws',w,e⟩
  ·subst e;simp at ha hb;omega
  ·rw [YG] at e;subst e;have hp:(List.map D.int (ws'++[w]))[(List.map D.int (ws'++[w])).length - 1]?=some (.int w):=by simp
   refine ⟨_,I.Mc (s':=s),?_⟩;dsimp only;apply Ev.turn;walk_at "ev";unfold bP;walk_at "ev";simp
theorem qF (s:Int) {h:Int} (hh:0<=h/\h<=21):∃ (sh:List (Int × Int)) (s':Int),Fu Ot 0 (2 * h) sh/\r8 [M6 s,.d (.int h)]=some (.d (.tup (sh.map ae)),M6 s'):=by
 obtain ⟨⟨s1,ps,ws,lf⟩,I,loop⟩:=bA (g:=af 5) (f:=bP) (e:=D.int) (l:=ups 0 (2 * h).toNat) (env:=fun (x:Int × List (Int × Int) × List Int × Int)=>[some (M6 x.1),some (.d (.int h)),some (.d (.lst (x.2.1.map ae))),some (.d (.lst (x.2.2.1.map D.int))),some (.d (.int x.2.2.2)),none])
  (fun pre x=>FJ h pre.length x)
  (fun pre a post x hsp hP=>by
   obtain ⟨s,ps,ws,lf⟩:=x;obtain ⟨a1,a2,_⟩:=cf hsp;have ea:a=(pre.length:Int):=by omega
   subst ea;obtain ⟨x,I,t⟩:=uI hh (k:=pre.length) (by omega) hP;exact ⟨x,by simpa using I,t⟩) (s,[],[],h) ⟨⟨rfl,by simp,hh.1,by simp,by simp⟩,[],.nil (.nil 0),.nil⟩
 rw [dj] at I;obtain ⟨⟨a,b,c,d,e⟩,y,y1,y2⟩:=I;dsimp only at a b c d e y1 y2 loop;have w0:ws=[]:=List.eq_nil_of_length_eq_zero (by omega);subst w0;rw [show (((2 * h).toNat:Nat):Int)=2 * h by omega] at y1;generalize ez:([]:List Int)=zs at y1;cases y1 with
 | cons h1 h2=>simp at ez
 | nil fu=>obtain ⟨kk,rk⟩:=fu.rk;have so:=BC rk.rise (ps:=ps) (by simp at a; omega) y2;refine ⟨y,s1,fu,?_⟩;apply Ev.O7 (ρ:=[some (M6 s),some (.d (.int h)),none,none,none,none]) rfl;unfold m5;walk_at "ev"
open L2 Builtin.Str
theorem iX (s:Int) {n:Int} (h:0 < n) (hb:n < 1000000):∃ w s':Int,0<=w/\w < n/\d4 [.d (.lst [.int s]),.d (.int n)]=some (.d (.int w),.d (.lst [.int s'])):=
 ⟨s % n,s / n,Int.emod_nonneg _ (by omega),Int.emod_lt_of_pos _ h,sD s h (E2 (n:=20) (by omega) (by omega) (by omega))⟩
@[reducible] def Kc (w:List Nat):D:=.str (JP w)
theorem BD (ws:List (List Nat)):Txt.join (Str.ofString "") (ws.map txt)=txt ws.flatten:=by
 have e:(Txt.join Str.empty (ws.map txt)).cps.toList=ws.flatten:=by
  rw [pV,KP]
  induction ws with
  | nil=>rfl
  | cons c r ih=>rw [Z6,MQ,ih]; rfl
 rw [show (Str.ofString "")=Str.empty by decide +kernel];show _=(⟨ws.flatten.toArray⟩:Str);generalize Txt.join Str.empty (ws.map txt)=z at e;rw [<- e]
theorem BE {ws:List (List Nat)} (hf:ws.flatten.length < 10000):ww (Str.ofString "") [.lst (ws.map Kc)]=some (.str (JP ws.flatten)):=by
 have e:ws.map Kc=((ws.map fun w=>w.map (97+·)).map txt).map D.str:=by rw [KP,KP]; rfl
 rw [e];show (fX (((ws.map fun w=>w.map (97+·)).map txt).map D.str)).bind _=_;have hs:∀ ws:List (List Nat),(((ws.map fun w=>w.map (97+·)).map txt).map (·.length)).sum=ws.flatten.length:=by
  intro ws
  induction ws with
  | nil=>rfl
  | cons c r ih=>rw [Z6,Z6,Z6,Yg,ih,MQ,LD,b7,Z2]
 rw [wu,Z1,Y1 (by rw [hs,show (Str.ofString "").length=0 by decide +kernel]; omega),BD];unfold JP;rw [List.map_flatten]
def qG (m:Nat) (w:List Nat):Prop:=w.length<=1/\∀ x ∈ w,x < m
theorem HZ (h:x < m) (hm:m % 2=0):fl x < m:=by unfold fl; split <;> omega
theorem H9 (h:x < m):qG m [x]:=⟨JI 1,fun y hy=>by rw [Lg] at hy; omega⟩
theorem o7 {m:Nat} {ws:List (List Nat)} (h:∀ w ∈ ws,qG m w) {x:Nat} (hx:x < m) (i:Nat):∀ w ∈ ws.set i [x],qG m w:=by
 intro w hw;rcases List.mem_or_eq_of_mem_set hw with hw | rfl
 ·exact h w hw
 ·exact H9 hx
theorem xQ {m:Nat} {ws:List (List Nat)} (h:∀ w ∈ ws,qG m w):∀ x ∈ ws.flatten,x < m:=by intro x hx;obtain ⟨w,hw,hx⟩:=List.mem_flatten.mp hx;exact (h w hw).2 x hx
theorem Fu.Mf (h:Fu M a b x):∀ p ∈ x,a<=p.1/\p.1 < p.2/\p.2 < b:=by obtain ⟨k,rk⟩:=h.rk;intro p hp;have:=rk.LH p hp;omega
theorem Fu.all (h:Fu M a b x):∀ z,a<=z->z < b->∃ q ∈ x,q.1=z∨q.2=z:=by
 induction h with
 | nil=>intro z h1 h2; omega
 | @hoop a j b p q h1 h2 hm h3 h4 i1 i2=>
  intro z z1 z2;by_cases e:z=a
  ·exact ⟨(a,j),Li,.inl e.symm⟩
  ·by_cases e2:z=j
   ·exact ⟨(a,j),Li,.inr e2.symm⟩
   ·by_cases e3:z < j
    ·obtain ⟨r,r1,r2⟩:=i1 z (by omega) e3;exact ⟨r,Z8 _ (M9 _ r1),r2⟩
    ·obtain ⟨r,r1,r2⟩:=i2 z (by omega) z2;exact ⟨r,Z8 _ (MX _ r1),r2⟩
theorem qH {ws:List (List Nat)} (h:∀ i:Nat,i < ws.length->∃ x,ws[i]?=some [x]):∃ ls:List Nat,ws.flatten=ls/\ls.length=ws.length/\∀ i x,ws[i]?=some [x]->ls.getD i 0=x:=by
 refine ⟨ws.map fun w=>w.headD 0,?_,by simp,fun i x e=>by rw [Z5,Kb,e]; rfl⟩
 induction ws with
 | nil=>rfl
 | cons w ws ih=>
  obtain ⟨x,e⟩:=h 0 (by simp);have e:w=[x]:=by simpa using e
  subst e;rw [MQ,ih fun i hi=>by simpa using h (i+1) (by simp; omega)];rfl
open L2
set_option genInjectivity true in
inductive Gd (L:Int->Nat) (g:Nat->Nat):List Nat->Option Nat->Int->Int->Prop
 | nil (us:List Nat) (o:Option Nat) (a:Int):Gd L g us o a a
 | hoop {us:List Nat} {o:Option Nat} {a j b:Int}:a < j->j < b->L j=g (L a)->L a ∉ us->o ≠ some (L a)->Gd L g [] (some (L j)) (a+1) j->Gd L g (L a::us) o (j+1) b->Gd L g us o a b
open L2
section
variable (L:Int->Nat) (g:Nat->Nat)
def Kw (st:List Nat) (x:Nat):List Nat:=match st with
 | t::r=>if t=g x then r else x::t::r
 | []=>[x]
def N4:List Nat->Prop
 | t::u::r=>t ≠ g u/\N4 (u::r)
 | _=>True
def bQ (a:Int):Nat->List Nat->List Nat
 | 0,st=>st
 | n+1,st=>bQ (a+1) n (Kw g st (L a))
theorem o8:∀ (n m:Nat) (a:Int) (st:List Nat),bQ L g a (n+m) st=bQ L g (a+n) m (bQ L g a n st)
 | 0,m,a,st=>by simp [bQ]
 | n+1,m,a,st=>by
  rw [show n+1+m=(n+m)+1 by omega];show bQ L g (a+1) (n+m) _=_;rw [o8 n m,show a+1+(n:Int)=a+((n+1:Nat):Int) by omega];rfl
theorem eT (h1:a < j) (h2:j < b) (st:List Nat):bQ L g a (b - a).toNat st=bQ L g (j+1) (b - (j+1)).toNat (Kw g (bQ L g (a+1) (j - (a+1)).toNat (Kw g st (L a))) (L j)):=by rw [show (b - a).toNat=((j - (a+1)).toNat+((b - (j+1)).toNat+1))+1 by omega];show bQ L g (a+1) ((j - (a+1)).toNat+((b - (j+1)).toNat+1)) (Kw g st (L a))=_;rw [o8,show a+1+((j - (a+1)).toNat:Int)=j by omega];rfl
variable {g} (hg:∀ x,g (g x)=x)
include hg
theorem xR {st:List Nat} (h:N4 g st) (x:Nat):Kw g (Kw g st x) (g x)=st:=by
 cases st with
 | nil=>simp [Kw,hg]
 | cons t r=>
  by_cases c:t=g x
  ·have e:Kw g (t::r) x=r:=by simp [Kw,c]
   rw [e];cases r with
   | nil=>simp [Kw,c]
   | cons u r=>have:u ≠ x:=fun z=>h.1 (by rw [z]; exact c);simp [Kw,hg,this,c]
  ·have e:Kw g (t::r) x=x::t::r:=by simp [Kw,c]
   rw [e];simp [Kw,hg]
theorem N4.step {st:List Nat} (h:N4 g st) (x:Nat):N4 g (Kw g st x):=by
 cases st with
 | nil=>simp [Kw,N4]
 | cons t r=>
  by_cases c:t=g x
  ·have e:Kw g (t::r) x=r:=by simp [Kw,c]
   rw [e];cases r with
   | nil=>trivial
   | cons u r=>exact h.2
  ·have e:Kw g (t::r) x=x::t::r:=by simp [Kw,c]
   rw [e];exact ⟨fun z=>c (by rw [z,hg]),h⟩
theorem Fu.OI (hM:∀ i j,M i j=true->L j=g (L i)) {a b:Int} {x:List (Int × Int)} (h:Fu M a b x):∀ {st:List Nat},N4 g st->bQ L g a (b - a).toNat st=st:=by
 induction h with
 | nil a=>intro st _; rw [show (a - a).toNat=0 by omega]; rfl
 | @hoop a j b p q h1 h2 hm h3 h4 i1 i2=>intro st hs;rw [eT L g h1 h2,i1 (hs.step hg _),hM _ _ hm,xR hg hs,i2 hs]
omit hg
def ON (g:Nat->Nat) (st:List Nat) (o:Option Nat):Prop:=∀ t r,st=t::r->o=some (g t)
include hg
theorem ON.push {st:List Nat} {o:Option Nat} (h:ON g st o) {x:Nat} (hx:o ≠ some x):Kw g st x=x::st:=by
 cases st with
 | nil=>rfl
 | cons t r=>have e:=h t r rfl;have:t ≠ g x:=fun z=>hx (by rw [e,z,hg]);simp [Kw,this]
theorem Gd.full (h:Gd L g us o a b):∀ {st:List Nat},ON g st o->bQ L g a (b - a).toNat st=st:=by
 induction h with
 | nil us o a=>intro st _; rw [show (a - a).toNat=0 by omega]; rfl
 | @hoop us o a j b h1 h2 hl h3 h4 h5 h6 i1 i2=>
  intro st hc;rw [eT L g h1 h2,hc.push hg h4,i1 (fun t r e=>by cases e; rw [hl]),i2 (st:=_) ?_]
  ·rw [hl]; simp [Kw,hg]
  ·rw [hl];have:Kw g (L a::st) (g (L a))=st:=by simp [Kw,hg]
   rw [this];exact hc
theorem Gd.trace (h:Gd L g us o a b):∀ {st:List Nat} {c:Int},ON g st o->a<=c->c < b ->
 (bQ L g a (c - a).toNat st=st/\o ≠ some (L c))∨(∃ e,e ∉ us/\bQ L g a (c - a).toNat st=e::st)∨st.length+2<=(bQ L g a (c - a).toNat st).length:=by
 induction h with
 | nil us o a=>intro st c _ h1 h2; omega
 | @hoop us o a j b h1 h2 hl h3 h4 h5 h6 i1 i2=>
  intro st c hc ha hb;have ps:=hc.push hg h4;have ci:ON g (L a::st) (some (L j)):=fun t r e=>by cases e; rw [hl]
  rcases YE c j with cj | cj | cj
  ·by_cases ca:c=a
   ·subst ca;left;rw [show (c - c).toNat=0 by omega];exact ⟨rfl,h4⟩
   ·have e:bQ L g a (c - a).toNat st=bQ L g (a+1) (c - (a+1)).toNat (L a::st):=by rw [show (c - a).toNat=(c - (a+1)).toNat+1 by omega];show bQ L g (a+1) _ (Kw g st (L a))=_;rw [ps]
    rw [e];rcases i1 ci (by omega) cj with ⟨z,_⟩ | ⟨f,_,z⟩ | z
    ·exact .inr (.inl ⟨L a,h3,z⟩)
    ·right; right; rw [z]; simp
    ·right; right; simp at z; omega
  ·subst cj;have e:bQ L g a (c - a).toNat st=bQ L g (a+1) (c - (a+1)).toNat (L a::st):=by rw [show (c - a).toNat=(c - (a+1)).toNat+1 by omega];show bQ L g (a+1) _ (Kw g st (L a))=_;rw [ps]
   rw [e,h5.full L hg ci];exact .inr (.inl ⟨L a,h3,rfl⟩)
  ·have e:bQ L g a (c - a).toNat st=bQ L g (j+1) (c - (j+1)).toNat st:=by rw [eT L g h1 cj,ps,h5.full L hg ci,hl];simp [Kw,hg]
   rw [e];rcases i2 hc (by omega) hb with z | ⟨f,f1,z⟩ | z
   ·exact .inl z
   ·exact .inr (.inl ⟨f,fun y=>f1 (by simp [y]),z⟩)
   ·exact .inr (.inr z)
omit hg
theorem Ia:∀ (n:Nat) {a b:Int},b - a=n->FN M a b ≠ 0->∃ x,Fu M a b x:=by
 intro n
 induction n using Nat.strongRecOn with
 | _ n ih=>
  intro a b hn hz;by_cases c:a < b
  ·rw [eR M c] at hz;obtain ⟨j,hj,hne⟩:∃ j ∈ ups (a+1) (b - (a+1)).toNat,(if M a j=true then FN M (a+1) j * FN M (j+1) b else 0) ≠ 0:=by
    apply Classical.byContradiction;intro hno;apply hz;have all:∀ y ∈ (ups (a+1) (b - (a+1)).toNat).map (fun j=>if M a j=true then FN M (a+1) j * FN M (j+1) b else 0),y=0:=by intro y hy;obtain ⟨j,hj,rfl⟩:=Ke.mp hy;exact Classical.byContradiction fun z=>hno ⟨j,hj,z⟩
    generalize (ups (a+1) (b - (a+1)).toNat).map (fun j=>if M a j=true then FN M (a+1) j * FN M (j+1) b else 0)=l at all
    induction l with
    | nil=>rfl
    | cons y l il=>rw [Yg,all y (by simp),il fun z hz=>all z (by simp [hz])]; rfl
   have hj':=mR hj;split at hne
   ·rename_i hm;obtain ⟨x,hx⟩:=ih (j - (a+1)).toNat (by omega) (a:=a+1) (b:=j) (by omega) (fun z=>hne (by rw [z]; simp));obtain ⟨y,hy⟩:=ih (b - (j+1)).toNat (by omega) (a:=j+1) (b:=b) (by omega) (fun z=>hne (by rw [z]; simp));exact ⟨_,.hoop (by omega) (by omega) hm hx hy⟩
   ·exact absurd rfl hne
  ·have:a=b:=by omega
   subst this;exact ⟨[],.nil a⟩
theorem uJ (lo:Int) (n:Nat):(ups lo n).Nodup:=by unfold ups;exact YD _ (fun a b h e=>h (by simp at e; omega)) List.nodup_range
theorem BF {l:List Int} {f:Int->Int} {j:Int} (hj:j ∈ l) (nd:l.Nodup) (h1:f j=1) (h0:∀ i ∈ l,i ≠ j->f i=0):(l.map f).sum=1:=by
 induction l with
 | nil=>cases hj
 | cons x l ih=>
  rw [List.nodup_cons] at nd;rw [Z6,Yg];by_cases c:x=j
  ·subst c;have:(l.map f).sum=0:=by
    have all:∀ i ∈ l,f i=0:=fun i hi=>h0 i (by simp [hi]) (fun z=>nd.1 (by rw [<- z]; exact hi));clear ih nd h0 hj
    induction l with
    | nil=>rfl
    | cons y l il=>rw [Z6,Yg,all y (by simp),il fun i hi=>all i (by simp [hi])]; rfl
   rw [h1,this]; rfl
  ·rw [h0 x (by simp) c];have hl:j ∈ l:=by
    rcases JS.mp hj with z | z
    ·exact absurd z.symm c
    ·exact z
   rw [ih hl nd.2 fun i hi=>h0 i (by simp [hi])]; rfl
include hg
theorem Gd.only {M:Int->Int->Bool} (hM:∀ i j,M i j=true ↔ L j=g (L i)) {us:List Nat} {o:Option Nat} {a b:Int} (h:Gd L g us o a b):FN M a b=1:=by
 induction h with
 | nil us o a=>exact fI M (L7 _)
 | @hoop us o a j b h1 h2 hl h3 h4 h5 h6 i1 i2=>
  rw [eR M (by omega)];refine BF (j:=j) (J9.mpr (by omega)) (uJ _ _) ?_ fun i hi ne=>?_
  ·rw [Y1 ((hM a j).mpr hl),i1,i2]; rfl
  ·have hi':=mR hi;split
   ·rename_i hm;have li:=(hM a i).mp hm;apply Classical.byContradiction;intro hz;have hn:FN M (a+1) i ≠ 0:=fun z=>hz (by rw [z]; simp);obtain ⟨y,fy⟩:=Ia (i - (a+1)).toNat (a:=a+1) (b:=i) (by omega) hn;have st:=fy.OI L hg (fun i j=>(hM i j).mp) (st:=[L a]) trivial;rcases YE i j with c | c | c
    ·rcases h5.trace L hg (st:=[L a]) (c:=i) (fun t r e=>by cases e; rw [hl]) (by omega) c with ⟨_,z⟩ | ⟨f,_,z⟩ | z
     ·exact z (by rw [li,hl])
     ·rw [st] at z; simp at z
     ·rw [st] at z; simp at z
    ·exact ne c
    ·have e:bQ L g (j+1) (i - (j+1)).toNat []=[L a]:=by rw [<- st];have e1:=eT L g h1 c [];rw [show (i - a).toNat=(i - (a+1)).toNat+1 by omega] at e1;have e2:bQ L g a ((i - (a+1)).toNat+1) []=bQ L g (a+1) (i - (a+1)).toNat [L a]:=rfl;rw [e2] at e1;rw [e1,show Kw g [] (L a)=[L a] from rfl,h5.full L hg (fun t r e=>by cases e; rw [hl]),hl];simp [Kw,hg]
     rcases h6.trace L hg (st:=[]) (c:=i) (fun t r e=>by cases e) (by omega) (by omega) with ⟨z,_⟩ | ⟨f,f1,z⟩ | z
     ·rw [e] at z; cases z
     ·rw [e] at z;cases z;exact f1 (by simp)
     ·rw [e] at z; simp at z
   ·rfl
end
open L2
def ke (L:Int->Nat) (sh:List (Int × Int)) (a b:Int) (o:Option Nat):Prop:=(∀ p ∈ inner sh a b,∀ q ∈ inner sh a b,L p.1=L q.1->p=q)/\∀ p ∈ inner sh a b,o ≠ some (L p.1)
theorem Ib (h:Sh n sh) (hl:∀ p ∈ sh,L p.2=g (L p.1)) (hf:∀ z,0<=z->z < n->∃ p ∈ sh,p.1=z∨p.2=z) (hR:∀ o ∈ sh,ke L sh o.1 o.2 (some (L o.2))) :
 ∀ (N:Nat) (a b c:Int) (o:Option Nat) (us:List Nat),b - c<=N->-1<=a->b<=n->a < c->c<=b->Bw sh a b->(∀ p ∈ aH sh a b,p.2 < c∨c<=p.1)->ke L sh a b o->(∀ e ∈ us,∃ q ∈ inner sh a b,q.2 < c/\e=L q.1)->Gd L g us o c b:=by
 intro N
 induction N with
 | zero=>
  intro a b c o us h1 h2 h3 h4 h5 pt hc ro hu;have:c=b:=by omega
  subst this;exact .nil _ _ _
 | succ N ih=>
  intro a b c o us h1 h2 h3 h4 h5 pt hc ro hu;by_cases cb:c=b
  ·subst cb; exact .nil _ _ _
  obtain ⟨p,hp,hz⟩:=hf c (by omega) (by omega);have hb:=h.1 p hp;have pp:=pt p hp;have p1:p.1=c:=by
   rcases hz with z | z
   ·exact z
   ·have w:p ∈ aH sh a b:=Jl.mpr ⟨hp,pp.2 (by omega) (by omega),by omega⟩;have:=hc p w;omega
  have w:p ∈ aH sh a b:=Jl.mpr ⟨hp,by omega,pp.1 (by omega) (by omega)⟩;have wb:=(Jl.mp w).2;have pin:p ∈ inner sh a b:=Jv.mpr ⟨w,fun q hq z1 z2=>by
   have:=hc q hq;have:=h.1 q (Jl.mp hq).1;omega⟩
  obtain ⟨i,j⟩:=p;dsimp only at p1 hb wb;subst p1;have ho:ke L sh i j (some (L j)):=hR (i,j) hp;refine .hoop (j:=j) (by omega) (by omega) (hl _ hp) ?_ (ro.2 _ pin) ?_ ?_
  ·intro z;obtain ⟨q,hq,q1,q2⟩:=hu _ z;have:=ro.1 _ pin q hq q2;subst this;dsimp only at q1;omega
  ·refine ih i j (i+1) (some (L j)) [] (by omega) (by omega) (by omega) (by omega) (by omega) (lH h hp) (fun q hq=>?_) ho (by simp);have:=(Jl.mp hq).2;omega
  ·refine ih a b (j+1) o (L i::us) (by omega) h2 h3 (by omega) (by omega) pt (fun q hq=>?_) ro (fun e he=>?_)
   ·have hq1:=Jl.mp hq;have hb':=h.1 q hq1.1;rcases hc q hq with z | z
    ·left; omega
    ·rcases YE q.1 i with y | y | y
     ·omega
     ·have:=h.one hq1.1 hp y;subst this;left;dsimp only;omega
     ·have:=h.two hp hq1.1 y;dsimp only at this;omega
   ·rcases JS.mp he with rfl | he
    ·exact ⟨(i,j),pin,by dsimp only; omega,rfl⟩
    ·obtain ⟨q,hq,q1,q2⟩:=hu e he;exact ⟨q,hq,by omega,q2⟩
theorem Fa (hn:0<=n) (h:Sh n sh) (hl:∀ p ∈ sh,L p.2=g (L p.1)) (hf:∀ z,0<=z->z < n->∃ p ∈ sh,p.1=z∨p.2=z) (hR:∀ o ∈ sh,ke L sh o.1 o.2 (some (L o.2))) (h0:ke L sh (-1) n none):Gd L g [] none 0 n:=
 Ib h hl hf hR n.toNat (-1) n 0 none [] (by omega) (by omega) (by omega) (by omega) hn (o6 h) (fun q hq=>by have:=(Jl.mp hq).2; omega) h0 (by simp)
open L2
open L2
def aT (pre:List (Int × Int)) (x:Int × Int):List (Int × Int):=pre.filter fun q=>decide (x.1<=q.2)
theorem Sh.JX (h:Sh n (pre++[x])) {q:Int × Int} (hq:q ∈ pre):q.1 < x.1/\(q.2 < x.1∨x.2 < q.2):=
 (LC.mp h.2).2.2 q hq x (by simp)
theorem Sh.last (h:Sh n (pre++[x])):0<=x.1/\x.1 < x.2/\x.2 < n:=h.1 x (by simp)
theorem Sh.pre {n:Int} {pre post:List (Int × Int)} (h:Sh n (pre++post)):Sh n pre:=⟨fun p hp=>h.1 p (by simp [hp]),(LC.mp h.2).1⟩
theorem aN (h:Sh n (pre++[x])) {q:Int × Int}:q ∈ aT pre x ↔ q ∈ pre/\x.2 < q.2:=by unfold aT;rw [List.mem_filter];refine and_congr_right fun hq=>?_;have h1:=h.JX hq;have h2:=h.last;rw [decide_eq_true_iff];omega
theorem hU (h:Sh n (pre++[x])) (a b:Int) :
 inner (pre++[x]) a b=inner pre a b++(if a < x.1/\x.2 < b/\∀ q ∈ aT pre x,¬ (a < q.1/\q.2 < b) then [x] else []):=by
 unfold inner;have w1:aH (pre++[x]) a b=aH pre a b++(if a < x.1/\x.2 < b then [x] else []):=by
  unfold aH;rw [Ye];congr 1;by_cases c:a < x.1/\x.2 < b
  ·rw [Y1 c]; simp [c.1,c.2]
  ·rw [Y0 c];rw [List.filter_cons_of_neg (by simpa using c)];rfl
 rw [w1,Ye];have sub:∀ p ∈ aH pre a b,p ∈ pre:=fun p hp=>(Jl.mp hp).1;congr 1
 ·refine List.filter_congr fun p hp=>?_;have:bJ (aH pre a b++(if a < x.1/\x.2 < b then [x] else [])) p=bJ (aH pre a b) p:=by
   unfold bJ;rw [Ye];have h1:=h.JX (sub p hp);have:(List.filter (fun q=>decide (q.1 < p.1) && decide (p.2 < q.2)) (if a < x.1/\x.2 < b then [x] else []))=[]:=by
    rw [List.filter_eq_nil_iff];intro q hq;split at hq
    ·rw [Lg] at hq;subst hq;simp;omega
    ·cases hq
   rw [this,Ma]
  rw [this]
 ·by_cases c:a < x.1/\x.2 < b
  ·rw [Y1 c];have e:bJ (aH pre a b++[x]) x=bJ (aH pre a b) x:=by unfold bJ;rw [Ye,List.filter_cons_of_neg (by simp)];simp
   by_cases d:∀ q ∈ aT pre x,¬ (a < q.1/\q.2 < b)
   ·rw [Y1 ⟨c.1,c.2,d⟩,List.filter_cons_of_pos]
    ·rfl
    ·rw [e,List.isEmpty_iff];refine List.eq_nil_iff_forall_not_mem.mpr fun q hq=>?_;simp [bJ] at hq;have hw:=Jl.mp hq.1;exact d q ((aN h).mpr ⟨hw.1,hq.2.2⟩) hw.2
   ·rw [Y0 (fun z=>d z.2.2),List.filter_cons_of_neg]
    ·rfl
    ·rw [e];intro z;rw [List.isEmpty_iff] at z;refine d fun q hq hc=>?_;have hm:=(aN h).mp hq;have:q ∈ bJ (aH pre a b) x:=by have h1:=h.JX hm.1;simp [bJ,Jl,hm.1,hm.2,hc.1,hc.2,h1.1]
     rw [z] at this; cases this
  ·rw [Y0 c,Y0 (fun z=>c ⟨z.1,z.2.1⟩)];rfl
theorem lM (h:Sh n (pre++[x])):(aT pre x).Pairwise fun p q=>p.1 < q.1/\q.2 < p.2:=by have hs:(aT pre x).Pairwise fun p q=>p.1 < q.1/\(p.2 < q.1∨q.2 < p.2):=(h.pre.2).filter _;refine hs.imp_of_mem fun {p q} hp hq z=>?_;have h1:=(aN h).mp hp;have h2:=(aN h).mp hq;have h3:=h.JX h2.1;have h4:=h.last;omega
theorem nD (h:Sh n (pre++[x])) {es:List (Int × Int)} {m:Int × Int} (he:aT pre x=es++[m]) {o:Int × Int} (ho:o ∈ pre) :
 (o.1 < x.1/\x.2 < o.2/\∀ q ∈ aT pre x,¬ (o.1 < q.1/\q.2 < o.2)) ↔ o=m:=by
 have nest:=lM h;rw [he] at nest;have nm:=(LC.mp nest).2.2;have mm:m ∈ aT pre x:=by rw [he]; simp
 have m1:=(aN h).mp mm;constructor
 ·rintro ⟨h1,h2,h3⟩;have oe:o ∈ aT pre x:=(aN h).mpr ⟨ho,h2⟩;rw [he] at oe;rcases Kk.mp oe with oe | oe
  ·have:=nm o oe m (by simp);exact absurd this (h3 m mm)
  ·exact Lg.mp oe
 ·rintro rfl;have h1:=h.JX m1.1;refine ⟨h1.1,m1.2,fun q hq hc=>?_⟩;rw [he] at hq;rcases Kk.mp hq with hq | hq
  ·have:=nm q hq o (by simp); omega
  ·rw [Lg] at hq; subst hq; omega
theorem uK (h:Sh n (pre++[x])):inner (pre++[x]) x.1 x.2=[]:=by
 refine List.eq_nil_iff_forall_not_mem.mpr fun q hq=>?_;have:=Jl.mp (Jv.mp hq).1;rcases Kk.mp this.1 with z | z
 ·have:=h.JX z; omega
 ·rw [Lg] at z; subst z; omega
@[reducible] def JY (o:Int × Int):NK:=some [o.1,o.2]
@[reducible] def Lz (l:List (Int × Int)):List D:=l.map ae
def aG (n:Int) (pre:List (Int × Int)):List (NK × List D):=(none,Lz (inner pre (-1) n))::pre.map fun o=>(JY o,Lz (inner pre o.1 o.2))
theorem gA (h:JY o=JY p):o=p:=by simp [JY] at h;exact Prod.ext h.1 h.2
theorem fJ (n:Int) (pre:List (Int × Int)):(aG n pre).map (·.1)=none::pre.map JY:=by unfold aG;rw [Z6,KP];rfl
theorem uL (h:Sh n (pre++[x])) {k:NK} (hk:(aT pre x=[]/\k=none)∨∃ es m,aT pre x=es++[m]/\k=JY m) :
 mO (gW (aG n pre) (JY x)) k (ae x)=aG n (pre++[x]):=by
 have hl:=h.last;have top:inner (pre++[x]) (-1) n=inner pre (-1) n++(if aT pre x=[] then [x] else []):=by
  rw [hU h];congr 1;by_cases c:aT pre x=[]
  ·rw [Y1 c,Y1 ⟨by omega,hl.2.2,by rw [c]; simp⟩]
  ·rw [Y0 c,Y0];rintro ⟨_,_,z⟩;obtain ⟨q,hq⟩:=List.exists_mem_of_ne_nil _ c;have hm:=((aN h).mp hq).1;have:=h.1 q (by simp [hm]);exact z q hq ⟨by omega,this.2.2⟩
 unfold aG gW mO;rw [LW,LW,Z6,KP,top,OC,show List.map (fun o=>(JY o,Lz (inner (pre++[x]) o.fst o.snd))) [x]=[(JY x,[])] by rw [Z6,uK h]; rfl];rcases hk with ⟨he,rfl⟩ | ⟨es,m,he,rfl⟩
 ·rw [Y1 he];congr 1
  ·simp
  ·congr 1
   ·refine Yn fun o ho=>?_;show (if JY o=none then ((JY o,Lz (inner pre o.1 o.2)++[ae x]):NK × List D) else (JY o,Lz (inner pre o.1 o.2)))=_;rw [Y0 (by simp [JY]),hU h,Y0]
    ·simp
    ·rintro ⟨z1,z2,_⟩;have:o ∈ aT pre x:=(aN h).mpr ⟨ho,z2⟩;rw [he] at this; cases this
 ·have ne:aT pre x ≠ []:=by rw [he]; simp
  have mx:m ∈ pre:=((aN h).mp (by rw [he]; simp)).1;rw [Y0 ne];congr 1
  ·simp [JY]
  ·congr 1
   ·refine Yn fun o ho=>?_;show (if JY o=JY m then ((JY o,Lz (inner pre o.1 o.2)++[ae x]):NK × List D) else (JY o,Lz (inner pre o.1 o.2)))=_;rw [hU h];by_cases c:o=m
    ·rw [Y1 (by rw [c]),Y1 ((nD h he ho).mpr c)];simp
    ·rw [Y0 (fun z=>c (gA z)),Y0 (fun z=>c ((nD h he ho).mp z))];simp
   ·show [if JY x=JY m then ((JY x,[]++[ae x]):NK × List D) else (JY x,[])]=_;rw [Y0];intro z;have:=gA z;subst this;have:=h.JX mx;omega
open L2
local macro_rules | `(tactic| walk_at "opl")=>`(tactic| first | with_reducible assumption | with_reducible exact Mir.OF | with_reducible exact Mir.OS)
theorem Ic (l:List (Int × Int)):D.Jz (l.map ae)<=3:=bG (fun _=>NT rfl) l
theorem xS (l:List (Int × Int)) (q:Int × Int):JC (.lst ((l++[q]).map ae)) (.int (-1))=some (ae q):=by show Ku ((l++[q]).map ae) (-1)=some (ae q);unfold Ku Mh;simp;rw [Y1 (by omega),Z1,show (-1+((l.length:Int)+1)).toNat=l.length by omega];simp
abbrev bK (sm:D) (st:List (Int × Int)) (h:Option S):En:=[some (.d sm),none,some (.d (.lst (st.map ae))),h]
abbrev xT:MT:=pY (mB (Jn (JG 4 true) (ac 2) (fS ao ah))) (mB (Jn Lf (Jn JC (Jn JC (ac 2) (LQ dJ (mC (.int 1)))) (mC (.int 1))) (Jn JC (ac 3) (mC (.int 0)))))
theorem BG (sm:D) (x:Int × Int) (st:List (Int × Int)) (hl:st.length < 1000):∃ b t,st=b++t/\(∀ q ∈ t,q.2 < x.1)/\(b=[]∨∃ b' q,b=b'++[q]/\¬ q.2 < x.1) /\
 cq 100000 xT bO (bK sm st (some (.d (ae x))))=some (.nx,bK sm b (some (.d (ae x)))):=by
 obtain ⟨b,⟨t,p1,p2⟩,q,e⟩:=lG (fc:=xT) (fb:=bO) (env:=fun b=>bK sm b (some (.d (ae x)))) (fun b=>∃ t,st=b++t/\∀ q ∈ t,q.2 < x.1) (fun b=>b=[]∨∃ b' q,b=b'++[q]/\¬ q.2 < x.1) (fun b=>b.length)
  (fun b hb=>by
   obtain ⟨t,p1,p2⟩:=hb;have ng:dJ (.int 1)=some (.int (-1)):=rfl;rcases YF b with e | ⟨b',q,e⟩
   ·subst e;refine .inl ⟨.inl rfl,?_⟩;have en:JG 4 true (.lst []) (.lst [])=some (.bl false):=rfl;walk_at "ev"
   ·rw [YG] at e;subst e;have en:JG 4 true (.lst ((b'++[q]).map ae)) (.lst [])=some (.bl true):=by rw [xo (Ic _)]; simp
    have le:=xS b' q;by_cases c:q.2 < x.1
    ·have lt:Lf (.int q.2) (.int x.1)=some (.bl true):=by show some (D.bl (decide (q.2 < x.1)))=_; rw [decide_eq_true c]
     refine .inr ⟨b',?_,?_,⟨[q]++t,by rw [p1]; simp,fun p hp=>?_⟩,by simp⟩
     ·walk_at "ev"
     ·have hp:(List.map ae (b'++[q]))[(List.map ae (b'++[q])).length - 1]?=some (ae q):=by simp
      unfold bO;walk_at "ev";simp
     ·rcases Kk.mp hp with hp | hp
      ·rw [Lg] at hp; subst hp; exact c
      ·exact p2 p hp
    ·have lt:Lf (.int q.2) (.int x.1)=some (.bl false):=by show some (D.bl (decide (q.2 < x.1)))=_; rw [Y2 c]
     refine .inl ⟨.inr ⟨b',q,rfl,c⟩,?_⟩;walk_at "ev") 100000 st ⟨[],by simp,by simp⟩ (by omega)
 exact ⟨b,t,p1,p2,q,e⟩
theorem BH {st b t:List (Int × Int)} {x:Int × Int} (hs:st=b++t) (ht:∀ q ∈ t,q.2 < x.1) (hb:b=[]∨∃ b' q,b=b'++[q]/\¬ q.2 < x.1) (hp:st.Pairwise fun p q=>q.2 < p.2):(st.filter fun q=>decide (x.1<=q.2))=b:=by
 subst hs;have t0:(t.filter fun q=>decide (x.1<=q.2))=[]:=by rw [List.filter_eq_nil_iff];intro q hq;have:=ht q hq;simp;omega
 rw [Ye,t0,Ma,List.filter_eq_self];intro q hq;rcases hb with rfl | ⟨b',m,rfl,hm⟩
 ·cases hq
 ·have h1:=(LC.mp hp).1;rcases Kk.mp hq with hq | hq
  ·have:=(LC.mp h1).2.2 q hq m (by simp);simp;omega
  ·rw [Lg] at hq;subst hq;simp;omega
theorem iY:∀ l:List (Int × Int),D.JA (l.map ae)=true
 | []=>rfl
 | p::l=>by
  rw [Z6,D.JA,iY l];rfl
theorem Fb (l st:List (Int × Int)) (x:Int × Int):mN ao (bK (.tup (l.map ae)) st (some (.d (ae x))))=true:=by
 have h0:D.imm (.tup (l.map ae))=true:=by rw [D.imm]; exact iY l
 have h2:=iY st;show (List.range 4).all _=true;rw [show List.range 4=[0,1,2,3] by decide];simp only [List.all_cons,List.all_nil,Bool.and_true];have e0:jL (ai ao 0) (look (bK (.tup (l.map ae)) st (some (.d (ae x)))) 0)=true:=h0;have e1:jL (ai ao 1) (look (bK (.tup (l.map ae)) st (some (.d (ae x)))) 1)=true:=rfl;have e2:jL (ai ao 2) (look (bK (.tup (l.map ae)) st (some (.d (ae x)))) 2)=true:=h2;have e3:jL (ai ao 3) (look (bK (.tup (l.map ae)) st (some (.d (ae x)))) 3)=true:=rfl;rw [e0,e1,e2,e3];rfl
structure RI (n:Int) (pre st:List (Int × Int)):Prop where
 a:∀ x,Sh n (pre++[x])->(st.filter fun q=>decide (x.1<=q.2))=aT pre x
 b:st.Pairwise fun p q=>q.2 < p.2
 c:st.length<=pre.length
theorem RI.add {n:Int} {pre st:List (Int × Int)} {x:Int × Int} (h:Sh n (pre++[x])):RI n (pre++[x]) (aT pre x++[x]) where
 a:=fun y hy=>by
  have hx:=hy.JX (q:=x) (by simp);unfold aT;rw [Ye,Ye,List.filter_filter];congr 1;refine List.filter_congr fun q hq=>?_;rw [Bool.eq_iff_iff];simp;intro z;omega
 b:=by refine LC.mpr ⟨(lM h).imp fun z=>z.2,by simp,fun p hp q hq=>?_⟩;rw [Lg] at hq;subst hq;exact ((aN h).mp hp).2
 c:=by rw [LD,LD];have:(aT pre x).length<=pre.length:=NS _ _;simp;exact this
abbrev Fc:MT:=mB (Jn (JG 4 false) (ac 2) (fS ao ah))
abbrev BI:ME:=Jn JC (ac 2) (LQ dJ (mC (.int 1)))
abbrev BJ:MS:=cI (bm ao 2 (ad (ac 3) ah))
theorem BK (sm:D) (b:List (Int × Int)) (h:Option S):Fc (bK sm b h)=some (b.isEmpty,bK sm b h):=by
 have en:JG 4 false (.lst (b.map ae)) (.lst [])=some (.bl b.isEmpty):=by rw [mQ (Ic _)];cases b <;> rfl
 walk_at "ev"
theorem Id (sm:D) (b:List (Int × Int)) (m:Int × Int) (h:Option S):BI (bK sm (b++[m]) h)=some (.val (ae m),bK sm (b++[m]) h):=by have ng:dJ (.int 1)=some (.int (-1)):=rfl;have le:=xS b m;walk_at "ev"
theorem Ie (sm:D) (b:List (Int × Int)) (x:Int × Int) (hl:b.length < 1000):BJ (bK sm b (some (.d (ae x))))=some (.nx,bK sm (b++[x]) (some (.d (ae x)))):=by walk_at "ev";simp
theorem Fd {n:Int} {pre st l:List (Int × Int)} {x:Int × Int} (h:Sh n (pre++[x])) (hl:pre.length < 900) (I:RI n pre st) (h3:Option S) :
 dR ao (cq 100000 xT bO) Fc BI BJ (ae x) (bK (.tup (l.map ae)) st h3,aG n pre)=some (bK (.tup (l.map ae)) (aT pre x++[x]) (some (.d (ae x))),aG n (pre++[x])):=by
 obtain ⟨b,t,p1,p2,p3,p4⟩:=BG (.tup (l.map ae)) x st (by have:=I.c; omega);have eb:=BH p1 p2 p3 I.b;rw [I.a x h] at eb;subst eb;have le:(aT pre x).length<=pre.length:=NS _ _;have kl:(aG n pre).length=pre.length+1:=by simp [aG]
 have il:∀ a b,(inner pre a b).length<=pre.length:=fun a b=>by
  unfold inner aH;exact La (NS _ _) (NS _ _)
 have nk:JY x ∉ (aG n pre).map (·.1):=by
  rw [fJ];intro z;rcases JS.mp z with z | z
  ·cases z
  ·obtain ⟨o,ho,e⟩:=Ke.mp z;have:=gA e;subst this;have:=h.JX ho;omega
 have sz:∀ kv ∈ gW (aG n pre) (JY x),kv.2.length < sizeLine:=by
  intro kv hk;unfold gW at hk;rcases Kk.mp hk with hk | hk
  ·unfold aG at hk;rcases JS.mp hk with rfl | hk
   ·have:=il (-1) n;exact bC (by simp [Lz]; omega)
   ·obtain ⟨o,ho,rfl⟩:=Ke.mp hk;have:=il o.1 o.2;exact bC (by simp [Lz]; omega)
  ·rw [Lg] at hk;subst hk;exact bC (by simp)
 have ky:(gW (aG n pre) (JY x)).map (·.1)=none::pre.map JY++[JY x]:=by unfold gW;rw [LW,fJ];rfl
 have im:=Fb l (aT pre x) x;unfold dR;show (OA (cq 100000 xT bO (bK (.tup (l.map ae)) st (some (.d (ae x)))))).bind _=_;rw [p4];show (if mN ao (bK (.tup (l.map ae)) (aT pre x) (some (.d (ae x))))=true/\(aG n pre).length < sizeLine/\JY x ∉ (aG n pre).map (·.1) then _ else none)=_;rw [Y1 ⟨im,bC (by omega),nk⟩,BK,Z1];obtain ⟨k,k1,k2,k3⟩:∃ k,k ∈ none::pre.map JY++[JY x]/\((aT pre x=[]/\k=none)∨∃ es m,aT pre x=es++[m]/\k=JY m)/\iU BI ((aT pre x).isEmpty,bK (.tup (l.map ae)) (aT pre x) (some (.d (ae x))))=some (bK (.tup (l.map ae)) (aT pre x) (some (.d (ae x))),k):=by
  rcases YF (aT pre x) with e | ⟨es,m,e⟩
  ·exact ⟨none,by simp,.inl ⟨e,rfl⟩,by rw [e]; rfl⟩
  ·rw [YG] at e;have mx:m ∈ pre:=((aN h).mp (by rw [e]; simp)).1;refine ⟨JY m,?_,.inr ⟨es,m,e,rfl⟩,?_⟩
   ·exact M9 _ (Z8 _ (Ke.mpr ⟨m,mx,rfl⟩))
   ·rw [e];unfold iU;rw [show (es++[m]).isEmpty=false by simp];simp only [Lk,if_false];rw [Id];rfl
 rw [k3,Z1];show (if D.imm (ae x)=true/\mN ao (bK (.tup (l.map ae)) (aT pre x) (some (.d (ae x))))=true/\k ∈ (gW (aG n pre) (JY x)).map (·.1)/\(∀ kv ∈ gW (aG n pre) (JY x),kv.2.length < sizeLine) then (OA (BJ (bK (.tup (l.map ae)) (aT pre x) (some (.d (ae x)))))).bind fun ρ5=>some (ρ5,mO (gW (aG n pre) (JY x)) k (ae x)) else none)=some (bK (.tup (l.map ae)) (aT pre x++[x]) (some (.d (ae x))),aG n (pre++[x]));rw [Y1 ⟨rfl,im,by rw [ky]; exact k1,sz⟩,Ie _ _ _ (by omega),uL h k2];rfl
theorem xU {n:Int} {l:List (Int × Int)}:∀ (post pre st:List (Int × Int)) (h3:Option S),Sh n (pre++post)->(pre++post).length < 900->RI n pre st ->
 ∃ st' h',lh (dR ao (cq 100000 xT bO) Fc BI BJ) (post.map ae) (bK (.tup (l.map ae)) st h3,aG n pre)=some (bK (.tup (l.map ae)) st' h',aG n (pre++post))
 | [],pre,st,h3,_,_,_=>⟨st,h3,by rw [Ma]; rfl⟩
 | x::post,pre,st,h3,h,hl,I=>by
  have e:pre++x::post=(pre++[x])++post:=by simp
  rw [e] at h hl ⊢;have hx:=h.pre;obtain ⟨st',h',r⟩:=xU post (pre++[x]) (aT pre x++[x]) (some (.d (ae x))) h hl (RI.add hx (st:=st));refine ⟨st',h',?_⟩;rw [Z6];unfold lh;rw [Fd hx (by simp at hl; omega) I,Z1];exact r
theorem xV {n:Int} {sh:List (Int × Int)} (h:Sh n sh) (hl:sh.length < 900):rX [.d (.tup (sh.map ae))]=some (.dn ((aG n sh).map fun kv=>(kv.1,.lst kv.2))):=by
 obtain ⟨st',h',r⟩:=xU (l:=sh) sh [] [] none (by simpa using h) (by simpa using hl) ⟨fun x _=>rfl,.nil,JI 0⟩;refine Ev.fn (ρ:=[some (.d (.tup (sh.map ae))),none,none,none]) (s:=.dn ((aG n sh).map fun kv=>(kv.1,.lst kv.2))) rfl (ρ1:=bK (.tup (sh.map ae)) st' h') ?_ rfl;unfold mY mP;rw [Y1 ⟨by simp,rfl⟩];have e1:bB (bW ao ah) 2 [some (.d (.tup (sh.map ae))),none,none,none]=some (.nx,bK (.tup (sh.map ae)) [] none):=by walk_at "ev"
 rw [e1];show (if D.JA (sh.map ae)=true then _ else none)=_;rw [Y1 (iY _)];have z:aG n []=[(none,[])]:=rfl;rw [z] at r;rw [r];rfl
open L2
theorem Ev.NU {m:List S->Option S} {f:MA} {i:Nat} {os:List Op} {ss:List S} {kvs:List (NK × D)} {ρ ρ1 ρ2:En} (h1:f ρ=some (os,ρ1)) (h2:dO ρ1 os=some ss) (h3:m ss=some (.dn kvs)) (h4:ρ1.set i (some (.dn kvs))=ρ2):fH m f i ρ=some (.nx,ρ2):=by unfold fH;subst h4;simp only [h1,h2,h3,L5,Z1]
local macro_rules | `(tactic| walk_at "evE")=>`(tactic| with_reducible apply Mir.Ev.vK)
local macro_rules | `(tactic| walk_at "evG")=>`(tactic| with_reducible apply Mir.Ev.OT)
local macro_rules | `(tactic| walk_at "evN")=>`(tactic| with_reducible exact Mir.Ev.Pu)
local macro_rules | `(tactic| walk_at "evS")=>`(tactic| first | with_reducible apply Mir.Ev.NU | with_reducible apply Mir.Ev.ou)
local macro_rules | `(tactic| walk_at "evI")=>`(tactic| with_reducible assumption)
local macro_rules | `(tactic| walk_at "opl")=>`(tactic| first | with_reducible assumption | with_reducible exact Mir.OF | with_reducible exact Mir.OS | with_reducible exact Mir.nY1 _ | with_reducible exact Mir.nY0)
def LV (n:Int) (sh:List (Int × Int)):NK->Int
 | none=>((inner sh (-1) n).length:Int)
 | some [a,b]=>((inner sh a b).length:Int)+1
 | _=>0
@[reducible] def dy (n:Int) (sh:List (Int × Int)):List (NK × D):=(aG n sh).map fun kv=>(kv.1,.lst kv.2)
@[reducible] def aL (sh:List (Int × Int)):List NK:=none::sh.map JY
@[reducible] def eE (n:Int) (sh:List (Int × Int)) (ks:List NK):List (NK × D):=ks.map fun k=>(k,.int (LV n sh k))
theorem qI {α:Type} {f:α->NK} {g:α->D}:∀ {l:List α} {x:α},x ∈ l->(∀ y ∈ l,f y=f x->y=x)->aE (l.map fun y=>(f y,g y)) (f x)=some (g x)
 | y::l,x,hx,hi=>by
  rw [Z6];unfold aE;by_cases c:f y=f x
  ·rw [Y1 c,hi y (by simp) c]
  ·rw [Y0 c];rcases JS.mp hx with rfl | hx
   ·exact absurd rfl c
   ·exact qI hx fun z hz=>hi z (by simp [hz])
theorem uM {n:Int} {sh:List (Int × Int)} {o:Int × Int} (ho:o ∈ sh):aE (dy n sh) (JY o)=some (.lst (Lz (inner sh o.1 o.2))):=by unfold dy aG;rw [Z6,KP];unfold aE;rw [Y0 (by simp [JY])];exact qI (f:=JY) (g:=fun o=>D.lst (Lz (inner sh o.1 o.2))) ho fun y _ e=>gA e
theorem sF {n:Int} {sh:List (Int × Int)} {ks:List NK} {k:NK} (hk:k ∈ ks):aE (eE n sh ks) k=some (.int (LV n sh k)):=
 qI (f:=fun k:NK=>k) (g:=fun k=>D.int (LV n sh k)) hk fun _ _ e=>e
theorem xW (hk:k ∉ ks):aE (eE n sh ks) k=none:=by
 induction ks with
 | nil=>rfl
 | cons x r ih=>unfold eE;rw [Z6];unfold aE;rw [Y0 (fun z=>hk (by rw [<- z]; simp))];exact ih fun z=>hk (by simp [z])
theorem xX (h:Sh n sh):(aL sh).Nodup:=by
 unfold aL;refine List.nodup_cons.mpr ⟨by simp [JY],?_⟩;have:sh.Nodup:=h.2.imp fun {a b} z e=>by rw [e] at z; omega
 exact YD JY (fun a b hne e=>hne (gA e)) this
theorem sG:∀ ks:List NK,D.JA ((eE n sh ks).map (·.2))=true
 | []=>rfl
 | k::ks=>by
  unfold eE;rw [Z6,Z6,D.JA,sG ks];rfl
theorem iB {n:Int} {sh:List (Int × Int)} (h:Sh n sh) (hl:sh.length < 900):lC [.d (.tup (sh.map ae))]=some (.dn (eE n sh (aL sh))):=by
 have ro:=xV h hl;have nd:=xX h;obtain ⟨b,hb,loop⟩:=bA (g:=af 3) (f:=d9) (e:=OB) (l:=aL sh) (env:=fun fd:List (NK × D)=>[none,some (.dn (dy n sh)),some (.dm fd),none]) (fun pre fd=>fd=eE n sh pre)
  (fun pre k post fd hsp hP=>by
   subst hP;have kn:k ∉ pre:=by rw [hsp] at nd;intro z;exact (List.nodup_append.mp nd).2.2 k z k (by simp) rfl
   have vn:=xW (n:=n) (sh:=sh) kn;have dl:(eE n sh pre).length < 1000000:=by have:=Y9 List.length hsp;simp [aL] at this;simp;omega
   refine ⟨_,rfl,?_⟩;have hk:k ∈ aL sh:=by rw [hsp]; simp
   rcases JS.mp hk with rfl | hk
   ·have v:aE (dy n sh) none=some (.lst (Lz (inner sh (-1) n))):=rfl;have ln:a7 [.lst (Lz (inner sh (-1) n))]=some (.int ((inner sh (-1) n).length:Int)):=by have:=uB (l:=Lz (inner sh (-1) n));rw [Z2] at this;exact this
    have nk:L9 .non=some none:=rfl;have ib:pZ [.bl false]=some (.int 0):=rfl;show ∃ ρ1,af 3 .non _=some ρ1/\_;apply Ev.turn;walk_at "ev";unfold d9;walk_at "ev";simp [eE,LV]
   ·obtain ⟨o,ho,rfl⟩:=Ke.mp hk;have v:=uM (n:=n) ho;have ln:a7 [.lst (Lz (inner sh o.1 o.2))]=some (.int ((inner sh o.1 o.2).length:Int)):=by have:=uB (l:=Lz (inner sh o.1 o.2));rw [Z2] at this;exact this
    have nk:L9 (ae o)=some (JY o):=rfl;have ib:pZ [.bl true]=some (.int 1):=rfl;show ∃ ρ1,af 3 (ae o) _=some ρ1/\_;apply Ev.turn;walk_at "ev";unfold d9;walk_at "ev";simp [eE,LV]) [] rfl
 subst hb;have hi:qu 1 [none,some (.dn (dy n sh)),some (.dm []),none]=some ((aL sh).map OB,[none,some (.dn (dy n sh)),some (.dm []),none]):=by
  refine Ev.ndI rfl ?_;have e:(dy n sh).map (·.1)=aL sh:=by unfold dy;rw [KP];exact fJ n sh
  rw [<- e];generalize dy n sh=R;rw [KP];rfl
 have im:=sG (n:=n) (sh:=sh) (aL sh);apply Ev.fn (ρ:=[some (.d (.tup (sh.map ae))),none,none,none]) rfl;unfold m8;walk_at "ev"
open L2
theorem Fu.pw (h:Fu M a n x):x.Pairwise fun p q=>p.1 < q.1/\(p.2 < q.1∨q.2 < p.2):=by
 induction h with
 | nil=>exact .nil
 | @hoop a j b p q h1 h2 hm h3 h4 i1 i2=>
  have n1:=h3.Mf;have n2:=h4.Mf;refine .cons (fun x hx=>?_) (LC.mpr ⟨i1,i2,fun x hx y hy=>?_⟩)
  ·rcases Kk.mp hx with hx | hx
   ·have:=n1 x hx; dsimp only; omega
   ·have:=n2 x hx; dsimp only; omega
  ·have z1:=n1 x hx; have z2:=n2 y hy; omega
theorem Fu.sh (h:Fu M 0 n x):Sh n x:=⟨fun p hp=>h.Mf p hp,h.pw⟩
theorem Sh.rel (h:Sh n sh) {p q:Int × Int} (hp:p ∈ sh) (hq:q ∈ sh):(p.1=q.1/\p.2=q.2)∨p.2 < q.1∨q.2 < p.1∨(p.1 < q.1/\q.2 < p.2)∨(q.1 < p.1/\p.2 < q.2):=by
 rcases YE p.1 q.1 with c | c | c
 ·have:=h.two hp hq c; omega
 ·have:=h.one hp hq c; subst this; exact .inl ⟨rfl,rfl⟩
 ·have:=h.two hq hp c; omega
theorem BL {p q:Int × Int} (h:p ≠ q):¬ (p.1=q.1/\p.2=q.2):=fun z=>h (Prod.ext z.1 z.2)
def bc (n:Int) (sh:List (Int × Int)):Option (Int × Int)->List (Int × Int)
 | none=>inner sh (-1) n
 | some o=>inner sh o.1 o.2++[(o.2,o.1)]
@[reducible] def KI:Option (Int × Int)->D
 | none=>.non
 | some o=>ae o
theorem uN {α:Type} {g:MG} {f:MS} {e:α->D} {ρ:En} {N:α->Prop} {Y:S->Prop} {l:List α} (hs:∀ a ∈ l,∃ ρ1,g (e a) ρ=some ρ1/\((N a/\f ρ1=some (.nx,ρ))∨∃ s ρ2,Y s/\f ρ1=some (.ret s,ρ2))) :
 ((∀ a ∈ l,N a)/\bw g f (l.map e) ρ=some (.nx,ρ))∨∃ s ρ2,Y s/\bw g f (l.map e) ρ=some (.ret s,ρ2):=by
 induction l with
 | nil=>exact .inl ⟨fun _ h=>(by cases h),rfl⟩
 | cons a l ih=>
  obtain ⟨ρ1,h1,h2⟩:=hs a (by simp);rcases h2 with ⟨h2,h3⟩ | ⟨s,ρ2,h2,h3⟩
  ·have st:bw g f ((a::l).map e) ρ=bw g f (l.map e) ρ:=by rw [Z6,dU h1 h3]
   rw [st];rcases ih fun b hb=>hs b (by simp [hb]) with ⟨i1,i2⟩ | i
   ·exact .inl ⟨fun b hb=>by rcases JS.mp hb with rfl | hb; exact h2; exact i1 b hb,i2⟩
   ·exact .inr i
  ·refine .inr ⟨s,ρ2,h2,?_⟩;rw [Z6];unfold bw;rw [h1,Z1,h3,Z1]
theorem qJ {α:Type} {f:α->Nat}:∀ {l:List α},(l.Pairwise fun p q=>f p ≠ f q)->∀ p ∈ l,∀ q ∈ l,f p=f q->p=q
 | [],_,p,hp,_,_,_=>by cases hp
 | a::l,h,p,hp,q,hq,e=>by
  have h':=List.pairwise_cons.mp h;rcases JS.mp hp with c | hp <;> rcases JS.mp hq with d | hq
  ·rw [c,d]
  ·exact absurd (by rw [<- c]; exact e) (h'.1 q hq)
  ·exact absurd (by rw [<- d]; exact e.symm) (h'.1 p hp)
  ·exact qJ h'.2 p hp q hq e
theorem fl2 (x:Nat):fl (fl x)=x:=by unfold fl; split <;> split <;> omega
def NR (sh:List (Int × Int)) (k:Option (Int × Int)):Prop:=∀ o,k=some o->o ∈ sh
theorem kC (h:Sh n sh) {a b:Int} {p:Int × Int} (hp:p ∈ inner sh a b):p ∈ sh/\a < p.1/\p.2 < b/\0<=p.1/\p.1 < p.2/\p.2 < n:=by have h1:=Jl.mp (Jv.mp hp).1;exact ⟨h1.1,h1.2.1,h1.2.2,h.1 p h1.1⟩
@[reducible] def KJ (sh:List (Int × Int)):List (Option (Int × Int)):=none::sh.map some
theorem fK (h:k ∈ KJ sh):NR sh k:=by
 intro o e;subst e;rcases JS.mp h with z | z
 ·cases z
 ·obtain ⟨p,hp,e⟩:=Ke.mp z;cases e;exact hp
theorem Fe (h:Sh n sh) {k:Option (Int × Int)} (hk:NR sh k):∀ w ∈ bc n sh k,0<=w.1/\w.1 < n:=by
 intro w hw;cases k with
 | none=>have:=kC h (show w ∈ inner sh (-1) n from hw); omega
 | some o=>
  rcases Kk.mp (show w ∈ inner sh o.1 o.2++[(o.2,o.1)] from hw) with z | z
  ·have:=kC h z; omega
  ·rw [Lg] at z;subst z;have:=h.1 o (hk o rfl);dsimp only;omega
theorem BM {ls:List Nat} {sh:List (Int × Int)} (fu:Fu (fe ls) 0 ls.length sh) (hp:∀ k ∈ KJ sh,(bc ls.length sh k).Pairwise fun p q=>J6 ls p.1 ≠ J6 ls q.1):FN (fe ls) 0 ls.length=1:=by
 have h:=fu.sh;obtain ⟨_,rk⟩:=fu.rk;have hm:∀ p ∈ sh,J6 ls p.2=fl (J6 ls p.1):=fun p hp=>of_decide_eq_true (rk.LH p hp).2.2.2;have gd:=Fa (L:=J6 ls) (g:=fl) (by omega) h hm fu.all (fun o ho=>by
  have pw:=hp (some o) (Z8 _ (Ke.mpr ⟨o,ho,rfl⟩));have ij:=qJ (f:=fun p:Int × Int=>J6 ls p.1) pw;refine ⟨fun p hp q hq e=>ij p (M9 _ hp) q (M9 _ hq) e,fun p hp e=>?_⟩;injection e with e;have:=ij (o.2,o.1) (MX _ (by simp)) p (M9 _ hp) e;have i0:=kC h hp;have o0:=h.1 o ho;rw [<- this] at i0;dsimp only at i0;omega) (by
  have ij:=qJ (f:=fun p:Int × Int=>J6 ls p.1) (hp none (by simp));exact ⟨fun p hp q hq e=>ij p hp q hq e,fun p _ e=>by cases e⟩)
 exact Gd.only (J6 ls) fl2 (fun i j=>⟨of_decide_eq_true,decide_eq_true⟩) gd
theorem CC (i j:Int):rK [.int i,.int j]=some (.int (max i j)):=by
 show some (D.int (if i < j then j else i))=_;congr 2;by_cases h:i < j
 ·rw [Y1 h]; omega
 ·rw [Y0 h]; omega
theorem CD (i j:Int):rJ [.int i,.int j]=some (.int (min i j)):=by
 show some (D.int (if j < i then j else i))=_;congr 2;by_cases h:j < i
 ·rw [Y1 h]; omega
 ·rw [Y0 h]; omega
theorem BN (l:List Int):cP (l.map D.int)=some l:=by
 induction l with
 | nil=>rfl
 | cons a l ih=>rw [Z6,cP,ih]; rfl
theorem iC:∀ (n:Int) (l:List Int),bp n l ∈ n::l
 | n,[]=>by show n ∈ _; simp
 | n,a::l=>by
  show bp (if a < n then a else n) l ∈ _;rcases JS.mp (iC (if a < n then a else n) l) with z | z
  ·rw [z]; split <;> simp
  ·simp [z]
theorem o9 (n:Int) (l:List Int):bL n l ∈ n::l:=by
 unfold bL;have:=iC (-n) (l.map fun x=>-x);rcases JS.mp this with z | z
 ·rw [z]; simp
 ·obtain ⟨x,hx,e⟩:=Ke.mp z;rw [<- e]; simp [hx]
theorem BO (hk:k ∈ aL sh):∃ q ∈ KJ sh,LV n sh k=((bc n sh q).length:Int):=by
 rcases JS.mp hk with rfl | hk
 ·exact ⟨none,by simp,rfl⟩
 ·obtain ⟨o,ho,rfl⟩:=Ke.mp hk;refine ⟨some o,Z8 _ (Ke.mpr ⟨o,ho,rfl⟩),?_⟩;show ((inner sh o.1 o.2).length:Int)+1=((inner sh o.1 o.2++[(o.2,o.1)]).length:Int);simp
theorem lN {α:Type} (l:List α):Ev.jO (fun _:α=>(none:Option S)) l=none:=by
 induction l with
 | nil=>rfl
 | cons a l ih=>unfold Ev.jO; exact ih
open L2
local macro_rules | `(tactic| walk_at "evE")=>`(tactic| first | with_reducible apply Ev.MF | with_reducible apply Ev.Nk)
def qK:D->Bool
 | .int _=>true
 | _=>false
theorem lO (d:D):xx [.d d]=some (.d (.bl (qK d))):=by
 cases d with
 | non=>
  apply Ev.fn (ρ:=[some (.d (.non))]) rfl
  ·unfold gq;walk_at "ev"
  ·rfl
 | bl i=>
  apply Ev.fn (ρ:=[some (.d (.bl i))]) rfl
  ·unfold gq;walk_at "ev"
  ·rfl
 | int i=>
  apply Ev.fn (ρ:=[some (.d (.int i))]) rfl
  ·unfold gq;walk_at "ev"
  ·rfl
 | str i=>
  apply Ev.fn (ρ:=[some (.d (.str i))]) rfl
  ·unfold gq;walk_at "ev"
  ·rfl
 | tup l=>
  apply Ev.fn (ρ:=[some (.d (.tup l))]) rfl
  ·unfold gq;walk_at "ev"
  ·rfl
 | lst i=>
  apply Ev.fn (ρ:=[some (.d (.lst i))]) rfl
  ·unfold gq;walk_at "ev"
  ·rfl
def Ff:D->Bool
 | .tup [_,_]=>true
 | _=>false
theorem sH (l:List D):Ff (.tup l)=decide (l.length=2):=by
 match l with
 | []=>rfl
 | [_]=>rfl
 | [_,_]=>rfl
 | _::_::_::_=>simp [Ff]
theorem lP (d:D):Be [.d d,.d (.int 2),.d (.int 2)]=some (.d (.bl (Ff d))):=by
 cases d with
 | non=>
  apply Ev.fn (ρ:=[some (.d (.non)),some (.d (.int 2)),some (.d (.int 2))]) rfl
  ·unfold fm;walk_at "ev"
  ·rfl
 | bl i=>
  apply Ev.fn (ρ:=[some (.d (.bl i)),some (.d (.int 2)),some (.d (.int 2))]) rfl
  ·unfold fm;walk_at "ev"
  ·rfl
 | int i=>
  apply Ev.fn (ρ:=[some (.d (.int i)),some (.d (.int 2)),some (.d (.int 2))]) rfl
  ·unfold fm;walk_at "ev"
  ·rfl
 | str i=>
  apply Ev.fn (ρ:=[some (.d (.str i)),some (.d (.int 2)),some (.d (.int 2))]) rfl
  ·unfold fm;walk_at "ev"
  ·rfl
 | tup l=>
  rw [sH];by_cases h:(2:Int)<=l.length
  ·have e:decide ((l.length:Int)<=2)=decide (l.length=2):=decide_eq_decide.mpr (by omega);apply Ev.fn (ρ:=[some (.d (.tup l)),some (.d (.int 2)),some (.d (.int 2))]) rfl
   ·unfold fm;walk_at "ev"
   ·rw [e]
  ·have e:decide (l.length=2)=false:=Y2 (by omega);apply Ev.fn (ρ:=[some (.d (.tup l)),some (.d (.int 2)),some (.d (.int 2))]) rfl
   ·unfold fm;walk_at "ev"
   ·rw [e]
 | lst i=>
  apply Ev.fn (ρ:=[some (.d (.lst i)),some (.d (.int 2)),some (.d (.int 2))]) rfl
  ·unfold fm;walk_at "ev"
  ·rfl
def bD (n:Int):D->Bool
 | .tup [.int i,.int j]=>decide (0<=i/\i < j/\j < n)
 | _=>false
theorem xY (n:Int) (d:D):xz [.d (.int n),.d d]=some (.d (.bl (bD n d))):=by
 have ht:=lP d;cases d with
 | non=>
  apply Ev.fn (ρ:=[some (.d (.int n)),some (.d (.non)),none,none]) rfl
  ·unfold cL;walk_at "ev"
  ·rfl
 | bl i=>
  apply Ev.fn (ρ:=[some (.d (.int n)),some (.d (.bl i)),none,none]) rfl
  ·unfold cL;walk_at "ev"
  ·rfl
 | int i=>
  apply Ev.fn (ρ:=[some (.d (.int n)),some (.d (.int i)),none,none]) rfl
  ·unfold cL;walk_at "ev"
  ·rfl
 | str i=>
  apply Ev.fn (ρ:=[some (.d (.int n)),some (.d (.str i)),none,none]) rfl
  ·unfold cL;walk_at "ev"
  ·rfl
 | tup l=>
  have ht:=lP (.tup l);rw [sH] at ht;by_cases h:l.length=2
  ·rw [decide_eq_true h] at ht
   match l,h,ht with
   | [x,y],_,ht=>
    have hx:=lO x;have hy:=lO y;cases wx:qK x with
    | false=>
     have e:bD n (.tup [x,y])=false:=by cases x <;> first | rfl | cases wx
     rw [wx] at hx;rw [e];apply Ev.fn (ρ:=[some (.d (.int n)),some (.d (.tup [x,y])),none,none]) rfl
     ·unfold cL;walk_at "ev"
     ·rfl
    | true=>
     obtain ⟨i,rfl⟩:∃ i,x=.int i:=by cases x <;> first | exact ⟨_,rfl⟩ | cases wx
     rw [wx] at hx;cases wy:qK y with
     | false=>
      have e:bD n (.tup [.int i,y])=false:=by cases y <;> first | rfl | cases wy
      rw [wy] at hy;rw [e];apply Ev.fn (ρ:=[some (.d (.int n)),some (.d (.tup [.int i,y])),none,none]) rfl
      ·unfold cL;walk_at "ev"
      ·rfl
     | true=>
      obtain ⟨j,rfl⟩:∃ j,y=.int j:=by cases y <;> first | exact ⟨_,rfl⟩ | cases wy
      rw [wy] at hy;by_cases c1:0<=i
      ·by_cases c2:i < j
       ·have e:bD n (.tup [.int i,.int j])=decide (j < n):=decide_eq_decide.mpr (by omega);rw [e];apply Ev.fn (ρ:=[some (.d (.int n)),some (.d (.tup [.int i,.int j])),none,none]) rfl
        ·unfold cL;walk_at "ev"
        ·rfl
       ·have e:bD n (.tup [.int i,.int j])=false:=Y2 (by omega);rw [e];apply Ev.fn (ρ:=[some (.d (.int n)),some (.d (.tup [.int i,.int j])),none,none]) rfl
        ·unfold cL;walk_at "ev"
        ·rfl
      ·have e:bD n (.tup [.int i,.int j])=false:=Y2 (by omega);rw [e];apply Ev.fn (ρ:=[some (.d (.int n)),some (.d (.tup [.int i,.int j])),none,none]) rfl
       ·unfold cL;walk_at "ev"
       ·rfl
  ·rw [Y2 h] at ht;have e:bD n (.tup l)=false:=by
    match l,h with
    | [],_=>rfl
    | [x],_=>cases x <;> rfl
    | [_,_],h=>exact absurd rfl h
    | _::_::_::_,_=>simp [bD]
   rw [e];apply Ev.fn (ρ:=[some (.d (.int n)),some (.d (.tup l)),none,none]) rfl
   ·unfold cL;walk_at "ev"
   ·rfl
 | lst i=>
  apply Ev.fn (ρ:=[some (.d (.int n)),some (.d (.lst i)),none,none]) rfl
  ·unfold cL;walk_at "ev"
  ·rfl
open L2
theorem Ev.mK {md:List Md} {f:MA} {os:List Op} {l:List D} {ρ ρ1:En} (h1:f ρ=some (os,ρ1)) (h2:JB md ρ1 os=some [.tup l]):k9 md f ρ=some (Mir.mK l,ρ1):=by unfold k9;rw [h1,Z1,h2,Z1]
local macro_rules | `(tactic| walk_at "evI")=>`(tactic| with_reducible apply Ev.mK)
def Lu (h o:Int × Int):Bool:=decide (o.1 < h.1) && (decide (o.2 < h.1) || decide (h.2 < o.2))
theorem qL (h o:Int × Int):xy [.d (ae h),.d (ae o)]=some (.d (.bl (Lu h o))):=by
 obtain ⟨i,j⟩:=h;obtain ⟨a,b⟩:=o;have i0:JC (.tup [.int i,.int j]) (.int 0)=some (.int i):=rfl;have i1:JC (.tup [.int i,.int j]) (.int 1)=some (.int j):=rfl;have i2:JC (.tup [.int a,.int b]) (.int 0)=some (.int a):=rfl;have i3:JC (.tup [.int a,.int b]) (.int 1)=some (.int b):=rfl;by_cases c1:a < i
 ·by_cases c2:b < i
  ·have e:Lu (i,j) (a,b)=true:=by simp [Lu,c1,c2]
   rw [e];apply Ev.fn (ρ:=[some (.d (.tup [.int i,.int j])),some (.d (.tup [.int a,.int b]))]) rfl
   ·unfold lz;walk_at "ev"
   ·rfl
  ·have e:Lu (i,j) (a,b)=decide (j < b):=by simp [Lu,c1,c2]
   rw [e];apply Ev.fn (ρ:=[some (.d (.tup [.int i,.int j])),some (.d (.tup [.int a,.int b]))]) rfl
   ·unfold lz;walk_at "ev"
   ·rfl
 ·have e:Lu (i,j) (a,b)=false:=by simp [Lu,c1]
  rw [e];apply Ev.fn (ρ:=[some (.d (.tup [.int i,.int j])),some (.d (.tup [.int a,.int b]))]) rfl
  ·unfold lz;walk_at "ev"
  ·rfl
theorem all_map {α:Type} (f:α->Bool) (l:List α):v7 [.lst (l.map fun a=>.bl (f a))]=some (.bl (l.all f)):=by
 have e:(l.map fun a=>D.bl (f a))=(l.map f).map D.bl:=by rw [KP]; rfl
 show ((eZ (l.map fun a=>D.bl (f a))).map fun ns=>D.bl (ns.all id))=_;rw [e,v6,YN,List.all_map];rfl
theorem uO {ps:List (Int × Int)} {k:Nat} (h:k < ps.length):MF (.tup (ps.map ae)) none (some (k:Int))=some (.tup ((ps.take k).map ae)):=by
 unfold MF;dsimp only;have e:HT.JE (ps.map ae).length (ps.map ae).length (some (k:Int))=k:=by rw [HT.yT,Z2];omega
 have e0:HT.JE (ps.map ae).length 0 none=0:=rfl;rw [e0,e,Y0 (by rw [Z2]; omega)];unfold ox;rw [e0,e,List.drop_zero,Nat.sub_zero,List.map_take]
def kD (ps:List (Int × Int)):Bool:=(ps.mapIdx fun k p=>(k,p)).all fun x=>(ps.take x.1).all (Lu x.2)
def enE (x:Nat × (Int × Int)):D:=.tup [.int (x.1:Int),ae x.2]
theorem uP (ps:List (Int × Int)):mK (ps.map ae)=(ps.mapIdx fun k p=>(k,p)).map enE:=by unfold mK;apply List.ext_getElem?;intro i;rw [YK,Kb,Kb,YK];cases ps[i]? <;> rfl
theorem sI {ps:List (Int × Int)} {x:Nat × (Int × Int)} (h:x ∈ ps.mapIdx fun k p=>(k,p)):x.1 < ps.length/\ps[x.1]?=some x.2:=by obtain ⟨k,hk⟩:=List.getElem?_of_mem h;rw [YK,Y3] at hk;obtain ⟨p,e,rfl⟩:=hk;exact ⟨(Z9.mp e).1,e⟩
theorem pb {α:Type} (f:α->Bool) (s:S):∀ l:List α,Ev.jO (fun a=>if f a=true then none else some s) l=if l.all f=true then none else some s
 | []=>rfl
 | a::l=>by
  have ih:=pb f s l;unfold Ev.jO;cases e:f a with
  | true=>simp [e,ih]
  | false=>simp [e]
theorem Fg {ps:List (Int × Int)} (hl:ps.length < 1000):Bh [.d (.tup (ps.map ae))]=some (.d (.bl (kD ps))):=by
 have look:=Ev.jP (g:=a9 2 (az (af 1) (az (af 2) be))) (f:=gv) (e:=enE) (ρ:=[some (.d (.tup (ps.map ae))),none,none]) (c:=fun x:Nat × (Int × Int)=>if (ps.take x.1).all (Lu x.2)=true then none else some (.d (.bl false))) (l:=ps.mapIdx fun k p=>(k,p))
  (fun x hx=>by
   obtain ⟨k,p⟩:=x;obtain ⟨hk,hp⟩:=sI hx;dsimp only at hk hp;have cut:=uO hk;obtain ⟨y,lp⟩:=Ev.xt (md:=b6 oU 1 [2] []) (f:=aB xy (ad (ac 1) (ad (ac 0) ah))) (e:=ae) (h:=fun o=>.bl (Lu p o)) (r:=[some (.d (ae p))]) (l:=ps.take k) (fun o ho=>by
    have fo:=qL p o;refine ⟨.val (.bl (Lu p o)),?_,rfl⟩;walk_at "ev") (by simp; omega) none
   have al:=all_map (Lu p) (ps.take k);refine ⟨[some (.d (.tup (ps.map ae))),some (.d (.int (k:Int))),some (.d (ae p))],rfl,?_⟩;cases c:(ps.take k).all (Lu p) with
   | true=>rw [c] at al;simp only [c,if_true];unfold gv;walk_at "ev"
   | false=>rw [c] at al;simp only [c,Lk,if_false];unfold gv;apply Exists.intro;walk_at "ev")
 obtain ⟨l1,l2⟩:=look;have fr:=pb (fun x:Nat × (Int × Int)=>(ps.take x.1).all (Lu x.2)) (.d (.bl false)) (ps.mapIdx fun k p=>(k,p));rw [<- uP] at l1 l2;cases c:kD ps with
 | true=>
  unfold kD at c;rw [c] at fr;have lo:=l2 fr;apply Ev.fn (ρ:=[some (.d (.tup (ps.map ae))),none,none]) rfl
  ·unfold oV;walk_at "ev"
  ·rfl
 | false=>
  unfold kD at c;rw [c] at fr;obtain ⟨ρ2,lo⟩:=l1 _ fr;apply Ev.fn (ρ:=[some (.d (.tup (ps.map ae))),none,none]) rfl
  ·unfold oV;walk_at "ev"
  ·rfl
open L2
def xZ:D->Option (Int × Int)
 | .tup [.int i,.int j]=>some (i,j)
 | _=>none
def iL (l:List D):List (Int × Int):=l.filterMap xZ
theorem uQ (h:bD n d=true):∃ i j:Int,d=.tup [.int i,.int j]/\0<=i/\i < j/\j < n:=by
 unfold bD at h;split at h
 ·exact ⟨_,_,rfl,of_decide_eq_true h⟩
 ·cases h
theorem lQ:∀ {l:List D},l.all (bD n)=true->l=(iL l).map ae/\∀ p ∈ iL l,0<=p.1/\p.1 < p.2/\p.2 < n
 | [],_=>⟨rfl,by simp [iL]⟩
 | d::l,h=>by
  rw [List.all_cons,Lv] at h;obtain ⟨i,j,rfl,h1⟩:=uQ h.1;obtain ⟨e,hp⟩:=lQ h.2;have ep:iL (.tup [.int i,.int j]::l)=(i,j)::iL l:=by simp [iL,xZ]
  rw [ep];refine ⟨by rw [Z6,<- e],fun p hp'=>?_⟩;rcases JS.mp hp' with rfl | hp'
  ·exact h1
  ·exact hp p hp'
def lR (n:Int):D->Bool
 | .tup l=>decide (2 * (l.length:Int)=n) && (l.all (bD n) && kD (iL l))
 | _=>false
theorem eU (n:Int) (l:List D):lR n (.tup l)=(decide (2 * (l.length:Int)=n) && (l.all (bD n) && kD (iL l))):=rfl
theorem x8 (hl:l.length < 1000):Bi [.d (.int n),.d (.tup l)]=some (.d (.bl (lR n (.tup l)))):=by
 by_cases c1:2 * (l.length:Int)=n
 ·obtain ⟨y,lp⟩:=Ev.xt (α:=D) (md:=b6 sf 1 [0] []) (f:=aB xz (ad (ac 1) (ad (ac 0) ah))) (e:=id) (h:=fun d=>.bl (bD n d)) (r:=[some (.d (.int n))]) (l:=l) (fun d hd=>by
   have fo:=xY n d;refine ⟨.val (.bl (bD n d)),?_,rfl⟩;dsimp only [id];walk_at "ev") (by omega) none
  rw [List.map_id] at lp;have al:=all_map (bD n) l;cases c2:l.all (bD n) with
  | true=>
   rw [c2] at al;obtain ⟨e,hp⟩:=lQ c2;have lo:=Fg (ps:=iL l) (by have:=Y9 List.length e; rw [Z2] at this; omega);rw [<- e] at lo;have ev:lR n (.tup l)=kD (iL l):=by rw [eU,decide_eq_true c1,c2]; rfl
   rw [ev];apply Ev.fn (ρ:=[some (.d (.int n)),some (.d (.tup l))]) rfl
   ·unfold lD;walk_at "ev"
   ·rfl
  | false=>
   rw [c2] at al;have ev:lR n (.tup l)=false:=by rw [eU,c2]; simp
   rw [ev];apply Ev.fn (ρ:=[some (.d (.int n)),some (.d (.tup l))]) rfl
   ·unfold lD;walk_at "ev"
   ·rfl
 ·have ev:lR n (.tup l)=false:=by rw [eU,Y2 c1]; rfl
  rw [ev];apply Ev.fn (ρ:=[some (.d (.int n)),some (.d (.tup l))]) rfl
  ·unfold lD;walk_at "ev"
  ·rfl
theorem Nx:Lu h o=true ↔ o.1 < h.1/\(o.2 < h.1∨h.2 < o.2):=by unfold Lu;simp
theorem Nf:kD ps=true ↔ ps.Pairwise (fun o h=>Lu h o=true):=by
 unfold kD;rw [L0,List.pairwise_iff_getElem];constructor
 ·intro h i j hi hj hij;have:=h (j,ps[j]) (Y5 (i:=j) (by rw [YK,Z3 hj]; rfl));rw [L0] at this;exact this ps[i] (Y5 (i:=i) (by rw [List.getElem?_take_of_lt hij,Z3 hi]))
 ·intro h x hx;obtain ⟨hk,hp⟩:=sI hx;rw [L0];intro o ho;obtain ⟨i,hi⟩:=List.getElem?_of_mem ho;have hi2:i < x.1:=by have:=(Z9.mp hi).1;simp at this;omega
  rw [List.getElem?_take_of_lt hi2] at hi;obtain ⟨h1,h2⟩:=Z9.mp hi;obtain ⟨h3,h4⟩:=Z9.mp hp;have:=h i x.1 h1 h3 hi2;rw [h2,h4] at this;exact this
theorem Fh (ps:List (Int × Int)):iL (ps.map ae)=ps:=by
 unfold iL;rw [List.filterMap_map];have:(xZ ∘ ae)=some:=by funext p; rfl
 rw [this,List.filterMap_some]
open L2
def bv (n:Int) (sh:List (Int × Int)):Option (Int × Int)->List (Int × Int)
 | none=>inner sh (-1) n
 | some o=>inner sh o.1 o.2
theorem dA (h:Sh n sh) {k:Option (Int × Int)} {p:Int × Int} (hp:p ∈ bv n sh k):p ∈ sh/\0<=p.1/\p.1 < p.2/\p.2 < n:=by
 cases k with
 | none=>obtain ⟨a,_,_,b⟩:=kC h (show p ∈ inner sh (-1) n from hp); exact ⟨a,b⟩
 | some o=>obtain ⟨a,_,_,b⟩:=kC h (show p ∈ inner sh o.1 o.2 from hp); exact ⟨a,b⟩
theorem lT (h:Sh n sh) {p:Int × Int} (hp:p ∈ sh):∃ k ∈ KJ sh,(∀ o,k=some o->o.1 < p.1)/\p ∈ bv n sh k:=by
 obtain ⟨pre,post,rfl⟩:=List.append_of_mem hp;have hs:Sh n (pre++[p]):=by
  have:Sh n ((pre++[p])++post):=by simpa using h
  exact this.pre
 have p0:=h.1 p hp;have bef:∀ q ∈ pre++p::post,q.1 < p.1->q ∈ pre:=fun q hq z=>by
  rcases Kk.mp hq with y | y
  ·exact y
  ·rcases JS.mp y with y | y
   ·subst y; omega
   ·have:=(List.pairwise_cons.mp (LC.mp h.2).2.1).1 q y; omega
 rcases YF (aT pre p) with e | ⟨es,m,e⟩
 ·refine ⟨none,by simp,(fun o z=>by cases z),?_⟩;refine Jv.mpr ⟨Jl.mpr ⟨hp,by omega,by omega⟩,fun q hq z1 z2=>?_⟩;have:q ∈ aT pre p:=(aN hs).mpr ⟨bef q (Jl.mp hq).1 z1,z2⟩;rw [e] at this; cases this
 ·rw [YG] at e;have mm:=(aN hs).mp (show m ∈ aT pre p by rw [e]; simp);have ra:=(nD hs e mm.1).mpr rfl;refine ⟨some m,Z8 _ (Ke.mpr ⟨m,M9 _ mm.1,rfl⟩),fun o z=>(by cases z; exact ra.1),?_⟩;refine Jv.mpr ⟨Jl.mpr ⟨hp,ra.1,ra.2.1⟩,fun q hq z1 z2=>?_⟩;have hw:=Jl.mp hq;exact ra.2.2 q ((aN hs).mpr ⟨bef q hw.1 z1,z2⟩) hw.2
theorem x9 (h:Sh n sh) {k k':Option (Int × Int)} (hk:NR sh k) (hk':NR sh k') {p:Int × Int} (h1:p ∈ bv n sh k) (h2:p ∈ bv n sh k'):k=k':=by
 have no:∀ {o:Int × Int},o ∈ sh->p ∈ inner sh (-1) n->p ∈ inner sh o.1 o.2->False:=fun {o} ho z1 z2=>by
  have o0:=h.1 o ho;have i2:=kC h z2;exact (Jv.mp z1).2 o (Jl.mpr ⟨ho,by omega,by omega⟩) i2.2.1 i2.2.2.1
 cases k with
 | none=>
  cases k' with
  | none=>rfl
  | some o=>exact absurd (show p ∈ inner sh o.1 o.2 from h2) (fun z=>no (hk' o rfl) h1 z)
 | some o=>
  cases k' with
  | none=>exact absurd (show p ∈ inner sh o.1 o.2 from h1) (fun z=>no (hk o rfl) h2 z)
  | some o'=>
   have a1:=kC h (show p ∈ inner sh o.1 o.2 from h1);have a2:=kC h (show p ∈ inner sh o'.1 o'.2 from h2);have ho:=hk o rfl;have ho':=hk' o' rfl;have r:=h.rel ho ho';have n1:=(Jv.mp (show p ∈ inner sh o.1 o.2 from h1)).2 o';have n2:=(Jv.mp (show p ∈ inner sh o'.1 o'.2 from h2)).2 o;rcases r with r | r | r | r | r
   ·congr 1; exact Prod.ext r.1 r.2
   ·omega
   ·omega
   ·exact absurd a2.2.2.1 (n1 (Jl.mpr ⟨ho',r.1,r.2⟩) a2.2.1)
   ·exact absurd a1.2.2.1 (n2 (Jl.mpr ⟨ho,r.1,r.2⟩) a1.2.1)
def KD:List (Int × Int)->List Nat->List (List Nat)->List (List Nat)
 | p::hs,x::ch,ws=>KD hs ch ((ws.set p.1.toNat [x]).set p.2.toNat [fl x])
 | _,_,ws=>ws
theorem sJ:∀ (hs:List (Int × Int)) (ch:List Nat) (ws:List (List Nat)),(KD hs ch ws).length=ws.length
 | p::hs,x::ch,ws=>by rw [KD,sJ]; simp
 | [],_,_=>rfl
 | _::_,[],_=>rfl
theorem sK (hm:m % 2=0):∀ {hs:List (Int × Int)} {ch:List Nat} {ws:List (List Nat)},(∀ x ∈ ch,x < m)->(∀ w ∈ ws,qG m w)->∀ w ∈ KD hs ch ws,qG m w
 | p::hs,x::ch,ws,h1,h2=>by
  rw [KD];have hx:=h1 x (by simp);exact sK hm (fun y hy=>h1 y (by simp [hy])) (o7 (o7 h2 hx _) (HZ hx hm) _)
 | [],_,_,_,h=>h
 | _::_,[],_,_,h=>h
theorem gB:∀ {hs:List (Int × Int)} {ch:List Nat} {ws:List (List Nat)} {z:Nat},(∀ p ∈ hs,p.1.toNat ≠ z/\p.2.toNat ≠ z)->(KD hs ch ws)[z]?=ws[z]?
 | p::hs,x::ch,ws,z,h=>by
  have h1:=h p (by simp);rw [KD,gB fun q hq=>h q (by simp [hq]),Yp h1.2,Yp h1.1]
 | [],_,_,_,_=>rfl
 | _::_,[],_,_,_=>rfl
theorem qM:∀ {hs:List (Int × Int)} {ch:List Nat} {ws:List (List Nat)},(ws.length:Int)=n->hs.length<=ch.length->(∀ p ∈ hs,0<=p.1/\p.1 < p.2/\p.2 < n)->(hs.Pairwise fun p q=>p.1 ≠ q.1/\p.1 ≠ q.2/\p.2 ≠ q.1/\p.2 ≠ q.2) ->
 hs.map (fun p=>(KD hs ch ws)[p.1.toNat]?)=(ch.take hs.length).map (fun x=>some [x])/\hs.map (fun p=>(KD hs ch ws)[p.2.toNat]?)=(ch.take hs.length).map (fun x=>some [fl x])
 | p::hs,x::ch,ws,hn,hl,hb,hp=>by
  obtain ⟨p1,p2⟩:=List.pairwise_cons.mp hp;have p0:=hb p (by simp);have ih:=qM (hs:=hs) (ch:=ch) (ws:=(ws.set p.1.toNat [x]).set p.2.toNat [fl x]) (by simp; omega) (by simp at hl; omega) (fun q hq=>hb q (by simp [hq])) p2;have out1:∀ q ∈ hs,q.1.toNat ≠ p.1.toNat/\q.2.toNat ≠ p.1.toNat:=fun q hq=>by
   have:=p1 q hq; have:=hb q (by simp [hq]); omega
  have out2:∀ q ∈ hs,q.1.toNat ≠ p.2.toNat/\q.2.toNat ≠ p.2.toNat:=fun q hq=>by
   have:=p1 q hq; have:=hb q (by simp [hq]); omega
  rw [KD,M8,List.take_succ_cons,Z6,Z6,Z6,Z6,ih.1,ih.2,gB out1,gB out2];rw [Yp (by omega),Yu (by omega),Yu (by simp; omega)];exact ⟨rfl,rfl⟩
 | [],_,_,_,_,_,_=>⟨rfl,rfl⟩
 | p::hs,[],_,_,hl,_,_=>by simp at hl
theorem ya (hn:(ws.length:Int)=n) (hl:hs.length<=ch.length) (hb:∀ p ∈ hs,0<=p.1/\p.1 < p.2/\p.2 < n) (hp:hs.Pairwise fun p q=>p.1 ≠ q.1/\p.1 ≠ q.2/\p.2 ≠ q.1/\p.2 ≠ q.2) {p:Int × Int} (hm:p ∈ hs) :
 ∃ x ∈ ch,(KD hs ch ws)[p.1.toNat]?=some [x]/\(KD hs ch ws)[p.2.toNat]?=some [fl x]:=by
 obtain ⟨e1,e2⟩:=qM hn hl hb hp;obtain ⟨i,hi⟩:=List.getElem?_of_mem hm;have hlt:=(Z9.mp hi).1;have c1:=Y9 (fun l=>l[i]?) e1;have c2:=Y9 (fun l=>l[i]?) e2;simp only [Kb,hi,YN] at c1 c2;have hx:(ch.take hs.length)[i]?=some ch[i]:=by rw [List.getElem?_take_of_lt hlt,Z3 (by omega)]
 rw [hx,YN,Option.some_inj] at c1 c2;exact ⟨ch[i],YJ _,c1,c2⟩
theorem Fi {n:Int} {hs:List (Int × Int)} {ch:List Nat} {ws:List (List Nat)} (hn:(ws.length:Int)=n) (hl:hs.length<=ch.length) (hb:∀ p ∈ hs,0<=p.1/\p.1 < p.2/\p.2 < n) (hp:hs.Pairwise fun p q=>p.1 ≠ q.1/\p.1 ≠ q.2/\p.2 ≠ q.1/\p.2 ≠ q.2) (nd:ch.Nodup) :
 hs.Pairwise fun p q=>(KD hs ch ws)[p.1.toNat]? ≠ (KD hs ch ws)[q.1.toNat]?:=by
 obtain ⟨e1,_⟩:=qM hn hl hb hp;have:(hs.map fun p=>(KD hs ch ws)[p.1.toNat]?).Pairwise (· ≠ ·):=by rw [e1];refine YD _ (fun a b hab z=>?_) (nd.sublist (List.take_sublist _ _));injection z with z;injection z with z _;exact hab z
 exact List.pairwise_map.mp this
theorem yb (hb:b < m):((List.range m).filter fun x=>decide (x ≠ b)).length=m - 1:=by
 have e:((List.range m).filter fun x=>decide (x ≠ b))=(List.range m).erase b:=by rw [List.nodup_range.erase_eq_filter];apply List.filter_congr;intro x _;by_cases c:x=b <;> simp [c]
 rw [e,List.length_erase_of_mem (List.mem_range.mpr hb),Yq]
structure CI (n c:Int) (sh:List (Int × Int)) (pre:List (Option (Int × Int))) (ws:List (List Nat)):Prop where
 len:(ws.length:Int)=n
 cel:∀ w ∈ ws,qG (2 * c).toNat w
 st:∀ k ∈ pre,(∀ p ∈ bv n sh k,∃ x:Nat,ws[p.1.toNat]?=some [x]/\ws[p.2.toNat]?=some [fl x])/\(bc n sh k).Pairwise fun p q=>ws[p.1.toNat]? ≠ ws[q.1.toNat]?
theorem kg (h:Sh n sh) {p q:Int × Int} (hp:p ∈ sh) (hq:q ∈ sh) (ne:p ≠ q):p.1 ≠ q.1/\p.1 ≠ q.2/\p.2 ≠ q.1/\p.2 ≠ q.2:=by have:=h.rel hp hq;have:=BL ne;have:=h.1 p hp;have:=h.1 q hq;omega
theorem qN (h:Sh n sh) (k:Option (Int × Int)):(bv n sh k).Pairwise fun p q=>p.1 ≠ q.1/\p.1 ≠ q.2/\p.2 ≠ q.1/\p.2 ≠ q.2:=by
 have so:(bv n sh k).Pairwise fun a b=>a.1 < b.1:=by
  cases k with
  | none=>exact dw h (-1) n
  | some o=>exact dw h o.1 o.2
 refine so.imp_of_mem fun {p q} hp hq lt=>kg h (dA h hp).1 (dA h hq).1 fun e=>by rw [e] at lt; omega
theorem CI.step {n c:Int} {sh:List (Int × Int)} (h:Sh n sh) (hc:0<=c) {pre post:List (Option (Int × Int))} {k:Option (Int × Int)} (hsp:KJ sh=pre++k::post) {ws:List (List Nat)} (I:CI n c sh pre ws) {ch:List Nat} (h1:∀ x ∈ ch,x < (2 * c).toNat) (h2:(bv n sh k).length<=ch.length) (nd:ch.Nodup) (hb:∀ o,k=some o->∃ b,ws[o.2.toNat]?=some [b]/\b ∉ ch) :
 CI n c sh (pre++[k]) (KD (bv n sh k) ch ws):=by
 have hk:NR sh k:=fK (by rw [hsp]; simp);have bb:∀ p ∈ bv n sh k,0<=p.1/\p.1 < p.2/\p.2 < n:=fun p hp=>(dA h hp).2;have ap:=qN h k;have keep:∀ q ∈ sh,q ∉ bv n sh k->(KD (bv n sh k) ch ws)[q.1.toNat]?=ws[q.1.toNat]?/\(KD (bv n sh k) ch ws)[q.2.toNat]?=ws[q.2.toNat]?:=fun q hq nq=>by
  have q0:=h.1 q hq;refine ⟨gB fun p hp=>?_,gB fun p hp=>?_⟩
  ·have:=kg h (dA h hp).1 hq (fun e=>nq (by rw [<- e]; exact hp));have:=bb p hp;omega
  ·have:=kg h (dA h hp).1 hq (fun e=>nq (by rw [<- e]; exact hp));have:=bb p hp;omega
 have kn:(KJ sh).Nodup:=by
  refine List.nodup_cons.mpr ⟨by simp,?_⟩;have:sh.Nodup:=h.2.imp fun {a b} z e=>by rw [e] at z; omega
  exact YD some (fun a b hne e=>hne (KZ e)) this
 refine ⟨by rw [sJ]; exact I.len,sK (by omega) h1 I.cel,fun k' hk'=>?_⟩;rcases Kk.mp hk' with hk1 | hk1
 ·have ik':NR sh k':=fK (by rw [hsp]; simp [hk1]);have kne:k' ≠ k:=fun e=>by
   rw [hsp] at kn;exact (List.nodup_append.mp kn).2.2 k' hk1 k (by simp) e
  obtain ⟨s1,s2⟩:=I.st k' hk1;have out:∀ p ∈ bv n sh k',p ∉ bv n sh k:=fun p z1 z2=>kne (x9 h ik' hk z1 z2);refine ⟨fun p hp=>?_,s2.imp_of_mem fun {p q} hp hq ne=>?_⟩
  ·obtain ⟨x,x1,x2⟩:=s1 p hp;have kp:=keep p (dA h hp).1 (out p hp);exact ⟨x,by rw [kp.1]; exact x1,by rw [kp.2]; exact x2⟩
  ·have same:∀ w ∈ bc n sh k',(KD (bv n sh k) ch ws)[w.1.toNat]?=ws[w.1.toNat]?:=fun w hw=>by
    cases k' with
    | none=>exact (keep w (dA h (k:=none) hw).1 (out w hw)).1
    | some o'=>
     rcases Kk.mp (show w ∈ inner sh o'.1 o'.2++[(o'.2,o'.1)] from hw) with z | z
     ·exact (keep w (dA h (k:=some o') z).1 (out w z)).1
     ·rw [Lg] at z;subst z;refine (keep o' (ik' o' rfl) fun z=>?_).2;have ord:(KJ sh).Pairwise fun a b=>∀ u v,a=some u->b=some v->u.1 < v.1:=by refine List.pairwise_cons.mpr ⟨(fun b _ u v e=>by cases e),?_⟩;exact YD some (fun a b z u v e1 e2=>by cases e1; cases e2; exact z) (h.2.imp fun z=>z.1)
      cases k with
      | none=>
       have e0:=Y9 (fun l=>l[0]?) hsp;cases pre with
       | nil=>exact absurd hk1 Yb
       | cons a pre=>
        have:(none:Option (Int × Int))=a:=by simpa using e0
        subst this;rw [hsp] at kn;exact (List.nodup_append.mp kn).2.2 none (by simp) none (by simp) rfl
      | some o=>rw [hsp] at ord;have:=(LC.mp ord).2.2 (some o') hk1 (some o) (by simp) o' o rfl rfl;have i1:=kC h (show o' ∈ inner sh o.1 o.2 from z);omega
   rw [same p hp,same q hq];exact ne
 ·rw [Lg] at hk1;subst hk1;refine ⟨fun p hp=>?_,?_⟩
  ·obtain ⟨x,_,x1,x2⟩:=ya (n:=n) I.len h2 bb ap hp;exact ⟨x,x1,x2⟩
  ·have pw:=Fi (n:=n) I.len h2 bb ap nd;cases k' with
   | none=>exact pw
   | some o=>
    obtain ⟨b,b1,b2⟩:=hb o rfl;refine LC.mpr ⟨pw,by simp,fun p hp q hq=>?_⟩;rw [Lg] at hq;subst hq;obtain ⟨x,x0,x1,_⟩:=ya (n:=n) I.len h2 bb ap (show p ∈ bv n sh (some o) from hp);have oo:(KD (bv n sh (some o)) ch ws)[o.2.toNat]?=ws[o.2.toNat]?:=by refine (keep o (hk o rfl) fun z=>?_).2;have:=kC h (show o ∈ inner sh o.1 o.2 from z);omega
    dsimp only;rw [x1,oo,b1];intro e;injection e with e;injection e with e _;exact b2 (by rw [<- e]; exact x0)
open L2 Builtin.Str
local macro_rules | `(tactic| walk_at "evE")=>`(tactic| with_reducible apply Ev.MF)
theorem Jd {cs:List Nat} {b:Nat} (hb:b<=cs.length) (hl:cs.length < 1000000):Oy (.str (txt cs)) none (some (b:Int))=some (.str (txt (cs.take b))):=by
 have h:=Jb (cs:=cs) (a:=0) (b:=b) (K0 _) hb hl;rw [List.drop_zero,Nat.sub_zero] at h;rw [<- h];show (if _ then _ else _)=if _ then _ else _
 have e:strSliceIndices none (some (b:Int)) 1 (txt cs).length=strSliceIndices (some ((0:Nat):Int)) (some (b:Int)) 1 (txt cs).length:=by rw [b7];unfold strSliceIndices;simp;rw [show max 0 (min 0 (cs.length:Int))=0 by omega]
 unfold Txt.slice;rw [e]
theorem sL (h:0<=c/\c<=13):MF (.str ("abcdefghijklmnopqrstuvwxyz":Str)) none (some (2 * c))=some (.str (JP (List.range (2 * c).toNat))):=by have e:("abcdefghijklmnopqrstuvwxyz":Str)=txt ((List.range 26).map (97+·)):=sw;rw [e];obtain ⟨n,hn⟩:=Int.eq_ofNat_of_zero_le (show 0<=2 * c by omega);rw [hn];have sz:∀ z:Str,MF (.str z) none (some (n:Int))=Oy (.str z) none (some (n:Int)):=fun _=>rfl;rw [sz,Jd (by simp; omega) (by simp),<- List.map_take,List.take_range,show min n 26=n by omega];rfl
theorem yc (h:0<=c/\c<=13):Bg [.d (.int c)]=some (.d (.str (JP (List.range (2 * c).toNat)))):=by
 have lc:=sL h;apply Ev.fn (ρ:=[some (.d (.int c))]) rfl;unfold rV;walk_at "ev"
 all_goals rfl
theorem yd (ls:List Nat):cn (JP ls)=ls.map fun x=>D.str (sgn (97+x)):=by unfold cn JP txt;rw [KP];simp [sgn]
theorem qO:∀ ws:List (List Nat),D.JA (ws.map Kc)=true
 | []=>rfl
 | w::ws=>by
  rw [Z6,D.JA,qO ws];rfl
theorem nE (ws:List (List Nat)):fV (.d (.lst (ws.map Kc)))=some (.d (.lst (ws.map Kc))):=Y1 (qO ws)
theorem pc (us ws:List (List Nat)):oh (.d (.lst (us.map Kc))) (.d (.lst (ws.map Kc)))=some (.d (.lst (ws.map Kc))):=Y1 (qO ws)
theorem Ev.zip {md:List Md} {f:MA} {os:List Op} {l m:List D} {ρ ρ1:En} (h1:f ρ=some (os,ρ1)) (h2:JB md ρ1 os=some [.lst l,.lst m]):up md f ρ=some (qq l m,ρ1):=by unfold up;rw [h1,Z1,h2,Z1]
theorem Fj (hs:List (Int × Int)) (ch:List Nat):qq (hs.map ae) (ch.map fun x=>D.str (sgn (97+x)))=(List.zip hs ch).map fun p=>D.tup [ae p.1,.str (sgn (97+p.2))]:=by
 unfold qq;rw [List.zipWith_map]
 induction hs generalizing ch with
 | nil=>simp
 | cons p hs ih=>
  cases ch with
  | nil=>simp
  | cons x ch=>simp [ih]
theorem lU:∀ (hs:List (Int × Int)) (ch:List Nat) (ws:List (List Nat)),(ws.length:Int)=n->(∀ p ∈ hs,0<=p.1/\p.1 < p.2/\p.2 < n)->(∀ x ∈ ch,x < 26)->∀ (a b:Option S),
 Kr (a9 2 (az (a9 2 (az (af 3) (az (af 4) be))) (az (af 5) be))) d6 ((List.zip hs ch).map fun p=>D.tup [ae p.1,.str (sgn (97+p.2))]) [some (.d (.lst (ws.map Kc))),a,b,none,none,none] [some (.d (.lst ((KD hs ch ws).map Kc))),a,b,none,none,none]
 | p::hs,x::ch,ws,hn,hb,hx,a,b=>by
  have p0:=hb p (by simp);have x0:=hx x (by simp);have ih:=lU hs ch ((ws.set p.1.toNat [x]).set p.2.toNat [fl x]) (by simp; omega) (fun q hq=>hb q (by simp [hq])) (fun y hy=>hx y (by simp [hy])) a b;rw [KD,List.zip_cons_cons,Z6];have t:∃ ρ1,a9 2 (az (a9 2 (az (af 3) (az (af 4) be))) (az (af 5) be)) (.tup [ae p,.str (sgn (97+x))]) [some (.d (.lst (ws.map Kc))),a,b,none,none,none]=some ρ1/\d6 ρ1=some (.nx,[some (.d (.lst (((ws.set p.1.toNat [x]).set p.2.toNat [fl x]).map Kc))),a,b,none,none,none]):=by
   have fo:=hG x0;have e1:∀ y:Nat,D.str (sgn (97+y))=Kc [y]:=fun y=>rfl;rw [List.map_set,List.map_set];have lr:(ws.map Kc).length=n:=by simp; omega
   rw [e1];rw [e1,e1] at fo;obtain ⟨i,j⟩:=p;dsimp only at p0 ⊢;generalize Kc [x]=A at *;generalize Kc [fl x]=B at *;generalize ws.map Kc=WM at *;apply Ev.turn;walk_at "ev";unfold d6;walk_at "ev"
  exact Kr.app (Kr.one t) ih
 | [],ch,ws,_,_,_,_,_=>by
  rw [KD]
  ·exact .nil _
  ·intro _ _ _ _ z; cases z
 | p::hs,[],ws,_,_,_,_,_=>by
  rw [KD]
  ·exact .nil _
  ·intro _ _ _ _ _ z; cases z
local macro_rules | `(tactic| walk_at "evI")=>`(tactic| with_reducible apply Ev.zip)
local macro_rules | `(tactic| walk_at "evC")=>`(tactic| first | with_reducible exact Mir.nE _ | with_reducible exact Mir.pc _ _)
theorem Je (h1:(if ss.length=np then ou (mb (cX n ss)) else none)=ou (mb ρ)) (h2:mb ρ=some (.nx,ρ1)) (h3:look ρ1 0=some s0) (h4:fV s0=some s0'):iH false n np mb ss=some (.d .non,s0'):=by unfold iH wg; rw [Y0 (by simp),h1,h2]; show ((look ρ1 0).bind fV).map _=_; rw [h3,Z1,h4]; rfl
theorem ye {n:Int} {hs:List (Int × Int)} {ch:List Nat} {ws:List (List Nat)} (hn:(ws.length:Int)=n) (hb:∀ p ∈ hs,0<=p.1/\p.1 < p.2/\p.2 < n) (hx:∀ x ∈ ch,x < 26) :
 rZ [.d (.lst (ws.map Kc)),.d (.lst (ch.map fun x=>D.str (sgn (97+x)))),.d (.lst (hs.map ae))]=some (.d .non,.d (.lst ((KD hs ch ws).map Kc))):=by
 have run:=(lU hs ch ws hn hb hx (some (.d (.lst (ch.map fun x=>D.str (sgn (97+x)))))) (some (.d (.lst (hs.map ae))))).run;rw [<- Fj] at run;refine Je (ρ:=[some (.d (.lst (ws.map Kc))),some (.d (.lst (ch.map fun x=>D.str (sgn (97+x))))),some (.d (.lst (hs.map ae))),none,none,none]) rfl (ρ1:=[some (.d (.lst ((KD hs ch ws).map Kc))),none,none,none,none,none]) ?_ rfl (nE _);generalize (KD hs ch ws).map Kc=L2M at *;generalize ws.map Kc=WM at *;generalize hs.map ae=HM at *;generalize (ch.map fun x=>D.str (sgn (97+x)))=CM at *;unfold m4;walk_at "ev"
open L2
theorem Ig (hm:m<=26) {T:D} {q:Nat->Bool} (ht:∀ x,x < m->JG 4 true (.str (sgn (97+x))) T=some (.bl (q x))) :
 ∃ y,K5 (af 0) (mB (Jn (JG 4 true) (ac 0) (ac 1))) (bX (b6 cz 1 [7] []) (ac 0)) ((List.range m).map fun x=>D.str (sgn (97+x))) (none::[some (.d T)]) []=some (y::[some (.d T)],((List.range m).filter q).map fun x=>D.str (sgn (97+x))):=by
 refine Ev.uD (md:=b6 cz 1 [7] []) (ft:=mB (Jn (JG 4 true) (ac 0) (ac 1))) (f:=ac 0) (e:=fun x=>D.str (sgn (97+x))) (h:=fun x=>D.str (sgn (97+x))) (c:=q) (r:=[some (.d T)]) (l:=List.range m) (fun x hx=>?_) (fun x hx _=>⟨.var 0,by walk_at "ev",rfl⟩) (by simp; omega) none;have e:=ht x (List.mem_range.mp hx);walk_at "ev"
theorem yf (hn:0<=n/\n<=100) (h:Sh n sh) {k:Option (Int × Int)} (hk:NR sh k):∃ free:List Int,iz [.d (.int n),.d (.tup (sh.map ae)),.d (KI k)]=some (.d (.tup [.lst ((bv n sh k).map ae),.lst (free.map D.int)])):=by
 cases k with
 | none=>obtain ⟨f,_,r⟩:=lJ hn h; exact ⟨f,r⟩
 | some o=>obtain ⟨f,_,r⟩:=sE hn h (hk o rfl); exact ⟨f,r⟩
abbrev yg (n c:Int) (sh:List (Int × Int)) (ws:List (List Nat)):En:=[some (.d (.int n)),some (.d (.tup (sh.map ae))),some (.d (.int c)),some (.d (.lst (ws.map Kc))),none,none,none,none]
theorem uR (hn:0<=n/\n<=40) (hc:0<=c/\c<=13) (h:Sh n sh) {pre post:List (Option (Int × Int))} {k:Option (Int × Int)} (hsp:KJ sh=pre++k::post) {ws:List (List Nat)} (I:CI n c sh pre ws) (hw:((bc n sh k).length:Int)<=2 * c) :
 ∃ ws',CI n c sh (pre++[k]) ws'/\∃ ρ1,af 4 (KI k) (yg n c sh ws)=some ρ1/\da ρ1=some (.nx,yg n c sh ws'):=by
 have hk:NR sh k:=fK (by rw [hsp]; simp);obtain ⟨free,ro⟩:=yf (n:=n) ⟨hn.1,by omega⟩ h hk;have so:=yc hc;have sg:=yd (List.range (2 * c).toNat);have bb:∀ p ∈ bv n sh k,0<=p.1/\p.1 < p.2/\p.2 < n:=fun p hp=>(dA h hp).2;obtain ⟨T,q,h2,h3,h4,h5⟩:∃ (T:D) (q:Nat->Bool),(∀ x,x < (2 * c).toNat->JG 4 true (.str (sgn (97+x))) T=some (.bl (q x)))/\(bv n sh k).length<=((List.range (2 * c).toNat).filter q).length/\(∀ o,k=some o->∃ b,ws[o.2.toNat]?=some [b]/\b ∉ (List.range (2 * c).toNat).filter q) /\
  MC (mB (Jn Mn (ac 4) (mC .non))) (mC (.str ("":Str))) (Jn JC (ac 3) (Jn JC (ac 4) (mC (.int 1)))) [some (.d (.int n)),some (.d (.tup (sh.map ae))),some (.d (.int c)),some (.d (.lst (ws.map Kc))),some (.d (KI k)),some (.d (.lst ((bv n sh k).map ae))),none,none]=some (.val T,[some (.d (.int n)),some (.d (.tup (sh.map ae))),some (.d (.int c)),some (.d (.lst (ws.map Kc))),some (.d (KI k)),some (.d (.lst ((bv n sh k).map ae))),none,none]):=by
  cases k with
  | none=>
   have iy:Mn .non .non=some (.bl true):=rfl;refine ⟨.str ("":Str),fun _=>true,fun x hx=>?_,?_,(fun o z=>by cases z),?_⟩
   ·have ne:¬ txt [97+x]=txt []:=fun z=>by have:=Nv.mp z; cases this
    rw [xn,CA,Bl,Y2 ne];rfl
   ·rw [List.filter_eq_self.mpr (fun _ _=>rfl),Yq];have:(bv n sh none).length=(bc n sh none).length:=rfl;omega
   ·generalize sh.map ae=Sm at *;generalize ws.map Kc=WM at *;generalize (bv n sh none).map ae=IM at *;show MC _ _ _ [_,_,_,_,some (.d .non),_,_,_]=_;walk_at "ev"
  | some o=>
   have ho:=hk o rfl;have o0:=h.1 o ho;obtain ⟨k',k1,k2,k3⟩:=lT h ho;have kp:k' ∈ pre:=by
    rw [hsp] at k1;rcases Kk.mp k1 with z | z
    ·exact z
    ·have ord:(KJ sh).Pairwise fun a b=>∀ u v,a=some u->b=some v->u.1 < v.1:=by refine List.pairwise_cons.mpr ⟨(fun b _ u v e=>by cases e),?_⟩;exact YD some (fun a b z u v e1 e2=>by cases e1; cases e2; exact z) (h.2.imp fun z=>z.1)
     rw [hsp] at ord;cases k' with
     | none=>
      cases pre with
      | nil=>have:=Y9 (fun l=>l[0]?) hsp; simp at this
      | cons a pre=>
       have:(none:Option (Int × Int))=a:=by have:=Y9 (fun l=>l[0]?) hsp; simpa using this
       rw [<- this]; simp
     | some o'=>
      have lt:=k2 o' rfl;rcases JS.mp z with z | z
      ·cases z; omega
      ·have:=(List.pairwise_cons.mp (LC.mp ord).2.1).1 (some o') z o o' rfl rfl;omega
   obtain ⟨x,x1,x2⟩:=(I.st k' kp).1 o k3;have xm:fl x < (2 * c).toNat:=(I.cel [fl x] (Y5 x2)).2 (fl x) (by simp);have iy:Mn (ae o) .non=some (.bl false):=rfl;have ix:JC (.lst (ws.map Kc)) (.int o.2)=some (Kc [fl x]):=by show Ku _ o.2=_;have:=I.len;rw [eQ (by simp; omega),Kb,x2];rfl
   refine ⟨Kc [fl x],fun y=>decide (y ≠ fl x),fun y hy=>?_,?_,fun o' z=>?_,?_⟩
   ·show JG 4 true (.str (sgn (97+y))) (.str (sgn (97+fl x)))=_;rw [xn];congr 2;by_cases z:y=fl x
    ·simp [z]
    ·rw [Y2 (fun w=>z (by have:=Lo.mp w; omega))];simp [z]
   ·rw [yb xm];have:(bc n sh (some o)).length=(bv n sh (some o)).length+1:=by show (inner sh o.1 o.2++[(o.2,o.1)]).length=_;rw [LD]; rfl
    omega
   ·cases z;exact ⟨fl x,x2,fun z=>by simp at z⟩
   ·generalize sh.map ae=Sm at *;generalize ws.map Kc=WM at *;generalize (bv n sh (some o)).map ae=IM at *;generalize Kc [fl x]=CL at *;show MC _ _ _ [_,_,_,_,some (.d (ae o)),_,_,_]=_;walk_at "ev"
 have ch26:∀ x ∈ (List.range (2 * c).toNat).filter q,x < (2 * c).toNat:=fun x hx=>List.mem_range.mp (List.mem_filter.mp hx).1;have st:=I.step h hc.1 hsp ch26 h3 (List.nodup_range.filter _) h4;refine ⟨_,st,?_⟩;obtain ⟨y,lp⟩:=Ig (m:=(2 * c).toNat) (by omega) h2;rw [<- sg] at lp;have lr:=ye (n:=n) (hs:=bv n sh k) (ch:=(List.range (2 * c).toNat).filter q) (ws:=ws) I.len bb (fun x hx=>by have:=ch26 x hx; omega);unfold yg;have oi:=nE ws;have oi2:=pc ws (KD (bv n sh k) ((List.range (2 * c).toNat).filter q) ws);generalize (KD (bv n sh k) ((List.range (2 * c).toNat).filter q) ws).map Kc=LM at *;generalize (((List.range (2 * c).toNat).filter q).map fun x=>D.str (sgn (97+x)))=CM at *;clear sg;generalize JP (List.range (2 * c).toNat)=TX at *;generalize sh.map ae=Sm at *;generalize ws.map Kc=WM at *;generalize (bv n sh k).map ae=IM at *;generalize KI k=kd at *;refine ⟨_,rfl,?_⟩;show da [some (.d (.int n)),some (.d (.tup Sm)),some (.d (.int c)),some (.d (.lst WM)),some (.d kd),none,none,none]=_;unfold da;generalize MC (mB (Jn Mn (ac 4) (mC .non))) (mC (.str ("":Str))) (Jn JC (ac 3) (Jn JC (ac 4) (mC (.int 1))))=MI at *;walk_at "ev"
open L2
theorem pd (hl:sh.length < 900):aZ (.tup [.non]) (.tup (sh.map ae))=some (.tup ((KJ sh).map KI)):=by
 have ek:(KJ sh).map KI=.non::sh.map ae:=by show KI none::(sh.map some).map KI=_;rw [KP];rfl
 rw [ek];show (if _ then _ else _)=_;rw [Y1 (L8 (bC (by simp; omega)))];rfl
theorem BP (hn:0<=n/\n<=40) (hc:0<=c/\c<=13) (fu:Fu Ot 0 n sh) (hw:∀ k ∈ KJ sh,((bc n sh k).length:Int)<=2 * c) :
 ∃ ls:List Nat,(∀ x ∈ ls,(x:Int) < 2 * c)/\(ls.length:Int)=n/\Fu (fe ls) 0 ls.length sh/\(∀ k ∈ KJ sh,(bc ls.length sh k).Pairwise fun p q=>J6 ls p.1 ≠ J6 ls q.1)/\sj [.d (.int n),.d (.tup (sh.map ae)),.d (.int c)]=some (.d (.str (JP ls))):=by
 have h:=fu.sh;obtain ⟨_,rk⟩:=fu.rk;have hlen:=rk.len;obtain ⟨ws,I,loop⟩:=bA (g:=af 4) (f:=da) (e:=KI) (l:=KJ sh) (env:=fun ws:List (List Nat)=>yg n c sh ws) (fun pre ws=>CI n c sh pre ws)
  (fun pre k post ws hsp I=>by
   obtain ⟨ws',I',t⟩:=uR hn hc h hsp I (hw k (by rw [hsp]; simp));exact ⟨ws',I',t⟩) (List.replicate n.toNat []) ⟨by simp; omega,(fun w hw=>by rw [List.eq_of_mem_replicate hw]; exact ⟨K0 _,fun x hx=>by cases hx⟩),fun k hk=>by cases hk⟩
 obtain ⟨I1,I2,I3⟩:=I;have cell:∀ p ∈ sh,∃ x:Nat,ws[p.1.toNat]?=some [x]/\ws[p.2.toNat]?=some [fl x]:=fun p hp=>by
  obtain ⟨k,k1,_,k3⟩:=lT h hp;exact (I3 k k1).1 p k3
 obtain ⟨ls,f1,f2,f3⟩:=qH (ws:=ws) fun i hi=>by
  obtain ⟨q,q1,q2⟩:=fu.all (i:Int) (by omega) (by omega);obtain ⟨y,y1,y2⟩:=cell q q1;rcases q2 with q2 | q2
  ·rw [q2] at y1; exact ⟨y,by simpa using y1⟩
  ·rw [q2] at y2; exact ⟨fl y,by simpa using y2⟩
 have jn:=BE (ws:=ws) (by rw [f1]; omega);have cl:=xQ I2;rw [f1] at jn cl;have el:(ls.length:Int)=n:=by omega
 refine ⟨ls,fun x hx=>(by have:=cl x hx; omega),el,?_,fun k hk=>?_,?_⟩
 ·have:=fu.mono (M':=fe ls) fun p hp=>by
   obtain ⟨y,y1,y2⟩:=cell p hp;have g1:=f3 _ _ y1;have g2:=f3 _ _ y2;unfold fe J6;rw [g1,g2];exact decide_eq_true rfl
  rw [el];exact this
 ·rw [el];refine (I3 k hk).2.imp_of_mem fun {p q} hp hq ne e=>ne ?_;have at_:∀ w ∈ bc n sh k,ws[w.1.toNat]?=some [J6 ls w.1]:=fun w hw=>by
   have b:=Fe h (fK hk) w hw;obtain ⟨q,q1,q2⟩:=fu.all w.1 b.1 b.2;obtain ⟨y,y1,y2⟩:=cell q q1;rcases q2 with q2 | q2
   ·rw [q2] at y1; rw [y1]; unfold J6; rw [f3 _ _ y1]
   ·rw [q2] at y2; rw [y2]; unfold J6; rw [f3 _ _ y2]
  rw [at_ p hp,at_ q hq,e]
 ·have rp:=qC (n:=n) (d:=.str (Str.ofString "")) (by omega);unfold yg at loop;rw [List.map_replicate] at loop;have e0:Kc []=.str (Str.ofString ""):=by show D.str (txt [])=_; rw [CA]
  rw [e0] at loop;have an:=pd (sh:=sh) (by omega);generalize JP ls=T at *;generalize (KJ sh).map KI=KM at *;generalize sh.map ae=Sm at *;generalize ws.map Kc=WM at *;apply Ev.fn (ρ:=[some (.d (.int n)),some (.d (.tup Sm)),some (.d (.int c)),none,none,none,none,none]) rfl;unfold nh;walk_at "ev"
theorem kh (hn:0<=n/\n<=100) (h:Sh n sh) (hl:sh.length < 900) {k:NK} (hk:k ∈ aL sh):jY [.d (.int n),.d (.tup (sh.map ae)),.d (OB k)]=some (.d (.int (LV n sh k))):=by
 have ll:∀ a b,(inner sh a b).length < 1000:=fun a b=>by
  have:(inner sh a b).length<=sh.length:=by unfold inner aH;exact La (NS _ _) (NS _ _)
  omega
 rcases JS.mp hk with rfl | hk
 ·obtain ⟨free,_,ro⟩:=lJ hn h;have ln:a7 [.lst ((inner sh (-1) n).map ae)]=some (.int ((inner sh (-1) n).length:Int)):=by have:=uB (l:=(inner sh (-1) n).map ae);rw [Z2] at this;exact this
  have iy:Mn .non .non=some (.bl true):=rfl;show jY [.d (.int n),.d (.tup (sh.map ae)),.d .non]=some (.d (.int ((inner sh (-1) n).length:Int)));apply Ev.fn (ρ:=[some (.d (.int n)),some (.d (.tup (sh.map ae))),some (.d .non),none,none]) rfl;unfold jX;walk_at "ev"
  all_goals rfl
 ·obtain ⟨o,ho,rfl⟩:=Ke.mp hk;obtain ⟨free,_,ro⟩:=sE hn h ho;have ln:a7 [.lst ((inner sh o.1 o.2).map ae)]=some (.int ((inner sh o.1 o.2).length:Int)):=by have:=uB (l:=(inner sh o.1 o.2).map ae);rw [Z2] at this;exact this
  have iy:Mn (ae o) .non=some (.bl false):=rfl;show jY [.d (.int n),.d (.tup (sh.map ae)),.d (ae o)]=some (.d (.int (((inner sh o.1 o.2).length:Int)+1)));apply Ev.fn (ρ:=[some (.d (.int n)),some (.d (.tup (sh.map ae))),some (.d (ae o)),none,none]) rfl;unfold jX;walk_at "ev"
  all_goals rfl
theorem pf (hn:0<=n/\n<=100) (h:Sh n sh) (hl:sh.length < 900) {k:Option (Int × Int)} (hk:k ∈ KJ sh):jY [.d (.int n),.d (.tup (sh.map ae)),.d (KI k)]=some (.d (.int ((bc n sh k).length:Int))):=by
 cases k with
 | none=>exact kh hn h hl (k:=none) (by simp)
 | some o=>
  have ho:=fK hk o rfl;have:=kh hn h hl (k:=JY o) (Z8 _ (Ke.mpr ⟨o,ho,rfl⟩));have e:LV n sh (JY o)=((bc n sh (some o)).length:Int):=by show ((inner sh o.1 o.2).length:Int)+1=((inner sh o.1 o.2++[(o.2,o.1)]).length:Int);simp
  rw [<- e];exact this
theorem BQ (hn:0<=n/\n<=40) (hc:0<=c/\c<=13) (fu:Fu Ot 0 n sh) :
 (∃ k ∈ KJ sh,2 * c < ((bc n sh k).length:Int)/\oW [.d (.int n),.d (.tup (sh.map ae)),.d (.int c)]=some (.d (.tup [.str ("wide":Str),KI k]))) ∨
 ∃ ls:List Nat,(∀ k ∈ KJ sh,((bc n sh k).length:Int)<=2 * c)/\(∀ x ∈ ls,(x:Int) < 2 * c)/\(ls.length:Int)=n/\Fu (fe ls) 0 ls.length sh/\(∀ k ∈ KJ sh,(bc ls.length sh k).Pairwise fun p q=>J6 ls p.1 ≠ J6 ls q.1)/\oW [.d (.int n),.d (.tup (sh.map ae)),.d (.int c)]=some (.d (.tup [.str ("cord":Str),.str (JP ls)])):=by
 have h:=fu.sh;obtain ⟨_,rk⟩:=fu.rk;have hlen:=rk.len;have an:=pd (sh:=sh) (by omega);have ff:=uN (g:=af 3) (f:=db) (e:=KI) (ρ:=[some (.d (.int n)),some (.d (.tup (sh.map ae))),some (.d (.int c)),none]) (N:=fun k=>((bc n sh k).length:Int)<=2 * c) (Y:=fun s=>∃ k ∈ KJ sh,2 * c < ((bc n sh k).length:Int)/\s=.d (.tup [.str ("wide":Str),KI k])) (l:=KJ sh) (fun k hk=>by
  have br:=pf (n:=n) ⟨hn.1,by omega⟩ h (by omega) hk;refine ⟨[some (.d (.int n)),some (.d (.tup (sh.map ae))),some (.d (.int c)),some (.d (KI k))],rfl,?_⟩;by_cases z:2 * c < ((bc n sh k).length:Int)
  ·right;have gt:Mg (.int ((bc n sh k).length:Int)) (.int (2 * c))=some (.bl true):=by show some (D.bl (decide (2 * c < ((bc n sh k).length:Int))))=_;rw [decide_eq_true z]
   have im:cD (some (.tup [.str ("wide":Str),KI k]))=some (.tup [.str ("wide":Str),KI k]):=by cases k <;> rfl
   suffices st:∃ ρ2,db [some (.d (.int n)),some (.d (.tup (sh.map ae))),some (.d (.int c)),some (.d (KI k))]=some (.ret (.d (.tup [.str ("wide":Str),KI k])),ρ2) by
    obtain ⟨ρ2,st⟩:=st;exact ⟨_,ρ2,⟨k,hk,z,rfl⟩,st⟩
   generalize KI k=kd at *;generalize sh.map ae=Sm at *;generalize ((bc n sh k).length:Int)=wl at *;apply Exists.intro;unfold db;walk_at "ev"
  ·left;refine ⟨by omega,?_⟩;have gt:Mg (.int ((bc n sh k).length:Int)) (.int (2 * c))=some (.bl false):=by show some (D.bl (decide (2 * c < ((bc n sh k).length:Int))))=_;rw [Y2 z]
   generalize KI k=kd at *;generalize sh.map ae=Sm at *;generalize ((bc n sh k).length:Int)=wl at *;unfold db;walk_at "ev")
 rcases ff with ⟨f1,f2⟩ | ⟨s,ρ2,⟨k,k1,k2,rfl⟩,f2⟩
 ·right;obtain ⟨ls,l1,l2,l3,l4,co⟩:=BP hn hc fu f1;refine ⟨ls,f1,l1,l2,l3,l4,?_⟩;generalize (KJ sh).map KI=KM at *;generalize sh.map ae=Sm at *;apply Ev.fn (ρ:=[some (.d (.int n)),some (.d (.tup Sm)),some (.d (.int c)),none]) rfl;unfold j6;walk_at "ev"
  all_goals rfl
 ·left;refine ⟨k,k1,k2,?_⟩;generalize (KJ sh).map KI=KM at *;generalize sh.map ae=Sm at *;apply Ev.fn (ρ:=[some (.d (.int n)),some (.d (.tup Sm)),some (.d (.int c)),none]) rfl;unfold j6;walk_at "ev"
open L2
theorem Ev.Pd (h1:f ρ=some (x,ρ1)) (h2:res ρ1 x=some d) (h3:L9 d=some k) (h4:look ρ1 i=some (.dn kvs)) (h5:aE kvs k=some v):uA f i ρ=some (.val (.bl true),ρ1):=by unfold uA;simp only [h1,h2,h3,h4,h5,L5,Z1,Option.isSome_some]
local macro_rules | `(tactic| walk_at "evE")=>`(tactic| first | with_reducible apply Mir.Ev.Pk | with_reducible apply Mir.Ev.Px | with_reducible apply Mir.Ev.Pd | with_reducible apply Mir.Ev.vK | with_reducible apply Ev.MF)
local macro_rules | `(tactic| walk_at "evS")=>`(tactic| with_reducible apply Mir.Ev.NU)
theorem uS (hls:Ls ls) (hl:ls.length<=40) {sh:List (Int × Int)} (fu:Fu (fe ls) 0 ls.length sh):Bj [.d (.str (JP ls)),.d (.tup (sh.map ae))]=some (.d (.bl true)):=by
 have h:=fu.sh;obtain ⟨_,rk⟩:=fu.rk;have hs:=rk.len;have hin:=rk.LH;have hlen:=uH (ls:=ls) (by omega);have ft:=x8 (n:=ls.length) (l:=sh.map ae) (by simp; omega);have fb:lR ls.length (.tup (sh.map ae))=true:=by
  rw [eU,Fh,Z2,decide_eq_true (by omega)];have a1:(sh.map ae).all (bD ls.length)=true:=by rw [L0];intro d hd;obtain ⟨p,hp,rfl⟩:=Ke.mp hd;exact decide_eq_true (h.1 p hp)
  have a2:kD sh=true:=Nf.mpr (h.2.imp fun {a b} z=>Nx.mpr z);rw [a1,a2];rfl
 rw [fb] at ft;obtain ⟨x',y',lp⟩:=Ev.rS (md:=b6 sk 2 [0] []) (f:=Jn (JG 4 false) (Jn JC (ac 2) (ac 1)) (aB mU (ad (Jn JC (ac 2) (ac 0)) ah))) (e1:=fun p:Int × Int=>.int p.1) (e2:=fun p=>.int p.2) (h:=fun _=>.bl true) (r:=[some (.d (.str (JP ls)))]) (l:=sh) (fun p hp=>by
  obtain ⟨z1,z2,z3,z4⟩:=hin p hp;have ci:=NJ (ls:=ls) (by omega) (i:=p.1) (by omega);have cj:=NJ (ls:=ls) (by omega) (i:=p.2) (by omega);have fa:=hG (hJ hls (i:=p.1) (by omega));have e':sgn (97+J6 ls p.2)=sgn (97+fl (J6 ls p.1)):=by rw [of_decide_eq_true z4]
  rw [<- e'] at fa;have es:JG 4 false (.str (sgn (97+J6 ls p.2))) (.str (sgn (97+J6 ls p.2)))=some (.bl true):=by rw [A9]; simp
  exact ⟨.val (.bl true),by walk_at "ev",rfl⟩) (by omega) none none
 have al:=all_map (fun _:Int × Int=>true) sh;have at':(sh.all fun _=>true)=true:=by simp
 rw [at'] at al;have epm:(sh.map fun a=>D.tup [.int a.1,.int a.2])=sh.map ae:=rfl;rw [epm] at lp;generalize sh.map ae=Sm at *;generalize (sh.map fun _=>D.bl true)=Am at *;apply Ev.fn (ρ:=[some (.d (.str (JP ls))),some (.d (.tup Sm))]) rfl;unfold sn;walk_at "ev"
 all_goals rfl
theorem yh (hls:Ls ls) (hl:ls.length<=40) {sh:List (Int × Int)} (fu:Fu (fe ls) 0 ls.length sh) (h1:FN (fe ls) 0 ls.length=1):sv [.d (.str (JP ls)),.d (.tup (sh.map ae))]=some (.d (.bl true)):=by
 have a:=uS hls hl fu;have b:=qE hls hl;rw [h1] at b;have e:JG 4 false (.int 1) (.int 1)=some (.bl true):=rfl;generalize sh.map ae=Sm at *;generalize JP ls=T at *;apply Ev.fn (ρ:=[some (.d (.str T)),some (.d (.tup Sm))]) rfl;unfold nr;walk_at "ev"
 all_goals rfl
theorem qP (n:Int) (l:List Int):∀ x ∈ n::l,x<=bL n l:=by
 have mf:∀ (l:List Int) (n:Int),∀ x ∈ n::l,bp n l<=x:=by
  intro l
  induction l with
  | nil=>intro n x hx; show n<=x; simp at hx; omega
  | cons a l ih=>
   intro n x hx;show bp (if a < n then a else n) l<=x;have h0:=ih (if a < n then a else n) _ Li;rcases JS.mp hx with rfl | hx
   ·split at h0 <;> rename_i c
    ·rw [Y1 c]; omega
    ·rw [Y0 c]; omega
   ·rcases JS.mp hx with rfl | hx
    ·split at h0 <;> rename_i c
     ·rw [Y1 c]; omega
     ·rw [Y0 c]; omega
    ·exact ih _ x (Z8 _ hx)
 intro x hx;unfold bL;have:-x ∈ -n::l.map fun x=>-x:=by
  rcases JS.mp hx with rfl | hx
  ·simp
  ·exact Z8 _ (Ke.mpr ⟨x,hx,rfl⟩)
 have:=mf _ _ _ this;omega
theorem sM:∃ m:Int,(∃ k ∈ KJ sh,m=((bc n sh k).length:Int))/\(∀ k ∈ KJ sh,((bc n sh k).length:Int)<=m)/\uz ((eE n sh (aL sh)).map (·.2))=some m:=by
 have e:(eE n sh (aL sh)).map (·.2)=((aL sh).map (LV n sh)).map D.int:=by unfold eE;rw [KP,KP];rfl
 rw [e];have m:∀ x ∈ (aL sh).map (LV n sh),∃ q ∈ KJ sh,x=((bc n sh q).length:Int):=fun x hx=>by
  obtain ⟨k,hk,rfl⟩:=Ke.mp hx;exact BO hk
 have mr:∀ q ∈ KJ sh,((bc n sh q).length:Int) ∈ (aL sh).map (LV n sh):=fun q hq=>by
  cases q with
  | none=>exact Ke.mpr ⟨none,by simp,rfl⟩
  | some o=>refine Ke.mpr ⟨JY o,Z8 _ (Ke.mpr ⟨o,fK hq o rfl,rfl⟩),?_⟩;show ((inner sh o.1 o.2).length:Int)+1=((inner sh o.1 o.2++[(o.2,o.1)]).length:Int);simp
 rw [Z6] at m mr ⊢;rw [Z6];refine ⟨_,m _ (o9 (LV n sh none) ((sh.map JY).map (LV n sh))),fun k hk=>qP _ _ _ (mr k hk),?_⟩;show (cP _).map _=_;rw [BN,YN]
def nkK:Option (Int × Int)->NK
 | none=>none
 | some o=>JY o
theorem Ih (k:Option (Int × Int)):L9 (KI k)=some (nkK k):=by cases k <;> rfl
theorem Ii (hk:k ∈ KJ sh):aE (eE n sh (aL sh)) (nkK k)=some (.int ((bc n sh k).length:Int)):=by
 cases k with
 | none=>exact sF (n:=n) (sh:=sh) (ks:=aL sh) (k:=none) (by simp)
 | some o=>
  have:=sF (n:=n) (sh:=sh) (ks:=aL sh) (k:=JY o) (Z8 _ (Ke.mpr ⟨o,fK hk o rfl,rfl⟩));have e:LV n sh (JY o)=((bc n sh (some o)).length:Int):=by show ((inner sh o.1 o.2).length:Int)+1=((inner sh o.1 o.2++[(o.2,o.1)]).length:Int);simp
  rw [<- e];exact this
theorem qQ (hc:0<=c/\c<=13) {ns:S} {T:S} {ls:List Nat} (h1:∀ x ∈ ls,(x:Int) < 2 * c) {a b:Option S} :
 bw (af 4) eg (ls.map fun x=>D.str (sgn (97+x))) [a,some (.d (.int c)),none,b,none]=some (.nx,[a,some (.d (.int c)),none,b,none]):=by
 have lc:=sL hc;refine (Ev.jP (c:=fun _=>none) (fun x hx=>?_)).2 (lN _);refine ⟨_,rfl,?_⟩;have hi:O8 4 true (.str (sgn (97+x))) (.str (JP (List.range (2 * c).toNat)))=some (.bl false):=by
  show (if true=true then some (D.bl (!decide (97+x ∈ (JP (List.range (2 * c).toNat)).cps.toList))) else none)=_;have m:97+x ∈ (JP (List.range (2 * c).toNat)).cps.toList:=by show 97+x ∈ ((List.range (2 * c).toNat).map (97+·)).toArray.toList;have:=h1 x hx;simp;omega
  rw [decide_eq_true m];rfl
 generalize JP (List.range (2 * c).toNat)=TX at *;show eg _=_;unfold eg;walk_at "ev"
theorem gC (hc:0<=c/\c<=13) (hl:sh.length<=20) (fu:Fu Ot 0 (2 * (sh.length:Int)) sh):eA [.d (.tup (sh.map ae)),.d (.int c)]=some (.d (.bl true)):=by
 have h:=fu.sh;have bo:=iB h (by omega);obtain ⟨m,⟨k0,k1,k2⟩,m2,mx⟩:=sM (n:=2 * (sh.length:Int)) (sh:=sh);have lt:a7 [.tup (sh.map ae)]=some (.int (sh.length:Int)):=by rw [EK,Z2]
 have l2:∀ x y:D,a7 [.tup [x,y]]=some (.int 2):=fun x y=>rfl;have i0:∀ x y:D,JC (.tup [x,y]) (.int 0)=some x:=fun x y=>rfl;rcases BQ (n:=2 * (sh.length:Int)) (c:=c) ⟨by omega,by omega⟩ hc fu with ⟨k,hk,w1,w2⟩ | ⟨ls,f1,f2,f3,f4,f5,f6⟩
 ·have gt:Mg (.int m) (.int (2 * c))=some (.bl true):=by show some (D.bl (decide (2 * c < m)))=_;rw [decide_eq_true (by have:=m2 k hk; omega)]
  have gt2:Mg (.int ((bc (2 * (sh.length:Int)) sh k).length:Int)) (.int (2 * c))=some (.bl true):=by show some (D.bl (decide _))=_;rw [decide_eq_true w1]
  have nk:=Ih k;have dk:=Ii (n:=2 * (sh.length:Int)) hk;have ew:JG 4 false (.str ("wide":Str)) (.str ("wide":Str))=some (.bl true):=by rw [A9]; simp
  have it:(!kw (fT (.tup [.str ("wide":Str),KI k])) "tuple")=false:=rfl;have ll:=l2 (.str ("wide":Str)) (KI k);generalize ((bc (2 * (sh.length:Int)) sh k).length:Int)=wl at *;generalize eE (2 * (sh.length:Int)) sh (aL sh)=due at *;generalize KI k=kd at *;generalize sh.map ae=Sm at *;apply Ev.fn (ρ:=[some (.d (.tup Sm)),some (.d (.int c)),none,none,none]) rfl;unfold j7;walk_at "ev"
  all_goals rfl
 ·have hls:Ls ls:=fun x hx=>by have:=f2 x hx; omega
  have gt:Mg (.int m) (.int (2 * c))=some (.bl false):=by show some (D.bl (decide (2 * c < m)))=_;rw [Y2 (by have:=f1 k0 k1; omega)]
  have on:=BM f4 f5;have al:=yh hls (by omega) f4 on;obtain ⟨_,rk⟩:=f4.rk;have fo:=BA hls (by omega) rk;have wy:=Bx hls (by omega);rw [on] at wy;have ec:JG 4 true (.str ("cord":Str)) (.str ("cord":Str))=some (.bl false):=by rw [xn]; simp
  have it:(!kw (fT (.tup [.str ("cord":Str),.str (JP ls)])) "tuple")=false:=rfl;have is:(!kw (fT (.str (JP ls))) "str")=false:=rfl;have ll:=l2 (.str ("cord":Str)) (.str (JP ls));have hlen:=uH (ls:=ls) (by omega);rw [f3] at hlen;have en:JG 4 true (.int (2 * (sh.length:Int))) (.int (2 * (sh.length:Int)))=some (.bl false):=by rw [A8]; simp
  have e1:JG 4 false (.int 1) (.int 1)=some (.bl true):=rfl;have iy:Mn (.bl true) (.bl true)=some (.bl true):=rfl;have lo:=qQ hc (ns:=.d .non) (T:=.d .non) f2 (a:=some (.d (.tup (sh.map ae)))) (b:=some (.d (.tup [.str ("cord":Str),.str (JP ls)])));rw [<- yd] at lo;generalize eE (2 * (sh.length:Int)) sh (aL sh)=due at *;generalize JP ls=T at *;generalize sh.map ae=Sm at *;apply Ev.fn (ρ:=[some (.d (.tup Sm)),some (.d (.int c)),none,none,none]) rfl;unfold j7;walk_at "ev"
  all_goals rfl
theorem BR (h0:0<=k) (h1:k < 4):∃ n:Int,JC (.lst [.int 0,.int 0,.int (-1),.int 1]) (.int k)=some (.int n):=by
 have hc:k=0∨k=1∨k=2∨k=3:=by omega
 rcases hc with rfl | rfl | rfl | rfl
 ·exact ⟨0,rfl⟩
 ·exact ⟨0,rfl⟩
 ·exact ⟨-1,rfl⟩
 ·exact ⟨1,rfl⟩
theorem uT (s m:Int):∃ c s':Int,0<=c/\c<=13/\se [M6 s,.d (.int m)]=some (.d (.int c),M6 s'):=by
 obtain ⟨w1,s1,a0,a1,t1⟩:=iX s (n:=3) (by decide) (by decide);by_cases hz:w1=0
 ·have e6:JG 4 false (.int w1) (.int 0)=some (.bl true):=by rw [A7,decide_eq_true hz]
  obtain ⟨w2,s2,b0,b1,t2⟩:=iX s1 (n:=14) (by decide) (by decide);refine ⟨w2,s2,b0,by omega,?_⟩;apply Ev.O7 (ρ:=[some (M6 s),some (.d (.int m))]) rfl;unfold jW;walk_at "ev"
  all_goals rfl
 ·have e6:JG 4 false (.int w1) (.int 0)=some (.bl false):=by rw [A7,Y2 hz]
  obtain ⟨w2,s2,b0,b1,t2⟩:=iX s1 (n:=4) (by decide) (by decide);obtain ⟨d,dx⟩:=BR b0 b1;have ng:dJ (.int 1)=some (.int (-1)):=rfl;have q1:=xK (i:=m+1) (j:=2) (by decide) (by decide);have q2:=CD 13 ((m+1) / 2+d);have q3:=CC 0 (min 13 ((m+1) / 2+d));refine ⟨max 0 (min 13 ((m+1) / 2+d)),s2,by omega,by omega,?_⟩;generalize max 0 (min 13 ((m+1) / 2+d))=R at *;apply Ev.O7 (ρ:=[some (M6 s),some (.d (.int m))]) rfl;unfold jW;walk_at "ev"
  all_goals rfl
theorem Fk (ns:List Int) (hns:ns.length<=63) {k:Int} (h0:0<=k) (h1:k < 4):eB [some (.scr ns),some (.d (.int k)),none,none,none]=some (.nx,[some (.scr ns),none,none,none,none]):=by
 obtain ⟨s,st⟩:=cS ns hns h0 (by omega);obtain ⟨h,s1,b0,b1,t1⟩:=iX s (n:=21) (by decide) (by decide);obtain ⟨sh,s2,fu,lf⟩:=qF s1 (h:=h) ⟨b0,by omega⟩;have hsh:=fu.sh;obtain ⟨_,rk⟩:=fu.rk;have hlen:=rk.len;have bo:=iB hsh (by omega);obtain ⟨m,_,_,mx⟩:=sM (n:=2 * h) (sh:=sh);obtain ⟨c,s3,c0,c1,so⟩:=uT s2 m;have eh:h=(sh.length:Int):=by omega
 subst eh;have rt:=gC (c:=c) ⟨c0,c1⟩ (by omega) fu;generalize eE (2 * (sh.length:Int)) sh (aL sh)=due at *;generalize sh.map ae=Sm at *;unfold eB;walk_at "ev"
theorem yi (ns:List Int) (hns:ns.length<=63):Cz [.scr ns]=some (.d (.bl true)):=by
 have mn:=CD 4 (ns.length:Int);have mx:=CC 3 (min 4 (ns.length:Int));have lo:bw (af 1) eB ((ups 0 (max 3 (min 4 (ns.length:Int))).toNat).map D.int) [some (.scr ns),none,none,none,none]=some (.nx,[some (.scr ns),none,none,none,none]):=by refine (Ev.jP (c:=fun _=>none) (fun a ha=>?_)).2 (lN _);obtain ⟨a0,a1⟩:=mR ha;exact ⟨_,rfl,Fk ns hns (by omega) (by omega)⟩
 have r0:eA [.d (.tup []),.d (.int 0)]=some (.d (.bl true)):=gC (sh:=[]) (by decide) (by decide) (.nil 0);have fu1:Fu Ot 0 (2 * (([(0,1)]:List (Int × Int)).length:Int)) [(0,1)]:=.hoop (j:=1) (p:=[]) (q:=[]) (by decide) (by decide) rfl (.nil 1) (.nil 2);have r1:eA [.d (.tup [.tup [.int 0,.int 1]]),.d (.int 0)]=some (.d (.bl true)):=gC (sh:=[(0,1)]) (by decide) (by decide) fu1;have r2:eA [.d (.tup [.tup [.int 0,.int 1]]),.d (.int 1)]=some (.d (.bl true)):=gC (sh:=[(0,1)]) (by decide) (by decide) fu1;apply Ev.fn (ρ:=[some (.scr ns),none,none,none,none]) rfl;unfold nu;walk_at "ev"
end Mir
set_option maxHeartbeats 8000000
open PySem.Spec PyProof.Rows L2
namespace My
open L2
def top (i:Nat):Stmt:=PySem.Challenge.pw_hoopcord_k62_whole_cords_made.main.body.getD i (.Pass ⟨0,0,0,0⟩)
abbrev Fm:Stmt:=top 1
abbrev Fn:Stmt:=top 2
abbrev Fo:Stmt:=top 5
abbrev Fp:Stmt:=top 6
abbrev Fq:Stmt:=top 7
abbrev Fr:Stmt:=top 10
abbrev Fs:Stmt:=top 11
abbrev Ft:Stmt:=top 13
abbrev Fv:Stmt:=top 14
abbrev Fw:Stmt:=top 15
abbrev yj:Stmt:=top 16
abbrev yk:Stmt:=top 17
abbrev ym:Stmt:=top 18
abbrev yn:Stmt:=top 20
abbrev yo:Stmt:=top 22
abbrev yp:Stmt:=top 23
abbrev yq:Stmt:=top 24
abbrev yr:Stmt:=top 25
abbrev yt:Stmt:=top 26
abbrev yu:Stmt:=top 28
abbrev yv:Stmt:=top 29
abbrev yw:Stmt:=top 30
abbrev yz:Stmt:=top 31
abbrev yA:Stmt:=top 32
abbrev yB:Stmt:=top 33
abbrev yC:Stmt:=top 34
abbrev yD:Stmt:=top 35
abbrev yE:Stmt:=top 36
abbrev yF:Stmt:=top 37
abbrev yG:Stmt:=top 38
abbrev iD:Stmt:=top 39
local macro_rules | `(tactic| walk_at "h ip")=>`(tactic| first | exact C5 | exact ip_sub)
local macro_rules | `(tactic| walk_at "h pv")=>Mir.Og 24 "E pv @"
local macro_rules | `(tactic| walk_at "h pgn")=>Mir.Og 24 "E iO i= @) ! rfl <h loc>"
local macro_rules | `(tactic| walk_at "h pgt")=>Mir.Og 7 "R rn n= @) ! rfl ?p1 rfl"
local macro_rules | `(tactic| walk_at "h sc1")=>Mir.Og 24 "R ps_setComp1 i= @) rfl {rfl rfl rfl rfl rfl} ?p1 rfl (b9 rfl) ?p2 ?p3 ! rfl rfl; C p2 I; C p3 I"
local macro_rules | `(tactic| walk_at "h sct")=>Mir.Og 24 "R ps_setCompT2 i= @) rfl {rfl rfl rfl rfl rfl} ?p1 ?p0 ?p2 ?p3 ! rfl rfl; C p0 I; C p2 I; C p3 I"
local macro_rules | `(tactic| walk_at "h par")=>Mir.Og 144 "R C3 i= &) j= ^) rfl ! rfl rfl % rfl rfl ?p1 rfl"
local macro_rules | `(tactic| walk_at "h aug")=>Mir.Og 24 "R C4 i= @) ! rfl <h loc> ?p1 <h ip>"
local macro_rules | `(tactic| walk_at "h add")=>`(tactic| exact zE (by assumption))
local macro_rules | `(tactic| walk_at "h mul")=>`(tactic| exact zW)
local macro_rules | `(tactic| walk_at "h lt")=>`(tactic| exact Eu (n:=4) (by assumption) (by walk_at "h un4"))
local macro_rules | `(tactic| walk_at "h ix")=>`(tactic| exact DM (by assumption) (My.un4 (n:=1) (by assumption)))
local macro_rules | `(tactic| walk_at "h set")=>`(tactic| exact zw (My.un4 (n:=1) (by assumption)))
local macro_rules | `(tactic| walk_at "h room")=>`(tactic| first | exact JU.mono (by assumption) (by decide) | exact JU.mono (by assumption) (by omega))
local macro_rules | `(tactic| walk_at "h un4")=>`(tactic| exact My.un4 (by assumption))
local macro_rules | `(tactic| walk_at "h pa")=>`(tactic| first
 | ((with_reducible show PA _ [] _); exact De)
 | (refine' yQ ?p1 ?p2))
local macro_rules | `(tactic| walk_at "h opB")=>Mir.tx ["G JK _ (binaryOp Operator.Add) _; W h add",
 "G JK _ (binaryOp Operator.Mult) _; W h mul",
 "q zh",
 "q zg",
 "q op_divA",
 "q op_powA"]
local macro_rules | `(tactic| walk_at "h opC")=>Mir.tx ["G JK _ (compareOp CmpOp.Eq) _; E DE n= 4) ! <h un4>",
 "G JK _ (compareOp CmpOp.NotEq) _; E DF n= 3) ! <h un4>",
 "G JK _ (compareOp CmpOp.In) _; W h opIn",
 "G JK _ (compareOp CmpOp.NotIn) _; W h opNotIn",
 "G JK _ (compareOp CmpOp.Lt) _; W h lt",
 "q vE",
 "q Dy",
 "q Dz",
 "q op_geA",
 "q rj",
 "q nW"]
local macro_rules | `(tactic| walk_at "h opIn")=>`(tactic| exact Mir.op_inY (n:=4) (by assumption) (My.un5 (by assumption)))
local macro_rules | `(tactic| walk_at "h opNotIn")=>`(tactic| walk_at "h opNI")
local macro_rules | `(tactic| walk_at "h mark")=>`(tactic| first | exact Db _ | (with_unfolding_all rfl))
local macro_rules | `(tactic| walk_at "h bcall")=>Mir.tx ["G PE _ (Expr.Call (Expr.Name (Str.ofString 'len') _) [(Expr.Call (Expr.Name (Str.ofString 'set') _) _ _ _)] _ _) _; R Mir.pe_lenSet ! rfl rfl ! rfl ! ?p1",
 "G PE _ (Expr.Call (Expr.Name (Str.ofString 'len') _) _ _ _) _; R bd (tI !) rfl ! PySem.boot_len ?p1",
 "G PE _ (Expr.Call (Expr.Name (Str.ofString 'range') _) [_] _ _) _; R uh rfl ! ?p1",
 "G PE _ (Expr.Call (Expr.Name (Str.ofString 'range') _) [_ _] _ _) _; R pe_range2 rfl ! ?p1",
 "G PE _ (Expr.Call (Expr.Name (Str.ofString 'sorted') _) _ _ _) _; R bd (Srt.qj !) rfl ! PyProof.Rows.boot_sorted ?p1",
 "G PE _ (Expr.Call (Expr.Name (Str.ofString 'abs') _) _ _ _) _; R bd call_absA rfl ! PyProof.Rows.boot_abs ?p1",
 "G PE _ (Expr.Call (Expr.Name (Str.ofString 'sum') _) _ _ _) _; R bd (tJ ! rfl) rfl ! PyProof.Rows.boot_sum ?p1",
 "G PE _ (Expr.Call (Expr.Name (Str.ofString 'isinstance') _) _ _ _) _; R bd (tK !) rfl ! PyProof.Rows.boot_isinstance ?p1",
 "G PE _ (Expr.Call (Expr.Name (Str.ofString 'list') _) _ _ _) _; R gF <h list> rfl ! PyProof.Rows.boot_list ?p1",
 "G PE _ (Expr.Call (Expr.Name (Str.ofString 'tuple') _) _ _ _) _; R gF <h tuple> rfl ! PyProof.Rows.boot_tuple ?p1",
 "G PE _ (Expr.Call (Expr.Name (Str.ofString 'all') _) _ _ _) _; R bd (tO ! rfl) rfl ! PyProof.Rows.boot_all ?p1",
 "G PE _ (Expr.Call (Expr.Name (Str.ofString 'int') _) _ _ _) _; R gF tH rfl ! PyProof.Rows.boot_int ?p1",
 "G PE _ (Expr.Call (Expr.Name (Str.ofString 'divmod') _) [_ _] _ _) _; R bd Mir.call_divmodX rfl ! PyProof.Rows.boot_divmod ?p1",
 "G PE _ (Expr.Call (Expr.Name (Str.ofString 'min') _) [_ _] _ _) _; R bd (qd rfl) rfl ! PyProof.Rows.boot_min ?p1",
 "G PE _ (Expr.Call (Expr.Name (Str.ofString 'max') _) [_ _] _ _) _; R bd (qe rfl) rfl ! PyProof.Rows.boot_max ?p1"]
local macro_rules | `(tactic| walk_at "h list")=>`(tactic| exact call_listX (by assumption) rfl)
local macro_rules | `(tactic| walk_at "h tuple")=>`(tactic| exact t7 (by assumption) rfl)
local macro_rules | `(tactic| walk_at "h bty")=>Mir.tx ["G PE _ (Expr.Name (Str.ofString 'int') _) _; E fL v= (.ty 'int')) rfl ! PyProof.Rows.boot_int rfl",
 "G PE _ (Expr.Name (Str.ofString 'bool') _) _; E fL v= (.ty 'bool')) rfl ! PyProof.Rows.boot_bool rfl",
 "G PE _ (Expr.Name (Str.ofString 'str') _) _; E fL v= (.ty 'str')) rfl ! PyProof.Rows.boot_str rfl",
 "G PE _ (Expr.Name (Str.ofString 'list') _) _; E fL v= (.ty 'list')) rfl ! PyProof.Rows.boot_list rfl",
 "G PE _ (Expr.Name (Str.ofString 'tuple') _) _; E fL v= (.ty 'tuple')) rfl ! PyProof.Rows.boot_tuple rfl"]
local macro_rules | `(tactic| walk_at "h comp")=>Mir.tx ["G PE _ (Expr.ListComp _ [{(Expr.Tuple _ _ _) _ _ _}] _ _) _; R ua rfl {rfl rfl rfl rfl rfl} ?p1 ?p0 ?p2 ?p3; C p0 I; C p2 I; C p3 I",
 "G PE _ (Expr.ListComp _ [_] _ _) _; R vF rfl {rfl rfl rfl rfl rfl} ?p1 rfl (b9 rfl) ?p2 ?p3; C p2 I; C p3 I",
 "G PE _ (Expr.ListComp _ [_ _] _ _) _; R pe_comp2 rfl {rfl rfl rfl rfl rfl} ?p1 rfl rfl (b9 rfl) ?p2 ?p3 ?p4 ?p5; C p2 I; C p3 I; C p4 I; C p5 I"]
local macro_rules | `(tactic| walk_at "h pif")=>`(tactic| first | ((with_reducible show Nr _ [] _); exact zb) | (refine' zc ?p1))
local macro_rules | `(tactic| walk_at "h pe")=>Mir.tx ["G PE _ (Expr.Constant _ _ _) _; q CN",
 "G PE _ (Expr.Constant _ _ _) _; q CP",
 "G PE _ (Expr.Constant _ _ _) _; q FZ",
 "G PE _ (Expr.Constant _ _ _) _; q CO",
 "G PE _ (Expr.Name _ _) _; W h pv",
 "G PE _ (Expr.Name _ _) _; W h bty",
 "G PE _ (Expr.Name _ _) _; W h glob",
 "G PE _ (Expr.Call (Expr.Name _ _) _ _ _) _; W h bcall",
 "G PE _ (Expr.Call (Expr.Name _ _) _ _ _) _; R vB ! <h room> rfl ?p1",
 "G PE _ (Expr.Call (Expr.Attribute _ (Str.ofString 'join') _) _ _ _) _; R qg ! PySem.F.plainAttrs_str PySem.F.slot_str_join PySem.F.type_str_join (zo !) ?p1 ?p2",
 "G PE _ (Expr.Call (Expr.Attribute _ (Str.ofString 'pop') _) [] _ _) _; R rM ! PySem.F.plainAttrs_list PySem.F.slot_list_pop PySem.F.type_list_pop Do ?p1",
 "G PE _ (Expr.BinOp _ _ _ _) _; R BY <h opB> ?p1 ?p2",
 "G PE _ (Expr.Subscript _ _ _) _; W h slice",
 "G PE _ (Expr.Subscript _ _ _) _; R Gj <h ix> ?p1 ?p2 \\",
 "G PE _ (Expr.Tuple _ _ _) _; R Df ?p1",
 "G PE _ (Expr.Dict [] [] _) _; E vR",
 "G PE _ (Expr.Dict [(some _)] [_] _) _; R zz (My.un4 n= 1) !) ?p1 ?p2",
 "G PE _ (Expr.List _ _) _; R Dg ?p1",
 "G PE _ (Expr.Compare _ [_] _ _) _; R qU <h opC> ?p1 ?p2 <h mark>",
 "G PE _ (Expr.Compare _ [_ _] _ _) _; R u5 <h opC> <h opC> ?p1 ?p2 ?p3",
 "G PE _ (Expr.UnaryOp UnaryOp.USub _ _) _; R F8 pF ?p1",
 "G PE _ (Expr.UnaryOp UnaryOp.Not _ _) _; R CW ?p1",
 "G PE _ (Expr.ListComp _ _ _ _) _; W h comp",
 "G PE _ (Expr.BoolOp BoolOp.And (List.cons _ (List.cons _ _)) _) _; R CV ?p1 ?p2",
 "G PE _ (Expr.BoolOp BoolOp.Or (List.cons _ (List.cons _ _)) _) _; R F4 ?p1 ?p2",
 "G PE _ (Expr.BoolOp _ [_] _) _; R CU ?p1",
 "G PE _ (Expr.IfExp _ _ _ _) _; R uV ?p1 ?p2 ?p3"]
local macro_rules | `(tactic| walk_at "h pt")=>Mir.tx ["G PT _ (Expr.UnaryOp UnaryOp.Not _ _) _; R CT ?p1",
 "G PT _ (Expr.BoolOp _ _ _) _; R PW.pt ?p1",
 "G PT _ (Expr.Compare _ [_] _ _) _; R yO <h opC> ?p1 ?p2 <h mark>",
 "G PT _ (Expr.Compare _ [_ _] _ _) _; R pt_chain <h opC> <h opC> ?p1 ?p2 ?p3",
 "G PT _ (Expr.Compare _ [_ _ _] _ _) _; R tL <h opC> <h opC> <h opC> ?p1 ?p2 ?p3 ?p4",
 "R Eg ! ?p1"]
local macro_rules | `(tactic| walk_at "h pw")=>Mir.tx ["G PW _ (Expr.BoolOp BoolOp.And (List.cons _ (List.cons _ _)) _) _; R CS ?p1 ?p2",
 "G PW _ (Expr.BoolOp BoolOp.Or (List.cons _ (List.cons _ _)) _) _; R F2 ?p1 ?p2",
 "G PW _ (Expr.BoolOp BoolOp.And [_] _) _; R yJ ?p1",
 "G PW _ (Expr.BoolOp BoolOp.Or [_] _) _; R CQ ?p1"]
local macro_rules | `(tactic| walk_at "h pi")=>Mir.tx ["G PI _ _ (Expr.Call (Expr.Name (Str.ofString 'range') _) [_] _ _) _; R sS rfl ! ?p1",
 "G PI _ _ (Expr.Call (Expr.Name (Str.ofString 'range') _) [_ _] _ _) _; R sT rfl ! ?p1",
 "G PI _ _ (Expr.Call (Expr.Name (Str.ofString 'range') _) [_ _ _] _ _) _; R Mir.uo rfl ! ?p1",
 "G PI _ _ (Expr.Call (Expr.Name (Str.ofString 'reversed') _) [_] _ _) _; R Er rfl ! ?p1",
 "G PI _ _ (Expr.Call (Expr.Name (Str.ofString 'enumerate') _) [_] _ _) _; R pi_enu rfl ! ?p1",
 "G PI _ _ (Expr.Call (Expr.Name (Str.ofString 'zip') _) [_ _] _ _) _; R DG ! rfl ! ?p1",
 "R zm ! ?p1"]
local macro_rules | `(tactic| walk_at "h loc")=>`(tactic| first | exact Or.inl rfl | exact Or.inr rfl)
local macro_rules | `(tactic| walk_at "h pg")=>Mir.tx ["G PG _ (Expr.Tuple _ _ _) _; W h pgt",
 "G PG _ (Expr.Subscript _ _ _) _; R C1 ?p1 ?p2 <h set>",
 "W h pgn"]
local macro_rules | `(tactic| walk_at "h pgs")=>`(tactic| first | ((with_reducible show Nc _ [] _); exact qT) | (refine' nJ ?p1 ?p2))
local macro_rules | `(tactic| walk_at "h ps")=>Mir.tx ["G PS _ (Stmt.Return (some _) _) _; R CY ?p1",
 "G PS _ (Stmt.Raise _ _ _) _; E ps_never",
 "G PS _ (Stmt.Return none _) _; E ps_retN",
 "G PS _ (Stmt.If _ _ _ _) _; R F5 ?p1 ?p2 ?p3",
 "G PS _ (Stmt.For _ _ _ _ _) _; R C7 PassesOwn.never rfl ?p1 ?p2 ?p3",
 "G PS _ (Stmt.Assign [(Expr.Name _ _)] (Expr.ListComp _ [{(Expr.Name _ _) _ _ _}] _ _) _) _; W h sc1",
 "G PS _ (Stmt.Assign [(Expr.Name _ _)] (Expr.ListComp _ [{(Expr.Tuple _ _ _) _ _ _}] _ _) _) _; W h sct",
 "G PS _ (Stmt.Assign [(Expr.Tuple [_ _] _ _)] (Expr.Tuple [_ _] _ _) _) _; W h par",
 "G PS _ (Stmt.AugAssign (Expr.Name _ _) _ _ _) _; W h aug",
 "G PS _ (Stmt.While _ _ _ _) _; R uZ PassesOwn.never ?p1 ?p2",
 "G PS _ (Stmt.Pass _) _; E ps_pass",
 "G PS _ (Stmt.Break _) _; E ps_break",
 "G PS _ (Stmt.Continue _) _; E ps_continue",
 "G PS _ (Stmt.Assign [_] _ _) _; R C2 ?p1 ?p2",
 "G PS _ (Stmt.Expr _ _) _; W h stex"]
local macro_rules | `(tactic| walk_at "h stex")=>Mir.tx ["G PS _ (Stmt.Expr (Expr.Call (Expr.Attribute _ (Str.ofString 'extend') _) _ _ _) _) _; R iN (qg ! PySem.F.plainAttrs_list PySem.F.slot_list_extend PySem.F.type_list_extend mt_extend ?p1 ?p2)",
 "G PS _ (Stmt.Expr (Expr.Call (Expr.Attribute _ (Str.ofString 'append') _) _ _ _) _) _; R iN (qg ! PySem.F.plainAttrs_list PySem.F.slot_list_append PySem.F.type_list_append s9 ?p1 ?p2)",
 "G PS _ (Stmt.Expr (Expr.Call (Expr.Attribute _ (Str.ofString 'reverse') _) _ _ _) _) _; R iN (rM ! PySem.F.plainAttrs_list PySem.F.slot_list_reverse PySem.F.type_list_reverse mt_reverse ?p1)",
 "R iN ?p1"]
local macro_rules | `(tactic| walk_at "h pss")=>Mir.tx ["G K2 _ [] _; E yK",
 "G K2 _ [_] _; R yL ?p1",
 "G K2 _ (List.cons _ _) _; R uW ?p1 ?p2"]
local macro_rules | `(tactic| walk_at "h opNI")=>`(tactic| exact Mir.uk (n:=4) (by assumption) (My.un5 (by assumption)))
local macro_rules | `(tactic| walk_at "h glob")=>`(tactic| first | (refine' iM (v:=.int _) rfl ?gm ?gr; (case gm=>assumption); (case gr=>exact ⟨_,rfl⟩)) | (refine' iM (v:=.str _) rfl ?gm ?gr; (case gm=>assumption); (case gr=>exact ⟨_,rfl⟩)))
local macro_rules | `(tactic| walk_at "h po")=>`(tactic| first | exact yU | (refine' yV ?p1))
local macro_rules | `(tactic| walk_at "h slice")=>Mir.tx ["G PE _ (Expr.Subscript _ (Expr.Slice _ _ none _) _) _; R nN (wo !) ?p1 ?p2 ?p3"]
local macro_rules | `(tactic| walk_at "h pgc")=>`(tactic| (refine' rn (by assumption) rfl ?p1))
local macro_rules | `(tactic| walk_at "h pgcs")=>`(tactic| first | ((with_reducible show Nc _ [] _); exact qT) | (refine' nJ ?p1 ?p2))
local macro_rules | `(tactic| walk_at "h pgc1")=>Mir.tx ["E iO i= 0) (b9 rfl) rfl <h loc>",
 "E iO i= 1) (b9 rfl) rfl <h loc>"]
local macro_rules | `(tactic| walk_at "h1")=>Mir.tx ["G PE _ _ _; W h pe",
 "G PT _ _ _; W h pt",
 "G PW _ _ _; W h pw",
 "G PA _ _ _; W h pa",
 "G K2 _ _ _; W h pss",
 "G PS _ _ _; W h ps",
 "G PI _ _ _ _; W h pi",
 "G PG _ _ _; W h pg",
 "G PG _ _ _; W h pgc",
 "G PG _ _ _; W h pgc1",
 "G Nc _ _ _; W h pgs",
 "G Nc _ _ _; W h pgcs",
 "G PO _ _ _; W h po",
 "G Nr _ _ _; W h pif"]
local macro_rules | `(tactic| walk_at "h all")=>`(tactic| repeat' (walk_at "h1"))
local macro_rules | `(tactic| walk_at "m ia")=>`(tactic| (walk_at "m i"; walk_at "m all"))
local macro_rules | `(tactic| walk_at "m op")=>do
   let a0 <- Mir.M7 `Mir "pC pD op_mulXA pE op_div op_pow Ay op_ltXA vZ GY lY iP Al At AA AB Ew AC"
   `(tactic| first | (first $[| $a0]*))
local macro_rules | `(tactic| walk_at "m cb")=>do
   let a0 <- Mir.M7 `Mir "DX cb_lenSet cb_abs DY DZ cb_listX zZ D0 cb_divmod zX zY"
   let a1 <- Mir.M7 `Srt "Nd"
   `(tactic| first | (first $[| $a0]*) | (first $[| $a1]*))
local macro_rules | `(tactic| walk_at "m ow")=>`(tactic| first | exact Or.inl rfl | exact Or.inr rfl)
local macro_rules | `(tactic| walk_at "m a")=>Mir.tx ["q Mir.DP",
 "Q Mir.zA ?p1 ?p2"]
local macro_rules | `(tactic| walk_at "m o")=>`(tactic| first
 | with_reducible exact Mir.G8
 | ((with_reducible refine' Mir.Aa ?p1)))
local macro_rules | `(tactic| walk_at "m e")=>do
   let a <- Mir.M7 `Mir "DN le_int le_str GQ DO An uf le_dIn DQ DR le_sl Ab wB le_callF le_callX zB DW zC GW"
   let b <- Mir.tx ["Q Mir.GR ?o ?p1 ?p2; C o m op",
 "Q Mir.Ao ?o ?p1; C o rfl",
 "Q Mir.Ad ?o; C o rfl",
 "Q Mir.GS Mir.pF ?p1",
 "Q Mir.D1 ?o ?p1; C o %",
 "Q Mir.GT ?o ?p1; C o m cb",
 "Q Mir.wc ?o ?p1; C o m ow",
 "Q Mir.le_extend ?o ?p1; C o m ow",
 "Q Mir.tY ?o ?p1; C o m ow",
 "Q Mir.D5 ?o; C o m ow",
 "Q Mir.le_reverse ?o; C o m ow",
 "Q Mir.vX ?o ?o2 ?p1 ?p2 ?p3; C o m op; C o2 m op",
 "R Mir.wE ?q0 ?q1 ?q2 ?q3 ?c1 ?c2 ?c3 ?c4; C q0 rfl; C q1 %; C q2 %; C c1 m ia; C q3 m lj"]
   `(tactic| first | (first $[| $a]*) | $b:tactic)
local macro_rules | `(tactic| walk_at "m lj")=>`(tactic| first | (intro j h; cases h; done) | (intro j h; cases h; decide))
local macro_rules | `(tactic| walk_at "m t")=>do
   let a <- Mir.M7 `Mir "DT DU GV DV Ac Ek GU"
   let b <- Mir.tx ["Q Mir.kQ ?o ?o2 ?o3 ?p1 ?p2 ?p3 ?p4; C o m op; C o2 m op; C o3 m op"]
   `(tactic| first | (first $[| $a]*) | $b:tactic)
local macro_rules | `(tactic| walk_at "m i")=>do
   let a <- Mir.M7 `Mir "zM zN AE Au li_enu Ea"
   let b <- Mir.tx ["Q Mir.li_lk ?o; C o rfl",
 "Q Mir.li_own ?o; C o %"]
   `(tactic| first | (first $[| $a]*) | $b:tactic)
local macro_rules | `(tactic| walk_at "m dD")=>`(tactic| (unfold Mir.dD; decide))
local macro_rules | `(tactic| walk_at "m g")=>Mir.tx ["Q Mir.mv ?o ?q; C o rfl; C q m dD",
 "Q Mir.lg_own ?o ?q; C o rfl; C q m dD",
 "G Mir.LG _ _ _ (pj _ _ _) _; R Mir.v8 ?p1",
 "Q Mir.Aq ?o ?p1; C o m ow",
 "Q Mir.Ar ?o ?p1; C o m ow",
 "Q Mir.lg_dputN ?o ?p1; C o m ow"]
local macro_rules | `(tactic| walk_at "m gs")=>Mir.tx ["q Mir.rD",
 "Q Mir.og ?p1 ?p2"]
local macro_rules | `(tactic| walk_at "m gc")=>Mir.tx ["Q Mir.mv ?o ?q; C o rfl; C q %",
 "G Mir.LG _ _ _ (pj _ _ _) _; R Mir.v8 ?p1"]
local macro_rules | `(tactic| walk_at "m gcs")=>Mir.tx ["q Mir.rD",
 "Q Mir.og ?p1 ?p2"]
local macro_rules | `(tactic| walk_at "m b")=>`(tactic| first
 | (refine' Mir.zP ?p1)
 | (refine' Mir.lb_in ?p1 ?p2 ?p3 ?p4))
local macro_rules | `(tactic| walk_at "m n")=>do
   let a <- Mir.M7 `Mir "D6 As wC"
   let b <- Mir.tx ["Q Mir.ln_stream ?o; C o rfl",
 "Q Mir.Cm Mir.El ?p1 ?p2",
 "Q Mir.Cm Mir.on_add ?p1 ?p2",
 "R Mir.ln_compE ?q0 ?q1 ?q2 ?q3 ?c1 ?c2 ?c3 ?c4; C q0 rfl; C q1 %; C q2 %; C c1 m ia; C q3 m lj"]
   `(tactic| first | (first $[| $a]*) | $b:tactic)
local macro_rules | `(tactic| walk_at "m s")=>do
   let a <- Mir.M7 `Mir "zI ls_retNone ls_brk ls_ct Ak D2 G1 ls_never D3 tW Aw D4 zJ Ec"
   let b <- Mir.tx ["Q Mir.zK ?o ?p1; C o rfl",
 "Q Mir.wP ?o ?o2 ?p1 ?p2; C o rfl; C o2 rfl",
 "Q Mir.ls_asgDc ?o ?p1; C o rfl",
 "Q Mir.wQ ?o; C o rfl",
 "Q Mir.zL ?o; C o rfl",
 "Q Mir.ls_retF ?o ?p1; C o !",
 "Q Mir.ls_forL ?o ?p2 ?p3; C o rfl",
 "Q Mir.we _ ?p1 ?p2",
 "Q Mir.Em ?o ?o2 ?p1; C o rfl; C o2 rfl",
 "Q Mir.Eo ?o ?p1; C o rfl"]
   `(tactic| first | (first $[| $a]*) | $b:tactic)
local macro_rules | `(tactic| walk_at "m x")=>do
   let a <- Mir.M7 `Mir "lx_args lx_op lx_dc"
   let b <- Mir.tx []
   `(tactic| first | (first $[| $a]*) | $b:tactic)
local macro_rules | `(tactic| walk_at "m1")=>Mir.tx ["G Mir.LX _ _ _ _; W m x",
 "G Mir.LE _ _ _ _; W m e",
 "G Mir.LT _ _ _ _; W m t",
 "G Mir.LA _ _ _ _; W m a",
 "G Mir.LS _ _ _ _; W m s",
 "G Mir.LI _ _ _ _ _; W m i",
 "G Mir.LG _ _ _ _ _; W m g",
 "G Mir.LG _ _ _ _ _; W m gc",
 "G Mir.OH _ _ _ _ _; W m gs",
 "G Mir.LO _ _ _ _; W m o",
 "G Mir.LB _ _ _ _ _; W m b",
 "G Mir.LN _ _ _ _; W m n"]
local macro_rules | `(tactic| walk_at "m all")=>`(tactic| repeat' (walk_at "m1"))
local macro_rules | `(tactic| walk_at "h glob")=>`(tactic| first | exact iM (v:=.str ("abcdefghijklmnopqrstuvwxyz":Str)) rfl (by assumption) ⟨_,rfl⟩ | exact iM (v:=.int (-1)) rfl (by assumption) ⟨_,rfl⟩)
local macro_rules | `(tactic| walk_at "h pi")=>Mir.tx ["G PI _ _ (Expr.Name (Str.ofString 'rings') _) _; R GE ?p1"]
local macro_rules | `(tactic| walk_at "m i")=>Mir.tx ["G Mir.LI _ _ _ _ (Mir.qu _); E Mir.Ho"]
local macro_rules | `(tactic| walk_at "m s")=>Mir.tx ["G Mir.LS _ _ _ (Mir.ld _); E Mir.AT rfl","G Mir.LS _ _ _ (Mir.fH _ _ _); R Mir.xg rfl ?p1"]
local macro_rules | `(tactic| walk_at "m e")=>Mir.tx ["G Mir.LE _ _ _ (Mir.jK _ _); R Mir.AR ?p1","G Mir.LE _ _ _ (Mir.oM _ _ _); R Mir.EE ?p1 ?p2 ?p3"]
local macro_rules | `(tactic| walk_at "m g")=>Mir.tx ["G Mir.LG _ _ _ _ (Mir.gV _ _); R Mir.AS <m ow> ?p1"]
local macro_rules | `(tactic| walk_at "m n")=>Mir.tx ["G Mir.LN _ _ _ Mir.mM; E Mir.AQ"]
local macro_rules | `(tactic| walk_at "h opB")=>Mir.tx ["G JK _ (binaryOp Operator.FloorDiv) _; E Mir.wU","G JK _ (binaryOp Operator.Mult) _; E Mir.wT"]
local macro_rules | `(tactic| walk_at "h opC")=>Mir.tx ["G JK _ (compareOp CmpOp.Is) _; E Mir.Az","G JK _ (compareOp CmpOp.IsNot) _; E Mir.wV"]
local macro_rules | `(tactic| walk_at "h pe")=>Mir.tx ["G PE _ (Expr.Dict [(some (Expr.Constant _ _ _))] [_] _) _; R vT (My.un4 n= 1) !) ?p1 ?p2"]
local macro_rules | `(tactic| walk_at "h bcall")=>Mir.tx ["G PE _ (Expr.Call (Expr.Name (Str.ofString 'max') _) [_] _ _) _; R bd (uq rfl) rfl ! PyProof.Rows.boot_max ?p1"]
local macro_rules | `(tactic| walk_at "h pe")=>Mir.tx ["G PE _ (Expr.Call (Expr.Attribute _ (Str.ofString 'values') _) [] _ _) _; R AF ?p1"]
local macro_rules | `(tactic| walk_at "m e")=>Mir.tx ["G Mir.LE _ _ _ (Mir.lv _); E Mir.AV","G Mir.LE _ _ _ (Mir.lx _ _); R Mir.AW ?p1","G Mir.LE _ _ _ (Mir.uA _ _); R Mir.EH ?p1"]
local macro_rules | `(tactic| walk_at "h pe")=>Mir.tx ["G PE _ (Expr.Call (Expr.Attribute _ (Str.ofString 'find') _) _ _ _) _; R vg PySem.F.plainAttrs_str PySem.F.slot_str_find PySem.F.type_str_find AN ?p1 ?p2","G PE _ (Expr.Call (Expr.Attribute _ (Str.ofString 'index') _) _ _ _) _; R vg PySem.F.plainAttrs_str PySem.F.slot_str_index PySem.F.type_str_index xb ?p1 ?p2","G PE _ (Expr.BinOp (Expr.List _ _) Operator.Mult _ _) _; R BY <h mul> ?p1 ?p2"]
local macro_rules | `(tactic| walk_at "m e")=>Mir.tx ["G Mir.LE _ _ _ (Mir.oO _ _); R Mir.AO ?p1 ?p2","G Mir.LE _ _ _ (Mir.jJ _ _); R Mir.xf ?p1 ?p2"]
local macro_rules | `(tactic| walk_at "h pi")=>Mir.tx ["G PI _ _ (Expr.Call (Expr.Name (Str.ofString 'enumerate') _) [_] _ _) _; R AK ! rfl ! ?p1"]
local macro_rules | `(tactic| walk_at "m i")=>Mir.tx ["G Mir.LI _ _ _ _ (Mir.k9 _ _); R Mir.AM ?p1"]
local macro_rules | `(tactic| walk_at "h slice")=>Mir.tx ["G PE _ (Expr.Subscript _ (Expr.Slice _ _ none _) _) _; R nN (ED !) ?p1 ?p2 ?p3"]
local macro_rules | `(tactic| walk_at "h pe")=>`(tactic| ((with_reducible show PE _ (Expr.Compare _ [_,_,_] _ _) _); refine' uv (by walk_at "h opC") (by walk_at "h opC") (by walk_at "h opC") ?p1 ?p2 ?p3 ?p4))
local macro_rules | `(tactic| walk_at "m e")=>`(tactic| ((with_reducible show Mir.LE _ _ _ (Mir.cZ _ _ _ _ _ _ _)); (with_reducible refine' Mir.uw ?o ?o2 ?o3 ?p1 ?p2 ?p3 ?p4); (case o=>walk_at "m op"); (case o2=>walk_at "m op"); (case o3=>walk_at "m op")))
local macro_rules | `(tactic| walk_at "h pe")=>`(tactic| ((with_reducible show PE _ (Expr.Compare _ [CmpOp.In] [Expr.Name (Str.ofString "due") _] _) _); refine' qU (EB (My.un4 (n:=1) (by assumption))) ?p1 ?p2 (by walk_at "h mark")))
local macro_rules | `(tactic| walk_at "m i")=>Mir.tx ["G Mir.LI _ _ _ _ (Mir.up _ _); R Mir.Ey ?p1"]
abbrev Bn (mg:Str->Option Value):Prop:=mg "all"=none/\mg "bool"=none/\mg "enumerate"=none/\mg "int"=none/\mg "isinstance"=none/\mg "len"=none/\mg "max"=none/\mg "min"=none/\mg "range"=none/\mg "reversed"=none/\mg "sorted"=none/\mg "str"=none/\mg "sum"=none/\mg "tuple"=none/\mg "zip"=none
abbrev Bz (K:PySem.W.Frag):Prop:=PySem.W.nsIn K mainGlobals "all"=some none/\PySem.W.nsIn K mainGlobals "bool"=some none/\PySem.W.nsIn K mainGlobals "enumerate"=some none/\PySem.W.nsIn K mainGlobals "int"=some none/\PySem.W.nsIn K mainGlobals "isinstance"=some none/\PySem.W.nsIn K mainGlobals "len"=some none/\PySem.W.nsIn K mainGlobals "max"=some none/\PySem.W.nsIn K mainGlobals "min"=some none/\PySem.W.nsIn K mainGlobals "range"=some none/\PySem.W.nsIn K mainGlobals "reversed"=some none/\PySem.W.nsIn K mainGlobals "sorted"=some none/\PySem.W.nsIn K mainGlobals "str"=some none/\PySem.W.nsIn K mainGlobals "sum"=some none/\PySem.W.nsIn K mainGlobals "tuple"=some none/\PySem.W.nsIn K mainGlobals "zip"=some none
abbrev Kp (K:PySem.W.Frag) (x:Str) (st:Stmt) (f:Addr) (fd:FuncData):Prop:=PySem.W.nsIn K mainGlobals x=some (some (.ref f))/\J1 K x x st f fd
theorem ktF {K:PySem.W.Frag} {x y:Str} {st:Stmt} {f:Addr} {fd:FuncData} (_:J1 K x y st f fd):KT K:=⟨⟩
theorem bn0 {P:List Value->Prop} (h:P []):∀ us:List Value,us.length=0->P us
 | [],_=>h
theorem bnS {P:List Value->Prop} {n:Nat} (h:∀ a,∀ us:List Value,us.length=n->P (a::us)):∀ us:List Value,us.length=n+1->P us
 | a::us,e=>h a us (Nat.succ.inj e)
theorem Kx {P:Program} {w:World} {K:PySem.W.Frag} {mg:Str->Option Value} {base h:Heap} {x:Str} {k:Nat} {ps:List Str} {sp:Sp} {st:Stmt} {f:Addr} {fd:FuncData} (X:K.In h) (G:h.Ns mainGlobals mg) (i:Kp K x st f fd) (o:Ju P w K mg base JV k f fd ps sp) (d:Binds K fd ps []):J7 P w K mg base x k ps sp:=⟨f,fd,o,PySem.W.mg_of X G i.1,i.2.kp,d⟩
local macro_rules | `(tactic| walk_at "sc")=>`(tactic| exact ⟨rfl,rfl,rfl,by decide +kernel,rfl,by decide +kernel,by decide +kernel⟩)
local macro_rules | `(tactic| walk_at "bn")=>`(tactic| (intro _ _ _ _ _ _; (repeat (refine My.bnS ?_; intro _)); refine My.bn0 ?_; exact rfl))
local macro_rules | `(tactic| walk_at "fa")=>`(tactic| (intro cdv A outer s H E hr; have kt:=My.ktF ‹J1 _ _ _ _ _ _›; obtain ⟨_,_,_,_,_,_,_,_,_,_,_,_,_,_,_⟩:=‹My.Bn _›; refine' ⟨_,?a,?b⟩; (case a=>(show K2 _ (_::_) _; walk_at "h all")); intro C hC; subst hC))
local macro_rules | `(tactic| walk_at "fi")=>`(tactic| (intro cdv A outer s H E hr; have kt:=My.ktF ‹J1 _ _ _ _ _ _›; obtain ⟨_,_,_,_,_,_,_,_,_,_,_,_,_,_,_⟩:=‹My.Bn _›; refine' ⟨_,?a,?b⟩; (case a=>(show K2 _ (_::_) _; walk_at "h all")); intro C hC hF; subst hC))
section
variable {P:Program} {w:World} {K:PySem.W.Frag} {mg:Str->Option Value} {base:Heap}
theorem NM:Jm ["thing"] ["thing"] (ag Fm):=by walk_at "sc"
theorem Ij {f:Addr} {fd:FuncData} (F:J1 K "is_whole" "is_whole" Fm f fd) (Z:Bn mg):Ju P w K mg base JV 1 f fd ["thing"] (Mir.JL K Mir.xx):=by refine Mir.aA (md:=Mir.HK) (mb:=Mir.gq) (n:=1) (np:=1) F NM rfl rfl rfl rfl rfl ?_;have nd:=NM.nd;walk_at "fa";unfold Mir.gq;walk_at "m all"
theorem NQ:Jm ["thing","low","high"] ["thing","low","high"] (ag Fn):=by walk_at "sc"
theorem Ik {f:Addr} {fd:FuncData} (F:J1 K "is_tuple_of" "is_tuple_of" Fn f fd) (Z:Bn mg):Ju P w K mg base JV 1 f fd ["thing","low","high"] (Mir.JL K Mir.Be):=by refine Mir.aA (md:=Mir.HL) (mb:=Mir.fm) (n:=3) (np:=3) F NQ rfl rfl rfl rfl rfl ?_;have nd:=NQ.nd;walk_at "fa";unfold Mir.fm;walk_at "m all"
theorem NF:Jm ["hoop","other"] ["hoop","other"] (ag Fo):=by walk_at "sc"
theorem Il {f:Addr} {fd:FuncData} (F:J1 K "follows" "follows" Fo f fd) (Z:Bn mg)  : Ju P w K mg base JV 1 f fd ["hoop","other"] (Mir.JL K Mir.xy):=by refine Mir.aA (md:=Mir.HN) (mb:=Mir.lz) (n:=2) (np:=2) F NF rfl rfl rfl rfl rfl ?_;have nd:=NF.nd;walk_at "fa";unfold Mir.lz;walk_at "m all"
theorem NH:Jm ["hoops","at","hoop"] ["hoops"] (ag Fp):=by walk_at "sc"
theorem Im {f:Addr} {fd:FuncData} (F:J1 K "lie_apart" "lie_apart" Fp f fd) (Z:Bn mg) (G_x2:J7 P w K mg base "follows" 1 ["hoop","other"] (Mir.JL K Mir.xy)):Ju P w K mg base JV 2 f fd ["hoops"] (Mir.JL K Mir.Bh):=by refine Mir.aA (md:=Mir.oU) (mb:=Mir.oV) (n:=3) (np:=1) F NH rfl rfl rfl rfl rfl ?_;have nd:=NH.nd;walk_at "fa";unfold Mir.oV Mir.gv;walk_at "m all"
theorem NB:Jm ["many","shape","row","i","j"] ["many","shape"] (ag Fq):=by walk_at "sc"
theorem Io {f:Addr} {fd:FuncData} {tk_NO_PARTNER:Tok} (F:J1 K "row_of" "row_of" Fq f fd) (Z:Bn mg) (c_NO_PARTNER:mg "NO_PARTNER"=some (.int (-1) tk_NO_PARTNER)):Ju P w K mg base JV 1 f fd ["many","shape"] (Mir.JL K Mir.Bf):=by refine Mir.aA (md:=Mir.jS) (mb:=Mir.rT) (n:=5) (np:=2) F NB rfl rfl rfl rfl rfl ?_;have nd:=NB.nd;walk_at "fa";unfold Mir.rT Mir.iV;walk_at "m all"
theorem NV:Jm ["many"] ["many"] (ag Fr):=by walk_at "sc"
theorem Ip {f:Addr} {fd:FuncData} {tk_LETTERS:Tok} (F:J1 K "letters_of_sorts" "letters_of_sorts" Fr f fd) (Z:Bn mg) (c_LETTERS:mg "LETTERS"=some (.str ("abcdefghijklmnopqrstuvwxyz":Str) tk_LETTERS)):Ju P w K mg base JV 1 f fd ["many"] (Mir.JL K Mir.Bg):=by refine Mir.aA (md:=Mir.HQ) (mb:=Mir.rV) (n:=1) (np:=1) F NV rfl rfl rfl rfl rfl ?_;have nd:=NV.nd;walk_at "fa";unfold Mir.rV;walk_at "m all"
theorem NW:Jm ["letter","place"] ["letter"] (ag Fs):=by walk_at "sc"
theorem Iq {f:Addr} {fd:FuncData} {tk_LETTERS:Tok} (F:J1 K "fellow" "fellow" Fs f fd) (Z:Bn mg) (c_LETTERS:mg "LETTERS"=some (.str ("abcdefghijklmnopqrstuvwxyz":Str) tk_LETTERS)):Ju P w K mg base JV 1 f fd ["letter"] (Mir.JL K Mir.mU):=by refine Mir.aA (md:=Mir.Cw) (mb:=Mir.oT) (n:=2) (np:=1) F NW rfl rfl rfl rfl rfl ?_;have nd:=NW.nd;walk_at "fa";unfold Mir.oT;walk_at "m all"
theorem NO:Jm ["many","thing","i","j"] ["many","thing"] (ag Ft):=by walk_at "sc"
theorem Ir {f:Addr} {fd:FuncData} (F:J1 K "is_pair_of_spots" "is_pair_of_spots" Ft f fd) (Z:Bn mg) (G_x0:J7 P w K mg base "is_whole" 1 ["thing"] (Mir.JL K Mir.xx)) (G_x1:J7 P w K mg base "is_tuple_of" 1 ["thing","low","high"] (Mir.JL K Mir.Be)):Ju P w K mg base JV 2 f fd ["many","thing"] (Mir.JL K Mir.xz):=by refine Mir.aA (md:=Mir.Cy) (mb:=Mir.cL) (n:=4) (np:=2) F NO rfl rfl rfl rfl rfl ?_;have nd:=NO.nd;walk_at "fa";unfold Mir.cL;walk_at "m all"
theorem NP:Jm ["many","thing"] ["many","thing"] (ag Fv):=by walk_at "sc"
theorem Iu {f:Addr} {fd:FuncData} (F:J1 K "is_full" "is_full" Fv f fd) (Z:Bn mg) (G_x3:J7 P w K mg base "lie_apart" 2 ["hoops"] (Mir.JL K Mir.Bh)) (G_x7:J7 P w K mg base "is_pair_of_spots" 2 ["many","thing"] (Mir.JL K Mir.xz)):Ju P w K mg base JV 3 f fd ["many","thing"] (Mir.JL K Mir.Bi):=by refine Mir.aA (md:=Mir.sf) (mb:=Mir.lD) (n:=2) (np:=2) F NP rfl rfl rfl rfl rfl ?_;have nd:=NP.nd;walk_at "fa";unfold Mir.lD;walk_at "m all"
theorem NI:Jm ["cord","thing"] ["cord","thing"] (ag Fw):=by walk_at "sc"
theorem Iv {f:Addr} {fd:FuncData} (F:J1 K "is_full_of" "is_full_of" Fw f fd) (Z:Bn mg) (G_x6:J7 P w K mg base "fellow" 1 ["letter"] (Mir.JL K Mir.mU)) (G_x8:J7 P w K mg base "is_full" 3 ["many","thing"] (Mir.JL K Mir.Bi)):Ju P w K mg base JV 4 f fd ["cord","thing"] (Mir.JL K Mir.Bj):=by refine Mir.aA (md:=Mir.sk) (mb:=Mir.sn) (n:=2) (np:=2) F NI rfl rfl rfl rfl rfl ?_;have nd:=NI.nd;walk_at "fa";unfold Mir.sn;walk_at "m all"
theorem Mz:Jm ["cord","counts","start","stop","told","partner"] ["cord","counts","start","stop"] (ag yj):=by walk_at "sc"
theorem Fx {f:Addr} {fd:FuncData} (F:J1 K "fellow_counts" "fellow_counts" yj f fd) (Z:Bn mg) (G_x6:J7 P w K mg base "fellow" 1 ["letter"] (Mir.JL K Mir.mU)):Ju P w K mg base JV 2 f fd ["cord","counts","start","stop"] (Mir.JL K Mir.rY):=by refine Mir.aA (md:=Mir.gY) (mb:=Mir.mZ) (n:=6) (np:=4) F Mz rfl rfl rfl rfl rfl ?_;have nd:=Mz.nd;walk_at "fa";unfold Mir.mZ Mir.d5;walk_at "m all"
theorem M0:Jm ["cord","last","counts","start","stop"] ["cord"] (ag yk):=by walk_at "sc"
theorem Fy {f:Addr} {fd:FuncData} (F:J1 K "full_counts" "full_counts" yk f fd) (Z:Bn mg) (G_x10:J7 P w K mg base "fellow_counts" 2 ["cord","counts","start","stop"] (Mir.JL K Mir.rY)):Ju P w K mg base JV 3 f fd ["cord"] (Mir.JL K Mir.si):=by refine Mir.aA (md:=Mir.cR) (mb:=Mir.m9) (n:=5) (np:=1) F M0 rfl rfl rfl rfl rfl ?_;have nd:=M0.nd;walk_at "fa";unfold Mir.m9 Mir.gy Mir.ee;walk_at "m all"
theorem Ms:Jm ["cord"] ["cord"] (ag ym):=by walk_at "sc"
theorem Fz {f:Addr} {fd:FuncData} (F:J1 K "how_many_full" "how_many_full" ym f fd) (Z:Bn mg) (G_x11:J7 P w K mg base "full_counts" 3 ["cord"] (Mir.JL K Mir.si)):Ju P w K mg base JV 4 f fd ["cord"] (Mir.JL K Mir.sr):=by refine Mir.aA (md:=Mir.xC) (mb:=Mir.ni) (n:=1) (np:=1) F Ms rfl rfl rfl rfl rfl ?_;have nd:=Ms.nd;walk_at "fa";unfold Mir.ni;walk_at "m all"
theorem MW:Jm ["many","shape","hoop","row","spot","stop","hoops","free"] ["many","shape","hoop"] (ag yn):=by walk_at "sc"
theorem FA {f:Addr} {fd:FuncData} {tk_NO_PARTNER:Tok} (F:J1 K "ring_of" "ring_of" yn f fd) (Z:Bn mg) (G_x4:J7 P w K mg base "row_of" 1 ["many","shape"] (Mir.JL K Mir.Bf)) (c_NO_PARTNER:mg "NO_PARTNER"=some (.int (-1) tk_NO_PARTNER)):Ju P w K mg base JV 2 f fd ["many","shape","hoop"] (Mir.JL K Mir.iz):=by refine Mir.aA (md:=Mir.cx) (mb:=Mir.jU) (n:=8) (np:=3) F MW rfl rfl rfl rfl rfl ?_;have nd:=MW.nd;walk_at "fa";unfold Mir.jU Mir.cy;walk_at "m all"
theorem Mq:Jm ["many","shape","hoop","hoops","free"] ["many","shape","hoop"] (ag yo):=by walk_at "sc"
theorem FB {f:Addr} {fd:FuncData} (F:J1 K "breadth" "breadth" yo f fd) (Z:Bn mg) (G_x13:J7 P w K mg base "ring_of" 2 ["many","shape","hoop"] (Mir.JL K Mir.iz)):Ju P w K mg base JV 3 f fd ["many","shape","hoop"] (Mir.JL K Mir.jY):=by refine Mir.aA (md:=Mir.xB) (mb:=Mir.jX) (n:=5) (np:=3) F Mq rfl rfl rfl rfl rfl ?_;have nd:=Mq.nd;walk_at "fa";unfold Mir.jX;walk_at "m all"
theorem ML:Jm ["letters","choices","hoops","i","j","letter"] ["letters","choices","hoops"] (ag yp):=by walk_at "sc"
theorem FC {f:Addr} {fd:FuncData} (F:J1 K "letter_ring" "letter_ring" yp f fd) (Z:Bn mg) (G_x6:J7 P w K mg base "fellow" 1 ["letter"] (Mir.JL K Mir.mU)):Ju P w K mg base JV 2 f fd ["letters","choices","hoops"] (Mir.LY K Mir.rZ):=by refine Mir.mE (md:=Mir.gZ) (mb:=Mir.m4) (n:=6) (np:=2) false F ML rfl rfl rfl rfl rfl rfl ?_;have nd:=ML.nd;walk_at "fi";unfold Mir.m4 Mir.d6;walk_at "m all"
theorem M3:Jm ["many","shape","c","letters","hoop","hoops","free","taken"] ["many","shape","c"] (ag yq):=by walk_at "sc"
theorem FD {f:Addr} {fd:FuncData} (F:J1 K "cord_for" "cord_for" yq f fd) (Z:Bn mg) (G_x5:J7 P w K mg base "letters_of_sorts" 1 ["many"] (Mir.JL K Mir.Bg)) (G_x13:J7 P w K mg base "ring_of" 2 ["many","shape","hoop"] (Mir.JL K Mir.iz)) (G_x15:J7 P w K mg base "letter_ring" 2 ["letters","choices","hoops"] (Mir.LY K Mir.rZ)):Ju P w K mg base JV 3 f fd ["many","shape","c"] (Mir.JL K Mir.sj):=by refine Mir.aA (md:=Mir.cz) (mb:=Mir.nh) (n:=8) (np:=3) F M3 rfl rfl rfl rfl rfl ?_;have nd:=M3.nd;walk_at "fa";unfold Mir.nh Mir.da;walk_at "m all"
theorem MK:Jm ["many","shape","c","hoop"] ["many","shape","c"] (ag yr):=by walk_at "sc"
theorem FE {f:Addr} {fd:FuncData} (F:J1 K "made_for" "made_for" yr f fd) (Z:Bn mg) (G_x14:J7 P w K mg base "breadth" 3 ["many","shape","hoop"] (Mir.JL K Mir.jY)) (G_x16:J7 P w K mg base "cord_for" 3 ["many","shape","c"] (Mir.JL K Mir.sj)):Ju P w K mg base JV 4 f fd ["many","shape","c"] (Mir.JL K Mir.oW):=by refine Mir.aA (md:=Mir.jZ) (mb:=Mir.j6) (n:=4) (np:=3) F MK rfl rfl rfl rfl rfl ?_;have nd:=MK.nd;walk_at "fa";unfold Mir.j6 Mir.db;walk_at "m all"
theorem MM:Jm ["cord","shape"] ["cord","shape"] (ag yt):=by walk_at "sc"
theorem FF {f:Addr} {fd:FuncData} (F:J1 K "alone" "alone" yt f fd) (Z:Bn mg) (G_x9:J7 P w K mg base "is_full_of" 4 ["cord","thing"] (Mir.JL K Mir.Bj)) (G_x12:J7 P w K mg base "how_many_full" 4 ["cord"] (Mir.JL K Mir.sr)):Ju P w K mg base JV 5 f fd ["cord","shape"] (Mir.JL K Mir.sv):=by refine Mir.aA (md:=Mir.EW) (mb:=Mir.nr) (n:=2) (np:=2) F MM rfl rfl rfl rfl rfl ?_;have nd:=MM.nd;walk_at "fa";unfold Mir.nr;walk_at "m all"
theorem Mk:Jm ["script","k","number","mixed","found","turn"] ["script","k"] (ag yu):=by walk_at "sc"
theorem FG {f:Addr} {fd:FuncData} (F:J1 K "_law_store" "_law_store" yu f fd) (Z:Bn mg):Ju P w K mg base JV 1 f fd ["script","k"] (Mir.JL K Mir.rW):=by refine Mir.aA (md:=Mir.bH) (mb:=Mir.jT) (n:=6) (np:=2) F Mk rfl rfl rfl rfl rfl ?_;have nd:=Mk.nd;walk_at "fa";unfold Mir.jT Mir.dZ;walk_at "m all"
theorem Mm:Jm ["store","many","found"] ["store","many"] (ag yv):=by walk_at "sc"
theorem FH {f:Addr} {fd:FuncData} (F:J1 K "_law_take" "_law_take" yv f fd) (Z:Bn mg)  : Ju P w K mg base JV 1 f fd ["store","many"] (Mir.LY K Mir.d4):=by refine Mir.mE (md:=Mir.mV) (mb:=Mir.mW) (n:=3) (np:=1) false F Mm rfl rfl rfl rfl rfl rfl ?_;have nd:=Mm.nd;walk_at "fi";unfold Mir.mW;walk_at "m all"
theorem MY:Jm ["thing"] ["thing"] (ag yw):=by walk_at "sc"
theorem FK {f:Addr} {fd:FuncData} (F:J1 K "_law_whole" "_law_whole" yw f fd) (Z:Bn mg):Ju P w K mg base JV 1 f fd ["thing"] (Mir.JL K Mir.lA):=by refine Mir.aA (md:=Mir.EU) (mb:=Mir.qz) (n:=1) (np:=1) F MY rfl rfl rfl rfl rfl ?_;have nd:=MY.nd;walk_at "fa";unfold Mir.qz;walk_at "m all"
theorem Mx:Jm ["letter","letters","number"] ["letter"] (ag yz):=by walk_at "sc"
theorem FL {f:Addr} {fd:FuncData} (F:J1 K "_law_fellow" "_law_fellow" yz f fd) (Z:Bn mg)  : Ju P w K mg base JV 1 f fd ["letter"] (Mir.JL K Mir.lB):=by refine Mir.aA (md:=Mir.qA) (mb:=Mir.mX) (n:=3) (np:=1) F Mx rfl rfl rfl rfl rfl ?_;have nd:=Mx.nd;walk_at "fa";unfold Mir.mX;walk_at "m all"
theorem M4:Jm ["store","half","hoops","waits","left","spot"] ["store","half"] (ag yA):=by walk_at "sc"
theorem FM {f:Addr} {fd:FuncData} (F:J1 K "_law_full" "_law_full" yA f fd) (Z:Bn mg) (G_x20:J7 P w K mg base "_law_take" 1 ["store","many"] (Mir.LY K Mir.d4)):Ju P w K mg base JV 2 f fd ["store","half"] (Mir.LY K Mir.r8):=by refine Mir.mE (md:=Mir.cQ) (mb:=Mir.m5) (n:=6) (np:=1) false F M4 rfl rfl rfl rfl rfl rfl ?_;have nd:=M4.nd;walk_at "fi";unfold Mir.m5 Mir.bP;walk_at "m all"
theorem MH:Jm ["cord","many","ways","size","i","found","j"] ["cord"] (ag yB):=by walk_at "sc"
theorem FO {f:Addr} {fd:FuncData} (F:J1 K "_law_ways" "_law_ways" yB f fd) (Z:Bn mg) (G_x22:J7 P w K mg base "_law_fellow" 1 ["letter"] (Mir.JL K Mir.lB)):Ju P w K mg base JV 2 f fd ["cord"] (Mir.JL K Mir.r9):=by refine Mir.aA (md:=Mir.du) (mb:=Mir.m6) (n:=7) (np:=1) F MH rfl rfl rfl rfl rfl ?_;have nd:=MH.nd;walk_at "fa";unfold Mir.m6 Mir.gw Mir.d7 Mir.c9;walk_at "m all"
theorem MD:Jm ["cord","shape","row","behind","hoop","i","j","waits","spot"] ["cord","shape"] (ag yC):=by walk_at "sc"
theorem FQ {f:Addr} {fd:FuncData} (F:J1 K "_law_fits" "_law_fits" yC f fd) (Z:Bn mg) (G_x21:J7 P w K mg base "_law_whole" 1 ["thing"] (Mir.JL K Mir.lA)) (G_x22:J7 P w K mg base "_law_fellow" 1 ["letter"] (Mir.JL K Mir.lB)):Ju P w K mg base JV 2 f fd ["cord","shape"] (Mir.JL K Mir.sd):=by refine Mir.aA (md:=Mir.bI) (mb:=Mir.m7) (n:=9) (np:=2) F MD rfl rfl rfl rfl rfl ?_;have nd:=MD.nd;walk_at "fa";unfold Mir.m7 Mir.gx Mir.d8;walk_at "m all"
theorem Mu:Jm ["shape","rings","around","hoop"] ["shape"] (ag yD):=by walk_at "sc"
theorem FS {f:Addr} {fd:FuncData} (F:J1 K "_law_rings" "_law_rings" yD f fd) (Z:Bn mg)  : Ju P w K mg base JV 1 f fd ["shape"] (Mir.JL K Mir.rX):=by
 refine Mir.aA (md:=Mir.EV) (mb:=Mir.mY) (n:=4) (np:=1) F Mu rfl rfl rfl rfl rfl ?_;have nd:=Mu.nd;walk_at "fa";unfold Mir.mY Mir.bO;refine Mir.xk ?h1 ?h2 ?h3 ?h4 ?h5 rfl rfl rfl ?h6 ?h7
 case h6=>
  intro i h;rcases i with _ | _ | _ | _ | i <;> first | rfl | exact absurd rfl h
 case h7=>
  intro i h;rcases h with h | h <;> rcases i with _ | _ | _ | _ | i <;> cases h
 all_goals walk_at "m all"
theorem MP:Jm ["shape","rings","found","hoop"] ["shape"] (ag yE):=by walk_at "sc"
theorem FT {f:Addr} {fd:FuncData} (F:J1 K "_law_breadths" "_law_breadths" yE f fd) (Z:Bn mg) (G_x26:J7 P w K mg base "_law_rings" 1 ["shape"] (Mir.JL K Mir.rX)):Ju P w K mg base JV 2 f fd ["shape"] (Mir.JL K Mir.lC):=by refine Mir.aA (md:=Mir.xA) (mb:=Mir.m8) (n:=4) (np:=1) F MP rfl rfl rfl rfl rfl ?_;have nd:=MP.nd;walk_at "fa";unfold Mir.m8 Mir.d9;walk_at "m all"
theorem Mw:Jm ["store","most"] ["store","most"] (ag yF):=by walk_at "sc"
theorem FU {f:Addr} {fd:FuncData} (F:J1 K "_law_sorts" "_law_sorts" yF f fd) (Z:Bn mg) (G_x20:J7 P w K mg base "_law_take" 1 ["store","many"] (Mir.LY K Mir.d4)):Ju P w K mg base JV 2 f fd ["store","most"] (Mir.LY K Mir.se):=by refine Mir.mE (md:=Mir.jV) (mb:=Mir.jW) (n:=2) (np:=1) false F Mw rfl rfl rfl rfl rfl rfl ?_;have nd:=Mw.nd;walk_at "fi";unfold Mir.jW;walk_at "m all"
theorem Mr:Jm ["shape","c","due","found","letter"] ["shape","c"] (ag yG):=by walk_at "sc"
theorem FV {f:Addr} {fd:FuncData} (F:J1 K "_law_right" "_law_right" yG f fd) (Z:Bn mg) (G_x17:J7 P w K mg base "made_for" 4 ["many","shape","c"] (Mir.JL K Mir.oW)) (G_x18:J7 P w K mg base "alone" 5 ["cord","shape"] (Mir.JL K Mir.sv)) (G_x24:J7 P w K mg base "_law_ways" 2 ["cord"] (Mir.JL K Mir.r9)) (G_x25:J7 P w K mg base "_law_fits" 2 ["cord","shape"] (Mir.JL K Mir.sd)) (G_x27:J7 P w K mg base "_law_breadths" 2 ["shape"] (Mir.JL K Mir.lC)):Ju P w K mg base JV 6 f fd ["shape","c"] (Mir.JL K Mir.eA):=by refine Mir.aA (md:=Mir.qB) (mb:=Mir.j7) (n:=5) (np:=2) F Mr rfl rfl rfl rfl rfl ?_;have nd:=Mr.nd;walk_at "fa";unfold Mir.j7 Mir.eg;walk_at "m all"
theorem M1:Jm ["script","k","store","shape","c"] ["script"] (ag iD):=by walk_at "sc"
theorem FW {f:Addr} {fd:FuncData} (F:J1 K "law" "law" iD f fd) (Z:Bn mg) (G_x19:J7 P w K mg base "_law_store" 1 ["script","k"] (Mir.JL K Mir.rW)) (G_x20:J7 P w K mg base "_law_take" 1 ["store","many"] (Mir.LY K Mir.d4)) (G_x23:J7 P w K mg base "_law_full" 2 ["store","half"] (Mir.LY K Mir.r8)) (G_x27:J7 P w K mg base "_law_breadths" 2 ["shape"] (Mir.JL K Mir.lC)) (G_x28:J7 P w K mg base "_law_sorts" 2 ["store","most"] (Mir.LY K Mir.se)) (G_x29:J7 P w K mg base "_law_right" 6 ["shape","c"] (Mir.JL K Mir.eA)) (okl:∀ ns:List Int,ns.length<=63->Mir.Cz [.scr ns]=some (.d (.bl true))):Ju P w K mg base JV 7 f fd ["script"] (Mir.gL K):=by refine Mir.Af (md:=Mir.cA) (mb:=Mir.nu) (n:=5) F M1 rfl rfl rfl rfl okl ?_;have nd:=M1.nd;walk_at "fa";unfold Mir.nu Mir.eB;walk_at "m all"
end
theorem FX {l:PySem.W.OpenLaw} {w:World} {K:PySem.W.Frag} {h:Heap} {mg:Str->Option Value} {fa f0 f1 f2 f3 f4 f5 f6 f7 f8 f9 f10 f11 f12 f13 f14 f15 f16 f17 f18 f19 f20 f21 f22 f23 f24 f25 f26 f27 f28 f29 fl:Addr} {e0 e1 e2 e3 e4 e5 e6 e7 e8 e9 e10 e11 e12 e13 e14 e15 e16 e17 e18 e19 e20 e21 e22 e23 e24 e25 e26 e27 e28 e29:FuncData} {oc od an sl kV dc pm cd ct} (X:K.In h) (G:h.Ns mainGlobals mg) (hfa:mg "law"=some (.ref fa))
 (i0:Kp K "is_whole" Fm f0 e0)
 (i1:Kp K "is_tuple_of" Fn f1 e1)
 (i2:Kp K "follows" Fo f2 e2)
 (i3:Kp K "lie_apart" Fp f3 e3)
 (i4:Kp K "row_of" Fq f4 e4)
 (i5:Kp K "letters_of_sorts" Fr f5 e5)
 (i6:Kp K "fellow" Fs f6 e6)
 (i7:Kp K "is_pair_of_spots" Ft f7 e7)
 (i8:Kp K "is_full" Fv f8 e8)
 (i9:Kp K "is_full_of" Fw f9 e9)
 (i10:Kp K "fellow_counts" yj f10 e10)
 (i11:Kp K "full_counts" yk f11 e11)
 (i12:Kp K "how_many_full" ym f12 e12)
 (i13:Kp K "ring_of" yn f13 e13)
 (i14:Kp K "breadth" yo f14 e14)
 (i15:Kp K "letter_ring" yp f15 e15)
 (i16:Kp K "cord_for" yq f16 e16)
 (i17:Kp K "made_for" yr f17 e17)
 (i18:Kp K "alone" yt f18 e18)
 (i19:Kp K "_law_store" yu f19 e19)
 (i20:Kp K "_law_take" yv f20 e20)
 (i21:Kp K "_law_whole" yw f21 e21)
 (i22:Kp K "_law_fellow" yz f22 e22)
 (i23:Kp K "_law_full" yA f23 e23)
 (i24:Kp K "_law_ways" yB f24 e24)
 (i25:Kp K "_law_fits" yC f25 e25)
 (i26:Kp K "_law_rings" yD f26 e26)
 (i27:Kp K "_law_breadths" yE f27 e27)
 (i28:Kp K "_law_sorts" yF f28 e28)
 (i29:Kp K "_law_right" yG f29 e29)
 (al:PySem.W.nsIn K mainGlobals "law"=some (some (.ref fl))) (ll:K.lookup fl=some ⟨oc,od,.func (PySem.W.fnOf "law" "law" (eI iD) (bg iD) (ag iD) .none kV dc pm an cd ct),sl⟩) (cl:PySem.W.codeIn K cd "law"=true) (kl:PySem.W.keepIn K (.ref fl)=true) (z:Bz K)
 {t_LETTERS:Tok} (y_LETTERS:PySem.W.nsIn K mainGlobals "LETTERS"=some (some (.str ("abcdefghijklmnopqrstuvwxyz":Str) t_LETTERS)))
 {t_NO_PARTNER:Tok} (y_NO_PARTNER:PySem.W.nsIn K mainGlobals "NO_PARTNER"=some (some (.int (-1) t_NO_PARTNER)))
 : ∃ fd:FuncData,(∀ (s:Shared) (v:Value),BindsTo s fd ⟨[v],[]⟩ [("script",v)])/\∀ base:Heap,K.In base->base.Ns mainGlobals mg->Ju l.prog w K mg base JV 7 fa fd ["script"] (Mir.gL K):=by
 cases hfa.symm.trans (PySem.W.mg_of X G al);have Z:Bn mg:=⟨Y4 X G z.1,Y4 X G z.2.1,Y4 X G z.2.2.1,Y4 X G z.2.2.2.1,Y4 X G z.2.2.2.2.1,Y4 X G z.2.2.2.2.2.1,Y4 X G z.2.2.2.2.2.2.1,Y4 X G z.2.2.2.2.2.2.2.1,Y4 X G z.2.2.2.2.2.2.2.2.1,Y4 X G z.2.2.2.2.2.2.2.2.2.1,Y4 X G z.2.2.2.2.2.2.2.2.2.2.1,Y4 X G z.2.2.2.2.2.2.2.2.2.2.2.1,Y4 X G z.2.2.2.2.2.2.2.2.2.2.2.2.1,Y4 X G z.2.2.2.2.2.2.2.2.2.2.2.2.2.1,Y4 X G z.2.2.2.2.2.2.2.2.2.2.2.2.2.2⟩;have e_LETTERS:=PySem.W.mg_of X G y_LETTERS;have e_NO_PARTNER:=PySem.W.mg_of X G y_NO_PARTNER;refine ⟨PySem.W.fnOf "law" "law" (eI iD) (bg iD) (ag iD) .none kV dc pm an cd ct,fun s v=>.of_eq rfl,fun base KB GB=>?_⟩;have G_x0:=Kx (P:=l.prog) (w:=w) (base:=base) X G i0 (Ij i0.2 Z ) (i0.2.binds (by walk_at "bn"));have G_x1:=Kx (P:=l.prog) (w:=w) (base:=base) X G i1 (Ik i1.2 Z ) (i1.2.binds (by walk_at "bn"));have G_x2:=Kx (P:=l.prog) (w:=w) (base:=base) X G i2 (Il i2.2 Z ) (i2.2.binds (by walk_at "bn"));have G_x4:=Kx (P:=l.prog) (w:=w) (base:=base) X G i4 (Io i4.2 Z e_NO_PARTNER) (i4.2.binds (by walk_at "bn"));have G_x5:=Kx (P:=l.prog) (w:=w) (base:=base) X G i5 (Ip i5.2 Z e_LETTERS) (i5.2.binds (by walk_at "bn"));have G_x6:=Kx (P:=l.prog) (w:=w) (base:=base) X G i6 (Iq i6.2 Z e_LETTERS) (i6.2.binds (by walk_at "bn"));have G_x19:=Kx (P:=l.prog) (w:=w) (base:=base) X G i19 (FG i19.2 Z ) (i19.2.binds (by walk_at "bn"));have G_x20:=Kx (P:=l.prog) (w:=w) (base:=base) X G i20 (FH i20.2 Z ) (i20.2.binds (by walk_at "bn"));have G_x21:=Kx (P:=l.prog) (w:=w) (base:=base) X G i21 (FK i21.2 Z ) (i21.2.binds (by walk_at "bn"));have G_x22:=Kx (P:=l.prog) (w:=w) (base:=base) X G i22 (FL i22.2 Z ) (i22.2.binds (by walk_at "bn"));have G_x26:=Kx (P:=l.prog) (w:=w) (base:=base) X G i26 (FS i26.2 Z ) (i26.2.binds (by walk_at "bn"));have G_x3:=Kx (P:=l.prog) (w:=w) (base:=base) X G i3 (Im i3.2 Z G_x2) (i3.2.binds (by walk_at "bn"));have G_x7:=Kx (P:=l.prog) (w:=w) (base:=base) X G i7 (Ir i7.2 Z G_x0 G_x1) (i7.2.binds (by walk_at "bn"));have G_x10:=Kx (P:=l.prog) (w:=w) (base:=base) X G i10 (Fx i10.2 Z G_x6) (i10.2.binds (by walk_at "bn"));have G_x13:=Kx (P:=l.prog) (w:=w) (base:=base) X G i13 (FA i13.2 Z G_x4 e_NO_PARTNER) (i13.2.binds (by walk_at "bn"));have G_x15:=Kx (P:=l.prog) (w:=w) (base:=base) X G i15 (FC i15.2 Z G_x6) (i15.2.binds (by walk_at "bn"));have G_x23:=Kx (P:=l.prog) (w:=w) (base:=base) X G i23 (FM i23.2 Z G_x20) (i23.2.binds (by walk_at "bn"));have G_x24:=Kx (P:=l.prog) (w:=w) (base:=base) X G i24 (FO i24.2 Z G_x22) (i24.2.binds (by walk_at "bn"));have G_x25:=Kx (P:=l.prog) (w:=w) (base:=base) X G i25 (FQ i25.2 Z G_x21 G_x22) (i25.2.binds (by walk_at "bn"));have G_x27:=Kx (P:=l.prog) (w:=w) (base:=base) X G i27 (FT i27.2 Z G_x26) (i27.2.binds (by walk_at "bn"));have G_x28:=Kx (P:=l.prog) (w:=w) (base:=base) X G i28 (FU i28.2 Z G_x20) (i28.2.binds (by walk_at "bn"));have G_x8:=Kx (P:=l.prog) (w:=w) (base:=base) X G i8 (Iu i8.2 Z G_x3 G_x7) (i8.2.binds (by walk_at "bn"));have G_x11:=Kx (P:=l.prog) (w:=w) (base:=base) X G i11 (Fy i11.2 Z G_x10) (i11.2.binds (by walk_at "bn"));have G_x14:=Kx (P:=l.prog) (w:=w) (base:=base) X G i14 (FB i14.2 Z G_x13) (i14.2.binds (by walk_at "bn"));have G_x16:=Kx (P:=l.prog) (w:=w) (base:=base) X G i16 (FD i16.2 Z G_x5 G_x13 G_x15) (i16.2.binds (by walk_at "bn"));have G_x9:=Kx (P:=l.prog) (w:=w) (base:=base) X G i9 (Iv i9.2 Z G_x6 G_x8) (i9.2.binds (by walk_at "bn"));have G_x12:=Kx (P:=l.prog) (w:=w) (base:=base) X G i12 (Fz i12.2 Z G_x11) (i12.2.binds (by walk_at "bn"));have G_x17:=Kx (P:=l.prog) (w:=w) (base:=base) X G i17 (FE i17.2 Z G_x14 G_x16) (i17.2.binds (by walk_at "bn"));have G_x18:=Kx (P:=l.prog) (w:=w) (base:=base) X G i18 (FF i18.2 Z G_x9 G_x12) (i18.2.binds (by walk_at "bn"));have G_x29:=Kx (P:=l.prog) (w:=w) (base:=base) X G i29 (FV i29.2 Z G_x17 G_x18 G_x24 G_x25 G_x27) (i29.2.binds (by walk_at "bn"));exact FW (vj ll cl kl) Z G_x19 G_x20 G_x23 G_x27 G_x28 G_x29 Mir.yi
theorem FY {K:PySem.W.Frag} {H:Hp} {a:Addr} {ns:List Int} (hO:L2.yZ H) (h:J0 K H a (ns.map V.int)):Mir.Kf K H a ns:=by
 rcases h with (h | h) | h
 ·rcases hO a with z | ⟨o,xs,z⟩
  ·rw [h] at z; cases z
  ·rw [h] at z; cases z
 ·exact .inl h
 ·exact .inr h
theorem Jf {l:PySem.W.OpenLaw} {q:Program} {loose:List Str} {XP:(Str->Option Value)->Heap->Prop} {YP:World->Heap->Prop} {d:DefRec} {K:Params->PySem.W.Frag} (hn:l.most=some 63) (hdf:d.params.defaults=[])
 (hY:∀ (w:World) (h:Heap),YP w h->(K w.params).In h)
 (F:∀ (w:World) (mg:Str->Option Value) (fa:Addr) (h:Heap),(K w.params).In h->h.Ns mainGlobals mg->mg d.name=some (.ref fa) ->
  ∃ fd:FuncData,(∀ (s:Shared) (u:Value),BindsTo s fd ⟨[u],[]⟩ [("script",u)])/\∀ base:Heap,(K w.params).In base->base.Ns mainGlobals mg->Ju l.prog w (K w.params) mg base JV 7 fa fd ["script"] (Mir.gL (K w.params))) :
 PySem.W.WalkO q loose XP YP l.row.toRowW d [] (fun f vs=>PySem.call f vs):=
 L2.y0 (n:=63) (k:=7) (x:="script") (CX:=fun _=>JV) (sp:=fun w=>Mir.gL (K w.params)) hn (by decide) hdf ⟨rfl,by decide,by decide,rfl⟩ hY F (fun _ _ a ns hl hO hS=>⟨a,ns,rfl,FY hO hS,hl,fun _=>rfl⟩) fun _ _ _ _ _ z=>z
end My
open PySem PySem.W PyProof.Rows
local macro_rules | `(tactic| walk_at "fe")=>`(tactic| exact ⟨by k_is,L2.vj (by k_is) (by k_is) (by k_is)⟩)
set_option maxRecDepth 100000 in
set_option maxHeartbeats 0 in
theorem PySem.Challenge.cw_hoopcord_k62_whole_cords_made_holds : PySem.Challenge.rw_hoopcord_k62_whole_cords_made.Holds := by
 refine tp ?_
 k_fill
 refine My.Jf (l:=PySem.Challenge.rw_hoopcord_k62_whole_cords_made) rfl rfl (fun w h Y=>PySem.W.kIn_of Y) ?F
 case F=>
  intro w mg fa h KX G hmg;refine' My.FX KX G hmg ?i0 ?i1 ?i2 ?i3 ?i4 ?i5 ?i6 ?i7 ?i8 ?i9 ?i10 ?i11 ?i12 ?i13 ?i14 ?i15 ?i16 ?i17 ?i18 ?i19 ?i20 ?i21 ?i22 ?i23 ?i24 ?i25 ?i26 ?i27 ?i28 ?i29 ?al ?ll ?cl ?kl ?z ?y_LETTERS ?y_NO_PARTNER
  (case i0=>walk_at "fe"); (case i1=>walk_at "fe"); (case i2=>walk_at "fe"); (case i3=>walk_at "fe"); (case i4=>walk_at "fe"); (case i5=>walk_at "fe"); (case i6=>walk_at "fe"); (case i7=>walk_at "fe"); (case i8=>walk_at "fe"); (case i9=>walk_at "fe"); (case i10=>walk_at "fe"); (case i11=>walk_at "fe"); (case i12=>walk_at "fe"); (case i13=>walk_at "fe"); (case i14=>walk_at "fe"); (case i15=>walk_at "fe"); (case i16=>walk_at "fe"); (case i17=>walk_at "fe"); (case i18=>walk_at "fe"); (case i19=>walk_at "fe"); (case i20=>walk_at "fe"); (case i21=>walk_at "fe"); (case i22=>walk_at "fe"); (case i23=>walk_at "fe"); (case i24=>walk_at "fe"); (case i25=>walk_at "fe"); (case i26=>walk_at "fe"); (case i27=>walk_at "fe"); (case i28=>walk_at "fe"); (case i29=>walk_at "fe"); (case al=>k_is); (case ll=>k_is); (case cl=>k_is); (case kl=>k_is); (case z=>exact ⟨by k_is,by k_is,by k_is,by k_is,by k_is,by k_is,by k_is,by k_is,by k_is,by k_is,by k_is,by k_is,by k_is,by k_is,by k_is⟩); (case y_LETTERS=>k_is); (case y_NO_PARTNER=>k_is)
