/- A script that comes in: a slice of steps. -/
import Derived.Test.YtojdpjpldokjmaaGreatDoorF31
import Derived.Test.YtojdpjpldokjmaaGreatDoorF33
import Derived.Test.YtojdpjpldokjmaaGreatDoorRows
set_option maxHeartbeats 60000000
set_option maxRecDepth 100000
namespace Go.Proofs.YtojdpjpldokjmaaGreatDoor
open Go.ChangeShapes Go.WideShapes Go.ChangeAt Go.RowKit
set_option linter.unusedSimpArgs false
set_option linter.unusedVariables false
theorem bulk_one {H:Type}(d:DataW H):1<=Rows.uptoBulk d:=by
 cases d with
 | lit l=>cases l <;> simp [Rows.uptoBulk]
 | nil=>simp [Rows.uptoBulk]
 | ptr d=>simp [Rows.uptoBulk]
 | slice elems spare=>simp [Rows.uptoBulk]
 | agg parts=>simp [Rows.uptoBulk]
 | iface t d=>simp [Rows.uptoBulk]
 | map entries=>simp [Rows.uptoBulk]
 | held h=>simp [Rows.uptoBulk]
theorem bulk_part {H:Type}{d:DataW H}{l:List (DataW H)}(h:d ∈ l):Rows.uptoBulk d<=Rows.uptoBulkAll l:=by
 induction l with
 | nil=>cases h
 | cons x r ih =>
  simp only [Rows.uptoBulkAll]
  cases List.mem_cons.1 h with
  | inl e=>subst e;omega
  | inr e=>have:=ih e;omega
theorem bulk_len {H:Type}(l:List (DataW H)):l.length<=Rows.uptoBulkAll l:=by
 induction l with
 | nil=>simp [Rows.uptoBulkAll]
 | cons x r ih=>have:=bulk_one x;simp only [Rows.uptoBulkAll,List.length_cons];omega
theorem c_op : Tryz.prog.cellsOf 74=4:=by kernel_rfl
theorem c_text : Tryz.prog.cellsOf 9=1:=by kernel_rfl
theorem add_add (a:Addr)(m j:Nat):(a.add m).add j=a.add (m+j):=by
 unfold Addr.add
 by_cases hj:j=0
 ·subst hj;simp
 ·rw [if_neg hj,if_neg (show ¬ m+j=0 by omega)]
  by_cases hm:m=0
  ·subst hm;simp
  ·rw [if_neg hm];simp;omega
def opOf {H:Type}(y:DataW H × List MemPlace):Opx:=match y.1 with
 | .agg [.lit (.int _ k),.lit (.int _ d),.lit (.int _ n),.lit (.string bs)]=>⟨k,d,n,bs⟩
 | _=>⟨0,0,0,[]⟩
theorem op_of {H:Type}{enc:TypeId × Value->H}{W:World}{a:Addr}{m fuel:Nat}{y:DataW H × List MemPlace}(h:(W.cells? 0 (a.add m) 4).bind (DataW.trod enc Tryz.prog W 0 (fun _=>true) true fuel 74)=some y) :
 (W.cell? (a.add m)=some (.int .i64 (opOf y).kind)/\W.cell? (a.add (m+1))=some (.int .i64 (opOf y).db)/\W.cell? (a.add (m+2))=some (.int .i64 (opOf y).n)/\W.cell? (a.add (m+3))=some (.string ⟨(opOf y).s.toArray⟩))/\Pl.in64 (opOf y).db/\(opOf y).s.length<=Rows.uptoBulk y.1:=by
 rw [Option.bind_eq_some_iff] at h
 obtain ⟨cs,hcs,hy⟩:=h
 obtain ⟨_,hl,hc⟩:=World.cells?_some hcs
 obtain ⟨xs,n,rfl,rfl,hcl,hxl,hf⟩:=DataW.trod_struct Tryz.underlying74 hy
 have f0:DataW.trod enc Tryz.prog W 0 (fun _=>true) true n 3 ((cs.drop 0).take (Tryz.prog.cellsOf 3))=xs[0]?:=hf 0 _ rfl
 have f1:DataW.trod enc Tryz.prog W 0 (fun _=>true) true n 3 ((cs.drop 1).take (Tryz.prog.cellsOf 3))=xs[1]?:=hf 1 _ rfl
 have f2:DataW.trod enc Tryz.prog W 0 (fun _=>true) true n 3 ((cs.drop 2).take (Tryz.prog.cellsOf 3))=xs[2]?:=hf 2 _ rfl
 have f3:DataW.trod enc Tryz.prog W 0 (fun _=>true) true n 9 ((cs.drop 3).take (Tryz.prog.cellsOf 9))=xs[3]?:=hf 3 _ rfl
 rw [c_int] at f0 f1 f2
 rw [c_text] at f3
 have hx4:xs.length=4:=hxl
 have h0:=hc 0 (by omega)
 have h1:=hc 1 (by omega)
 have h2:=hc 2 (by omega)
 have h3:=hc 3 (by omega)
 rw [add_add] at h0 h1 h2 h3
 clear hf hc hcs hy hxl hcl
 match xs,hx4 with
 | [x0,x1,x2,x3],_ =>
  match cs,hl with
  | [c0,c1,c2,c3],_ =>
   obtain ⟨k0,e0,rfl,_⟩:=DataW.trod_int Tryz.underlying3 f0
   obtain ⟨k1,e1,rfl,w1⟩:=DataW.trod_int Tryz.underlying3 f1
   obtain ⟨k2,e2,rfl,_⟩:=DataW.trod_int Tryz.underlying3 f2
   obtain ⟨k3,e3,rfl,_⟩:=DataW.trod_string Tryz.underlying9 f3
   simp at e0 e1 e2 e3 h0 h1 h2 h3
   subst e0 e1 e2 e3
   refine ⟨⟨by simpa [opOf] using h0,by simpa [opOf] using h1,by simpa [opOf] using h2,by simpa [opOf] using h3⟩,by simpa [opOf] using in64_wf w1,?_⟩
   simp [opOf,Rows.uptoBulk,Rows.uptoBulkAll]
   omega
theorem ops_of {H:Type}{enc:TypeId × Value->H}{W:World}{base:Nat}{v:Value}{d:DataW H}{p:List MemPlace}(hv:Value.okWide Tryz.prog W .any base 22 v)(h:DataW.Trod enc Tryz.prog W 0 (fun _=>true) true 22 v d p)(hb:Rows.uptoBulk d<=1048576):∃ ops:List Opx,OpsAt W ops v/\ops.length<=1048576/\∀ x ∈ ops,Pl.in64 x.db/\x.s.length<=1048576:=by
 obtain ⟨a0,n0,c0,rfl⟩:=okWide_slice Tryz.underlying22 hv
 obtain ⟨fuel,h⟩:=h
 rcases DataW.trod_slice Tryz.underlying22 h with ⟨h1,_⟩|⟨a,len,cap,elems,rest,n,_,h1,h2,_,_,_,hlen,hel,_,_⟩
 ·simp [Value.cells] at h1
  obtain ⟨rfl,rfl,rfl⟩:=h1
  exact ⟨[],⟨none,0,rfl,fun hn=>absurd rfl hn⟩,by simp,fun x hx=>by simp at hx⟩
 ·simp [Value.cells] at h1
  obtain ⟨rfl,rfl,rfl⟩:=h1
  have hd:d=.slice (elems.map (·.1)) (rest.map (·.1)):=congrArg Prod.fst h2
  subst hd
  have hbb:Rows.uptoBulkAll (elems.map (·.1))<=1048576:=by simp only [Rows.uptoBulk] at hb;omega
  have hll:=bulk_len (elems.map (·.1))
  rw [List.length_map] at hll
  rw [c_op] at hel
  have each:∀ (i:Nat) y,elems[i]?=some y->_:=fun i y hy=>op_of (enc:=enc) (W:=W) (a:=a) (m:=i*4) (fuel:=n) (y:=y) (by rw [hel i (by rw [<- hlen];exact getElem?_lt hy)];exact hy)
  refine ⟨elems.map opOf,⟨some a,c0,by rw [List.length_map,hlen],fun hn=>⟨a,rfl,?_,fun i x hx=>?_⟩⟩,by rw [List.length_map];omega,fun x hx=>?_⟩
  ·cases elems with
   | nil=>simp at hn
   | cons y r =>
    have:=(each 0 y rfl).1.1
    rw [Nat.zero_mul] at this
    have h3:=lt_of_cell' this
    rwa [block_add] at h3
  ·rw [List.getElem?_map,Option.map_eq_some_iff] at hx
   obtain ⟨y,hy,rfl⟩:=hx
   exact (each i y hy).1
  ·obtain ⟨y,hy,rfl⟩:=List.mem_map.1 hx
   obtain ⟨i,hi⟩:=List.getElem?_of_mem hy
   have h3:=each i y hi
   have h4:=bulk_part (List.mem_map_of_mem (f:=(·.1)) hy)
   exact ⟨h3.2.1,by have:=h3.2.2;omega⟩
end Go.Proofs.YtojdpjpldokjmaaGreatDoor
