import Derived.Shelf.Strings.Prefix
import Derived.Shelf.Strconv.AppendIntPublic10
import Derived.Shelf.Strings.Replace
import Derived.Shelf.Small.Strs
import Derived.Shelf.Strings.OnBuilder
import Derived.Shelf.Strconv.AtoiAll
import Derived.Shelf.Strconv.Itoa3
import Derived.Test.YtojdpjpldokjmaaGreatDoorRows
import Derived.Lib.LaidU8
import Derived.ChangeSlices
import Derived.Carry
import Derived.Shelf.Vars
import Derived.Handed
import Derived.Laws.Externs
import Derived.Lib.Replace
import Derived.Lib.CountLaws
import Derived.Lib.Join
import Derived.Shelf.Strings.SlTrimAscii
import Derived.Test.YtojdpjpldokjmaaGreatDoorC29
import Derived.Test.YtojdpjpldokjmaaGreatDoorC27
import Derived.Test.YtojdpjpldokjmaaGreatDoorC28
set_option maxHeartbeats 0
set_option maxRecDepth 100000
set_option linter.all false
namespace Go.Proofs.YtojdpjpldokjmaaGreatDoor
open Go.ChangeAt Go.ChangeShapes Go.Deep Go.RowKit Go.WideShapes Proofs.Tryz Tryz
open Go renaming World->Za,Value->Zb,Calls->Zc,TypeId->Zf
open RowKit renaming Below->Zd
variable{i k n:Nat}{A u z:Value}{W w:World}{a:Int}{X:YX}
def Sx:Shelf.Ren:=⟨λ|99=>206|106=>261|118=>274|119=>310|129=>301|137=>309|138=>180|143=>181|151=>242|152=>273|154=>119|155=>73|156=>71|158=>203|161=>142|165=>117|166=>37|167=>243|168=>275|169=>42|171=>118|172=>205|176=>231|195=>234|197=>182|203=>245|205=>314|206=>249|213=>298|217=>267|218=>235|219=>236|224=>269|225=>268|227=>197|228=>241|230=>244|231=>196|233=>198|235=>199|240=>70|241=>178|242=>311|243=>179|244=>247|245=>248|246=>233|247=>278|249=>262|260=>237|262=>277|265=>322|266=>305|267=>270|270=>276|274=>326|275=>327|276=>116|277=>232|278=>325|283=>263|284=>264|285=>265|286=>266|287=>313|288=>299|313=>312|314=>306|316=>246|317=>300|318=>302|319=>303|320=>304|321=>328|322=>329|337=>323|338=>324|n=>n,λ|31=>47|37=>83|46=>380|51=>407|53=>374|70=>84|72=>86|75=>89|76=>90|80=>52|85=>390|105=>295|107=>358|116=>310|117=>311|119=>381|124=>314|127=>145|138=>383|139=>384|143=>432|145=>434|146=>410|160=>428|162=>416|164=>233|167=>389|168=>392|171=>373|173=>377|175=>417|203=>414|206=>441|208=>443|210=>420|212=>406|213=>408|232=>438|233=>439|n=>n,λ|1=>2|13=>6|15=>7|16=>8|17=>5|18=>10|19=>11|n=>n⟩
def aaP:Lays.n169 prog Sx:=by constructor;all_goals (intros;kernel_rfl)
def aaN:Lays.n158 prog Sx:=by constructor;all_goals (intros;kernel_rfl)
def aaH:Lays.n156 prog Sx:=by constructor;all_goals (intros;kernel_rfl)
def aaO:Lays.n161 prog Sx:=by constructor;all_goals (intros;kernel_rfl)
def aaL:Lays.n106 prog Sx:=by constructor;all_goals (intros;kernel_rfl)
def aaI:LaysM.n171 prog Sx:=by constructor;constructor;all_goals (intros;kernel_rfl)
def aaK:LaysM.n316 prog Sx:=by constructor;constructor;all_goals (intros;kernel_rfl)
def aaG:LaysC.n172 prog Sx:=by constructor;constructor;constructor;all_goals (intros;kernel_rfl)
def aaJ:LaysM.n176 prog Sx:=by constructor;constructor;all_goals (intros;kernel_rfl)
def aaQ:Lays.n99 prog Sx:=by constructor;all_goals (intros;kernel_rfl)
def aaM:Lays.n155 prog Sx:=by constructor;all_goals (intros;kernel_rfl)
def aaF:Builder.Extra prog Sx:=by constructor;constructor;all_goals first|(intros;kernel_rfl)|decide
def Sj:DK:=⟨λB n i sv e w c d a hB g b=>Any.strconv_AppendInt_10 aaJ B n i c d sv e w a hB (by omega) b⟩
def Uf:vS:=λqs v base w e b a d c=>CK Sj e b a d c
def Ns:(prog.globals[1]?).map (·.type)=some 319:=by kernel_rfl
def Nr:(prog.globals[9]?).map (·.type)=some 437:=by kernel_rfl
def R0:(prog.globals[8]?).map (·.type)=some 89:=by kernel_rfl
def QZ: prog.cellsOf 9=1:=by kernel_rfl
def MR: prog.cellsOf 436=3:=by kernel_rfl
def UP:∃a,prog.underlying 89=some (.interface a):=⟨_,underlying89⟩
def S4:∃b,prog.underlying 436=some (.struct b)/\b.size=3/\∀(i:Nat)(f:Field),b[i]?=some f->prog.underlying f.type=some (.int .i64)/\f.offset=i/\prog.cellsOf f.type=1:=by
 refine⟨_,underlying436,rfl,λi f a=>?_⟩
 match i,a with
 |0,a=>simp at a;subst a;exact⟨by kernel_rfl,rfl,by kernel_rfl⟩
 |1,a=>simp at a;subst a;exact⟨by kernel_rfl,rfl,by kernel_rfl⟩
 |2,a=>simp at a;subst a;exact⟨by kernel_rfl,rfl,by kernel_rfl⟩
 |i+3,a=>simp at a
def Jy:(Rows.laid_rowmill_lexer_spellings:DataW Unit)=.agg ((List.range 51).map λk=>.lit<|.string<|bt k):=by rfl
def Rb(op:Nat):List Int:=if 2<=op then [((op+2:Nat):Int),cD op,eR op]else [0,0,0]
def Jp:(Rows.laid_rowmill_machine_rules:DataW Unit)=.agg ((List.range 19).map λop=>.agg<|(Rb op).map λz=>.lit<|.int .i64 z):=by rfl
def Rf{a:Y0}{v:Zb}(h:(a.drop k).take 1=[v]):a[k]?=some v:=by have:=Wd (·[0]?) h;simpa[V6,Xa]using this
def UK{a:Y0}(h:(a.drop k).take 3=[u,z,A]):a[k]?=some u/\a[k+1]?=some z/\a[k+2]?=some A:=by have b:=Wd (·[0]?) h;have c:=Wd (·[1]?) h;have d:=Wd (·[2]?) h;simp[V6,Xa]at b c d;exact⟨b,c,d⟩
def OK{n:String}{L:List (String×DataW Unit)}(h:laidMet prog L W)(j:(n,Rows.laid_rowmill_lexer_spellings)∈L)(l: prog.globalNamed n=some 1):iC W:=by
 obtain⟨g,t,w,e,p,i,o,r,hd⟩:=Lib.laidMet.reads h j;obtain rfl:=WD<|l.symm.trans i;obtain rfl:=WD<|Ns.symm.trans o;rw[Jy]at hd;intro k hk;obtain⟨x,d,q,a,b⟩:=Lib.array_elem underlying319 hd k hk;rw[QZ,Yp]at b;obtain⟨s,c,u,_⟩:=DataW.trod_string underlying9 b;simp[hk]at a;cases u;simp at a;rw[XF i r k];have:=Rf c;simp at this;rw[this]
 congr 2
 rw[a]
def GL{n:String}{L:List (String×DataW Unit)}(h:laidMet prog L W)(y:(n,Rows.laid_rowmill_machine_rules)∈L)(z: prog.globalNamed n=some 9):i4 W:=by obtain⟨g,t,C,r,p,j,A,o,hd⟩:=Lib.laidMet.reads h y;obtain rfl:=WD<|z.symm.trans j;obtain rfl:=WD<|Nr.symm.trans A;rw[Jp]at hd;intro op w u;obtain⟨D,d,q,i,e⟩:=Lib.array_elem underlying437 hd op (by omega);rw[MR]at e;simp[show op<19 by omega]at i;subst i;obtain⟨E,B,l,x⟩:=S4;have k:=Lib.ints_of_struct B x (by rw[l];exact MR) e;unfold Rb at k;rw[VG w]at k;obtain⟨a,b,c⟩:=UK k;rw[XF j o,XF j o,XF j o];simp at a b c;exact⟨a,b,c⟩
def RQ{n:String}{L:List (String×DataW Unit)}(h:laidMet prog L W)(d:(n,Rows.laid_strconv_ErrRange)∈L)(e: prog.globalNamed n=some 8):lJ W:=by obtain⟨g,t,k,b,p,c,i,j,hd⟩:=Lib.laidMet.reads h d;obtain rfl:=WD<|e.symm.trans c;obtain rfl:=WD<|R0.symm.trans i;unfold Rows.laid_strconv_ErrRange at hd;obtain⟨o,hi⟩:=UP;obtain⟨l,u,v,a,_⟩:=iface_of_trod hi hd;refine⟨u,v,?_⟩;rw[XF c j 0];have:=Wd (·[0]?) a;simpa using this
def R9:(prog.globals[5]?).map (·.type)=some 406:=by kernel_rfl
def TQ: prog.cellsOf 374=1:=by kernel_rfl
def TP: prog.cellsOf 406=20:=by kernel_rfl
def Oi:(Rows.laid_internal_strconv_uint64pow10:DataW Unit)=Lib.tabData .u64 Lib.pow10Tab:=by rfl
def Oj{L:List (String×DataW Unit)}(h:laidMet prog L W)(c:("internal/strconv.uint64pow10",Rows.laid_internal_strconv_uint64pow10)∈L):kO W:=by obtain⟨g,t,i,a,p,b,d,e,hd⟩:=Lib.laidMet.reads h c;obtain rfl:=WD<|BC.symm.trans b;obtain rfl:=WD<|R9.symm.trans d;rw[Oi]at hd;unfold kO Lib.TabIs;rw[e,<-Lib.cells_of_tab underlying406 underlying374 TQ TP hd]
def Nn{c d e:String}{L:List (String×DataW Unit)}(h:laidMet prog L W)(g:(c,Rows.laid_rowmill_lexer_spellings)∈L)(k: prog.globalNamed c=some 1)(a:(d,Rows.laid_rowmill_machine_rules)∈L)(b: prog.globalNamed d=some 9)(i:(e,Rows.laid_strconv_ErrRange)∈L)(l: prog.globalNamed e=some 8)(j:("internal/strconv.uint64pow10",Rows.laid_internal_strconv_uint64pow10)∈L):rh W:=
 ⟨OK h g k,RQ h i l,GL h a b,lt_of_cell (GL h a b 2 (by omega)<|by omega).1,Oj h j⟩
def laidOut:laidOutB prog=true:=by as_aux_lemma=>kernel_rfl
def Vk:ownKnob prog.godebug=none:=by kernel_rfl
def TO: prog.cellsOf 3=1:=by kernel_rfl
def PS(h:(Lit.int .i64 a).wf=true):bK a:=by simpa[bK,Lit.wf,IntKind.min,IntKind.max,IntKind.signed,IntKind.bits]using h
def Gk{p:Addr}{v:Zb}(h:w.cell? p=some v):p.block<w.heap.size:=by
 rcases Wx p.block w.heap.size with h1|h1
 .exact h1
 exfalso;unfold Za.cell? at h;rw[Xf h1]at h;simp at h
def MQ{H:Type}(d:DataW H):1<=Rows.uptoBulk d:=by
 cases d with
 |lit l=>cases l<;>simp[Rows.uptoBulk]
 |nil=>simp[Rows.uptoBulk]
 |ptr d=>simp[Rows.uptoBulk]
 |slice elems spare=>simp[Rows.uptoBulk]
 |agg parts=>simp[Rows.uptoBulk]
 |iface t d=>simp[Rows.uptoBulk]
 |map entries=>simp[Rows.uptoBulk]
 |held h=>simp[Rows.uptoBulk]
def KY{H:Type}{d:DataW H}{l:List (DataW H)}(h:d∈l):Rows.uptoBulk d<=Rows.uptoBulkAll l:=by
 induction l with
 |nil=>cases h
 |cons x r ih=>
  simp only[Rows.uptoBulkAll];cases V8.1 h with
  |inl e=>subst e;omega
  |inr e=>have:=ih e;omega
def MP{H:Type}(l:List<|DataW H):l.length<=Rows.uptoBulkAll l:=by
 induction l with
 |nil=>simp[Rows.uptoBulkAll]
 |cons x r ih=>have:=MQ x;simp only[Rows.uptoBulkAll,Wk];omega
def Vb: prog.cellsOf 74=4:=by kernel_rfl
def Ry: prog.cellsOf 9=1:=by kernel_rfl
def add_add(a:Addr)(m j:Nat):(a.add m).add j=a.add (m+j):=by
 unfold Addr.add;by_cases b:j=0
 .subst b;simp
 rw[VF b,VF (show ¬m+j=0 by omega)];by_cases c:m=0
 .subst c;simp
 rw[VF c];simp;omega
def yr{H:Type}(y:DataW H×List MemPlace):Ta:=match y.1 with
 |.agg [.lit<|.int _ k,.lit<|.int _ d,.lit<|.int _ n,.lit<|.string bs]=>⟨k,d,n,bs⟩
 |_=>⟨0,0,0,[]⟩
def Uk{H:Type}{enc:Zf×Zb->H}{W:Za}{a:Addr}{m fuel:Nat}{y:DataW H×List MemPlace}(h:(W.cells? 0 (a.add m) 4).bind (DataW.trod enc prog W 0 (λ_=>true) true fuel 74)=some y):
 (W.cell? (a.add m)=some (.int .i64 (yr y).aC)/\W.cell? (a.add<|m+1)=some (.int .i64 (yr y).a)/\W.cell? (a.add<|m+2)=some (.int .i64 (yr y).n)/\W.cell? (a.add<|m+3)=some (.string ⟨(yr y).s.toArray⟩))/\bK (yr y).a/\(yr y).s.length<=Rows.uptoBulk y.1:=by
 rw[Option.bind_eq_some_iff]at h;obtain⟨c,l,D⟩:=h;obtain⟨_,C,d⟩:=Za.cells?_some l;obtain⟨b,n,rfl,rfl,B,p,e⟩:=DataW.trod_struct underlying74 D;have w:DataW.trod enc prog W 0 (λ_=>true) true n 3 ((c.drop 0).take<|prog.cellsOf 3)=b[0]?:=e 0 _ rfl;have x:DataW.trod enc prog W 0 (λ_=>true) true n 3 ((c.drop 1).take<|prog.cellsOf 3)=b[1]?:=e 1 _ rfl;have z:DataW.trod enc prog W 0 (λ_=>true) true n 3 ((c.drop 2).take<|prog.cellsOf 3)=b[2]?:=e 2 _ rfl;have A:DataW.trod enc prog W 0 (λ_=>true) true n 9 ((c.drop 3).take<|prog.cellsOf 9)=b[3]?:=e 3 _ rfl;rw[TO]at w x z;rw[Ry]at A;have o:b.length=4:=p;have g:=d 0 (by omega);have i:=d 1 (by omega);have j:=d 2 (by omega);have k:=d 3 (by omega);rw[add_add]at g i j k
 match b,o with
 |[x0,x1,x2,x3],_=>
  match c,C with
  |[c0,c1,c2,c3],_=>
   obtain⟨F,q,rfl,_⟩:=DataW.trod_int underlying3 w;obtain⟨G,r,rfl,E⟩:=DataW.trod_int underlying3 x;obtain⟨I,t,rfl,_⟩:=DataW.trod_int underlying3 z;obtain⟨J,u,rfl,_⟩:=DataW.trod_string underlying9 A;simp at q r t u g i j k;subst q r t u;refine⟨⟨by simpa[yr]using g,by simpa[yr]using i,by simpa[yr]using j,by simpa[yr]using k⟩,by simpa[yr]using PS E,?_⟩;simp[yr,Rows.uptoBulk,Rows.uptoBulkAll];omega
def SA{H:Type}{j:Zf×Zb->H}{v:Zb}{d:DataW H}{p:List MemPlace}(D:Zb.okWide prog W .any k 22 v)(h:DataW.Trod j prog W 0 (λ_=>true) true 22 v d p)(A:Rows.uptoBulk d<=1048576):∃g:List Ta,CN W g v/\g.length<=1048576/\∀x∈g,bK x.a/\x.s.length<=1048576:=by
 obtain⟨E,F,c0,rfl⟩:=okWide_slice underlying22 D;obtain⟨u,h⟩:=h;rcases DataW.trod_slice underlying22 h with⟨l,_⟩|⟨a,len,cap,b,rest,n,_,l,w,_,_,_,c,o,_,_⟩
 .simp[Zb.cells]at l;obtain⟨rfl,rfl,rfl⟩:=l;exact⟨[],⟨none,0,rfl,λe=>absurd rfl e⟩,by simp,λx i=>by simp at i⟩
 simp[Zb.cells]at l;obtain⟨rfl,rfl,rfl⟩:=l;have hd:d=.slice (b.map (·.1)) (rest.map (·.1)):=Wd Prod.fst w;subst hd;have B:Rows.uptoBulkAll (b.map (·.1))<=1048576:=by simp only[Rows.uptoBulk]at A;omega
 have t:=MP<|b.map (·.1);rw[VL]at t;rw[Vb]at o;have each:∀(i:Nat) y,b[i]?=some y->_:=λi y e=>Uk (enc:=j) (W:=W) (a:=a) (m:=i*4) (fuel:=n) (y:=y) (by rw[o i (by rw[<-c];exact bw e)];exact e);refine⟨b.map yr,⟨some a,c0,by rw[VL,c],λC=>⟨a,rfl,?_,λi x q=>?_⟩⟩,by rw[VL];omega,λx q=>?_⟩
 .cases b with
  |nil=>simp at C
  |cons y r=>
   have:=(each 0 y rfl).1.1;rw[Yy]at this;have z:=Gk this;rwa[block_add]at z
 .rw[VO,Xh]at q;obtain⟨y,e,rfl⟩:=q;exact(each i y e).1
 obtain⟨y,e,rfl⟩:=VV.1 q;obtain⟨i,hi⟩:=List.getElem?_of_mem e;have r:=each i y hi;have z:=KY<|V0 (f:=(·.1)) e;exact⟨r.2.1,by have:=r.2.2;omega⟩
def Nq:(prog.globals[0]?).map (·.type)=some 142:=by kernel_rfl
def I6:(Rows.laid_rowmill_rowmill_typeNames:DataW Unit)=.agg (([[],[73,78,84],[84,69,88,84],[66,79,79,76]]:List YX).map λx=>.lit<|.string x):=by rfl
def NV{n:String}{L:List (String×DataW Unit)}(h:laidMet prog L W)(o:(n,Rows.laid_rowmill_rowmill_typeNames)∈L)(r: prog.globalNamed n=some 0):JZ W:=by
 obtain⟨g,t,y,e,p,l,u,w,hd⟩:=Lib.laidMet.reads h o;obtain rfl:=WD<|r.symm.trans l;obtain rfl:=WD<|Nq.symm.trans u;rw[I6]at hd;intro k A B;obtain⟨z,d,q,b,a⟩:=Lib.array_elem underlying142 hd k (by omega);rw[QZ,Yp]at a;obtain⟨s,c,x,_⟩:=DataW.trod_string underlying9 a;rw[XF l w k];have i:=Rf c;cases x;have j:some s.data.toList=some (iy (k:Nat)):=by
  obtain rfl|rfl|rfl:k=1\/k=2\/k=3:=by omega
  all_goals
   simp at b;rw[<-b];rfl
 simp at i;rw[i];simp at j;rw[<-j]
def Ss(h:W.ShapedOpen prog):Mw W:=
 cell_of_shapedOpen_int (t:=3) (zero:=#[.int .i64 0]) h (of_decide_eq_true<|by as_aux_lemma=>kernel_rfl) (by as_aux_lemma=>kernel_rfl) rfl (by as_aux_lemma=>kernel_rfl) (by as_aux_lemma=>kernel_rfl) underlying3
variable {H:Type} {a:Zf×Zb->H}
def Re:(prog.info? 86).map (·.size)=some 2:=by kernel_rfl
def T_:liesAt prog prog.depth 86 (2 / prog.cellsOf 86) 0 86 1=true:=by kernel_rfl
def K3(d:n<w.heap.size)(b:w.cell? ⟨n,0,none⟩=some (qP n)):
 Zc prog 70 #[qP n] w (qE (.tuple #[]) w):=by
 obtain⟨j,a,_⟩:=Xh.1 Re;have c:=YG w ⟨n,0,none⟩ underlying84 a;go_in;go_wp2
 go_end0
 exact⟨rfl,rfl⟩
def Ic(o:n<w.heap.size)(h:w.cell? ⟨n,0,none⟩=some (.pointer none))(a:w.shape? n=some (86,2))(d:w.frozen? ⟨n,0,none⟩=false):
 Zc prog 70 #[qP n] w λe g=>e=.returned (.tuple #[])/\g=w.setCell ⟨n,0,none⟩ (qP n):=by
 obtain⟨j,b,c⟩:=Xh.1 Re;have l:=λW=>YG (P:=prog) W ⟨n,0,none⟩ underlying84 b;have i:=Lib.run_to_unsafe w ⟨n,0,none⟩ underlying84 underlying233 b (by rw[c];decide) a<|Nat.zero_lt_succ 1;have k:=Lib.run_from_unsafe w ⟨n,0,none⟩ underlying233 underlying84 b a T_;go_in;go_wp2;rw[run_callFunc_extern func116 (by kernel_rfl) (by kernel_rfl) (by kernel_rfl) (e:=Extern.AbiNoEscape.same)<|by kernel_rfl];rw[Lib.run_noEscape];simp only[Result.andThen];rw[Oper.upon_value];go_wp2
 go_end0
 exact⟨rfl,rfl⟩
def RF{b:Y0}(h:Lib.IsBuilder 86 5 n k b w):
 Zc prog 70 #[qP k] w λe a=>e=.returned (.tuple #[])/\(Lib.BuilderAt 86 5 n k (qP k) b a/\Zd n w a):=by
 rcases h with h|h
 .refine(Ic h.lt h.cell0 h.shape h.frozen0).mono ?_;rintro e a⟨rfl,rfl⟩;exact⟨rfl,h.used _,(VM n w).setCell (p:=⟨k,0,none⟩) h.1 _⟩
 .refine qS (K3 h.lt h.cell0) ?_;exact⟨rfl,h,VM n _⟩
def S9{j:Y0}(s:Y9)(h:Lib.IsBuilder 86 5 n i j w)(z:j.length+s.size<=140737488355328)(J:n<=w.heap.size):
 Zc prog 37 #[qP i,.string s] w λe F=>∃v,e=.returned v/\Lib.IsBuilder 86 5 n i (j++Lib.strCells s) F/\Zd n w F:=by
 obtain⟨K,hi,t,u,x⟩:=V5 infoByte;have G:=Z<|RF h;go_in;go_wp2_with fail;apply qR G;rintro L⟨I,l⟩;obtain⟨hB,v,g,b,r⟩:=I;have c1:L.cell? ⟨i,1,none⟩=some v:=by rw[bC g];rfl
 have q:=lB g;obtain⟨C,E,D,rfl⟩:=aF b;have O:=l.size;go_wp2_with (at_builtin;refine X9 _ rfl (.tmp 12) (.tmp 13) 83 9 rfl n 5 K underlying83 underlying9 hi t u x _ _ _ rfl b s rfl ?c3 ?c4 ?c5 ?_)
 case c3=>unfold maxLen;omega
 case c4=>omega
 case c5=>omega
 intro P o c a _;have d:o.heap[i]?=some (.cells #[qP i,.slice C E D] 86 (0,0)):=by rw[a.block i q λe=>r e.symm];exact g
 have M:o.cell? ⟨i,1,none⟩=some (.slice C E D):=by rw[bC d];rfl
 have N:o.frozen? ⟨i,1,none⟩=false:=Lib.frozen_of_heap d 1;have A:=lB d;obtain⟨y,B,cap,rfl⟩:=aF c;have H:Hid<|Lib.IsBuilder 86 5 n i (j++Lib.strCells s) (o.setCell ⟨i,1,none⟩<|.slice y B cap)/\Zd n w (o.setCell ⟨i,1,none⟩<|.slice y B cap):=
  ⟨.inr<|Lib.BuilderAt.put (T:=86) (e:=5) hB d (bs':=j++Lib.strCells s) (by simpa[Lib.strCells_length]using c)<|by decide,(l.grown a (by omega) λk hk=>(b.lt k hk).1).setCell (p:=⟨i,1,none⟩) hB _⟩
 go_wp2_with fail;refine VI (v:=.tuple #[qI s.size,.nilIface]) (by simp[results,results37,go_sem]) rfl ⟨_,rfl,H⟩
def zk:∀s:YX,(Lib.index s [39]=-1->cT s=s)/\∀i:Nat,Lib.index s [39]=i->i<s.length/\cT s=s.take i++[39,39]++cT (s.drop<|i+1)
 |[]=>⟨λ_=>rfl,λi h=>by simp[Lib.index]at h⟩
 |c::r=>by
  obtain⟨g,k⟩:=zk r;have n:=Lib.index_ge r [39];by_cases b:c=39
  .subst b;refine⟨λh=>by simp[Lib.index]at h,λi h=>?_⟩;have:i=0:=by simp[Lib.index]at h;omega
   subst this;simp[cT]
  have a:¬(39:UInt8)=c:=λe=>b e.symm;by_cases d:Lib.index r [39]=-1
  .refine⟨λ_=>by rw[cT,VF b,g d],λi h=>?_⟩;simp[Lib.index,a,d]at h
  refine⟨λh=>?_,λi h=>?_⟩
  .simp[Lib.index,a,d]at h;omega
  simp[Lib.index,a,d]at h;obtain⟨j,rfl⟩:∃j,i=j+1:=⟨i-1,by omega⟩;obtain⟨o,l⟩:=k j (by omega);refine⟨by simp;omega,?_⟩;rw[cT,VF b,l];simp
def uJ:∀(n:Nat)(s:YX),s.length<=n->Lib.replaceK [39] [39,39] (Lib.count s [39]) s=cT s
 |n,s,hn=>by
  obtain⟨b,c⟩:=zk s;have e:=Lib.index_ge s [39];by_cases a:Lib.index s [39]=-1
  .rw[Lib.count_miss a,b a];rfl
  obtain⟨i,hi⟩:∃i:Nat,Lib.index s [39]=i:=⟨(Lib.index s [39]).toNat,by omega⟩;obtain⟨g,d⟩:=c i hi;rw[Lib.count_hit (by simp) hi,aaE,Lib.replaceK_hit _ _ _ _ i hi,d]
  match n with
  |0=>omega
  |n+1=>
   rw[show i+([39]:YX).length=i+1 from rfl,uJ n (s.drop<|i+1) (by simp;omega)]
def yu(s:YX):Lib.replaceAll s [39] [39,39]=cT s:=by unfold Lib.replaceAll Lib.replace Lib.replaceNum;rw[VF<|by decide,VG<|.inl<|by decide];exact uJ _ s<|VR _
def Bc:∀a:List YX,Lib.join a [44,32]=dG [44,32] a
 |[]=>rfl
 |[x]=>by rw[Lib.join_one];rfl
 |x::y::r=>by have h:=Bc<|y::r;rw[Lib.join_cons]at h ⊢;rw[dG,<-h];simp[Lib.joinTail]
def IA{a:Array Obj}:Zd w.heap.size w<|Go.Sort.grow (w.drewN k) a:=
 ⟨rfl,rfl,rfl,by show w.heap.size<=(w.heap++a).size;simp,λi hi=>by show(w.heap++a)[i]?=w.heap[i]?;rw[Array.getElem?_append_left hi]⟩
def Gm(a:List YX):(a.map λx=>(⟨x.toArray⟩:Y9)).map (λx=>x.data.toList)=a:=by rw[Ww];exact(Yb λx _=>rfl).trans (List.map_id a)
def Ff(l s:YX):Lib.byteCells l++Lib.strCells ⟨s.toArray⟩=Lib.byteCells (l++s):=by simp[Lib.byteCells,Lib.strCells]
def Qt:mH where
 itoa:=λn w p a A=>(Any.strconv_Itoa aaI n p a w A).mono (by
  rintro e i⟨rfl,k,os,rfl⟩
  exact⟨rfl,IA⟩)
 a:=λs w hs d=>by
  obtain⟨m,d⟩:=d;refine(Any.strings_ReplaceAll aaM aaF ⟨s.toArray⟩ ⟨#[39]⟩ ⟨#[39,39]⟩ m w (by show s.toArray.size<_;simp;omega) d (by decide) ?_).mono ?_
  .have a:=Lib.count_le s [39];show s.toArray.size+Lib.count s [39]*2<=_;simp;omega
  rintro e i⟨rfl,c⟩;exact⟨i5<|by rw[<-yu],c⟩
 join:=λo v B w D H z=>by
  rcases D.2 with⟨rfl,p⟩|⟨g,cap,t,rfl,q,r,G,d,hs,C⟩
  .obtain rfl:o=[]:=V3.1 p;apply(Any.strings_Join_none aaH aaF none 0 ⟨#[44,32]⟩ w).mono;rintro e i⟨rfl,rfl⟩;exact⟨rfl,VM _ _⟩
  have F:=lB r;have c:=Any.strings_Join aaH aaF g 0 cap (o.map λx=>(⟨x.toArray⟩:Y9)) ⟨#[44,32]⟩ w (λj x c=>?_) F (by rw[VL];omega) (by rw[VL];omega) (by rw[Gm];show(Lib.join o [44,32]).length<=_;rw[Bc];omega)
  .rw[VL,Gm]at c;refine c.mono ?_;rintro e i⟨rfl,q⟩;exact⟨i5<|by rw[<-Bc],q⟩
  rw[bC r,XC];rw[VO]at c;obtain⟨y,E,rfl⟩:=Xh.1 c;have a:(o.map λx=>Zb.string ⟨x.toArray⟩)[j]?=some (.string ⟨y.toArray⟩):=by rw[VO,E];rfl
  rw[<-C,V6]at a;split at a
  .simpa using a
  cases a
 write:=λB b l s w h z hB=>(S9 ⟨s.toArray⟩ h (by show (Lib.byteCells l).length+s.toArray.size<=_;simp [Lib.byteCells];omega) hB).mono (by
  rintro e i⟨v,rfl,a,u⟩;rw[Ff]at a
  exact⟨v,rfl,a,u⟩)
 str:=λB b l w h hB=>Any.Builder_String_any aaP aaF B b l w h hB
def Mh(c:UInt8):Lib.upperB c=fU c:=by
 have h:∀i:Fin 256,Lib.upperB (UInt8.ofNat i.1)=fU (UInt8.ofNat i.1):=by decide
 have a:=h ⟨c.toNat,c.toNat_lt⟩;simpa using a
def zi:∀(l:YX)(a:Nat),(∀c∈l,aQ c=true)->a<18446744073709551616 ->
 (dK a l<=9223372036854775807->∃u:Nat,Lib.parseUint10 a l=.ok u/\(u:Int)=dK a l)/\(9223372036854775807<dK a l->Lib.parseUint10 a l=.range\/∃u:Nat,Lib.parseUint10 a l=.ok u/\9223372036854775808<=u)
 |[],a,_,h=>by simp only[dK,Lib.parseUint10];exact⟨λ_=>⟨a,rfl,rfl⟩,λh=>.inr ⟨a,rfl,by omega⟩⟩
 |c::r,a,hd,hacc=>by
  have j:=(gg c).1<|hd c (by simp);have g:∀c∈r,aQ c=true:=λx k=>hd x (by simp[k]);have n:=o4 r (10*a+(c.toNat-48)) (by omega) g;have e:dK a (c::r)=dK (10*(a:Int)+(c.toNat-48)) r:=rfl;unfold Lib.parseUint10;rw[VG j,e];by_cases b:1844674407370955162<=a
  .rw[VG b];exact⟨λh=>by omega,λ_=>.inl rfl⟩
  rw[VF b];by_cases d:18446744073709551616<=a*10+(c.toNat-48)
  .rw[VG d];exact⟨λh=>by omega,λ_=>.inl rfl⟩
  rw[VF d];have i:((a*10+(c.toNat-48):Nat):Int)=10*(a:Int)+((c.toNat:Int)-48):=by omega
  have h:=zi r (a*10+(c.toNat-48)) g (by omega);rw[i]at h;exact h
def Fc(g:∀c∈X,aQ c=true)(b:X≠[]):(dK 0 X<=9223372036854775807->Lib.atoiAll X=.ok (dK 0 X))/\(9223372036854775807<dK 0 X->Lib.atoiAll X=.range):=by
 cases X with
 |nil=>exact absurd rfl b
 |cons c r=>
  have k:=(gg c).1<|g c (by simp);have d:=zi (c::r) 0 g (by omega);rw[show((0:Nat):Int)=0 from rfl]at d;have e:Lib.parseMag (if c.toNat=43\/c.toNat=45 then r else c::r)=Lib.parseUint10 0 (c::r):=by rw[VF<|by omega];unfold Lib.parseMag;rw[VF<|by simp]
  unfold Lib.atoiAll;simp only;rw[e];constructor
  .intro h;obtain⟨u,i,j⟩:=d.1 h;rw[i];simp only;have a:¬c.toNat=45:=by omega
   rw[VF<|by omega,VF<|by simp[a],VF a,j]
  intro h;rcases d.2 h with a|⟨u,a,i⟩
  .rw[a]
  rw[a];simp only;rw[VG ⟨by omega,i⟩]
def FQ(h:W=w\/∃t,W=Lib.bytesWorld w 5 t):Zd w.heap.size w W:=by
 rcases h with rfl|⟨t,rfl⟩
 .exact VM _ _
 exact Lib.bytesWorld_below _ _ _
def RI(s:Y9)(w:Za)(d:s.size<=1048576):Zc prog 204 #[.string s] w λe c=>e=.returned (.string s)/\Zd w.heap.size w c:=by have a:=Z<|Any.stringslite_Clone aaK s w (by omega);go_in;go_wp2_with fail;apply(U a).mono;rintro e g⟨rfl,b⟩;go_wp2_with fail;go_ret;exact⟨rfl,b⟩
def Sm:lL where
 pre:=λs p w=>Any.strings_HasPrefix aaQ s p w
 upper:=λs w hs l=>(Any.strings_ToUpper_ascii aaN aaF s w (by omega) λj b a=>l b<|VY a).mono (by
  rintro e k⟨rfl,a⟩;refine⟨?_,a⟩;unfold Lib.toUpperA
  rw[Yb λc _=>Mh c])
 trim:=λs w=>(Any.strings_TrimLeft_laid aaO (by kernel_rfl) s ⟨#[32,9,10]⟩ w (by decide)<|ascii_of_all<|by decide).mono (by
  rintro e k⟨rfl,a⟩;refine⟨?_,a⟩;unfold Lib.trimLeftS;have n:(λc:UInt8=>List.contains [32,9,10] c)=bW:=by
   funext c;unfold bW;rw[WB];simp;constructor
   .rintro(rfl|rfl|rfl)<;>simp
   .intro h;rcases h with(h|h)|h
    .exact .inl<|Wg.1 h
    .exact .inr<|.inl<|Wg.1 h
    .exact .inr<|.inr<|Wg.1 h
  rw[<-n])
 clone:=λs w hs=>RI s w hs
 atoi:=λs w hs hd d i=>(Any.strconv_Atoi_ok aaG s (by omega) _ ((Fc hd d).1 i) w).mono (by
  rintro e k⟨rfl,a⟩
  exact⟨rfl,FQ a⟩)
 a:=λs w hs hd d i g=>by obtain⟨q,o,g⟩:=g;apply(Any.strconv_Atoi_range aaG s (by omega) ((Fc hd d).2 i) _ w g<|.inr ⟨q,o,rfl⟩).mono;rintro e k⟨N,rfl,_,_,a⟩;exact⟨_,_,_,rfl,a⟩
def M6(x y:Int)(w:Za):Zc prog 260 #[.int .i64 x,.int .i64 y] w λe b=>e=.returned (.int .i64<|Lib.compareInt x y)/\b=w:=by
 have d:(x != x)=false:=by simp
 have g:(y != y)=false:=by simp
 rcases YP x y with h|h|h
 .have a:Hid<|Lib.compareInt x y=-1:=by unfold Hid Lib.compareInt;rw[VG h]
  go_in;go_wp2;go_ret;exact⟨fQ a.o.symm,rfl⟩
 .subst h;have a:Hid<|Lib.compareInt x x=0:=by unfold Hid Lib.compareInt;rw[VF<|by omega,VF<|by omega]
  go_in;go_wp2;go_ret;exact⟨fQ a.o.symm,rfl⟩
 have a:Hid<|Lib.compareInt x y=1:=by unfold Hid Lib.compareInt;rw[VF<|by omega,VG h]
 have c:¬x<y:=by omega
 go_in;go_wp2;go_ret;exact⟨fQ a.o.symm,rfl⟩
def Kk:dD where
 int:=M6
 str:=λx y w=>Any.strings_Compare aaL x y w
def aab(o:Os)(b:o.Started)(H:Type)(c:Zf×Zb->H)(F:Stop.Interp):
 ReturnsInHanded {} checked o 5 .any ((Rows.OpenSpec.upto Rows.allSpec).preRow c prog f5 Rows.allUptoRow.domain false Rows.allUptoRow.laid) (((Rows.OpenSpec.upto Rows.allSpec).at F).post c prog f5 false true false false):=by
 obtain⟨places,E⟩:=aal o c;refine returnsInHanded_of_row (C:=checked) (s:=Rows.OpenSpec.upto Rows.allSpec) Vk b (by as_aux_lemma=>kernel_rfl) func5
  ⟨Za.laidAll prog o Rows.allUptoRow.laid,λ_ _=>0,⟨#[],#[.slice none 0 0],[]⟩,Za.laidAll_os _ _ _,Za.shaped_of_ZipB (by as_aux_lemma=>kernel_rfl)<|by as_aux_lemma=>kernel_rfl,(Input.okWide_of_okWideB (base:=0)<|aag o).1,(Input.okWide_of_okWideB<|aag o).2,
   OpenSpec.preRow_of_cond 8 E (by as_aux_lemma=>kernel_rfl) (λk hk=>by cases hk;kernel_rfl) (by as_aux_lemma=>kernel_rfl) (by rw[MakeChecks.laidMetH_plain _ _ _<|by as_aux_lemma=>kernel_rfl];exact laidMet_laidAll _ (by as_aux_lemma=>kernel_rfl)<|by as_aux_lemma=>kernel_rfl),by
    simp only[Assume.holds]
    exact⟨by simp,by simp,λ_=>Modest.zero,by simp,by simp⟩⟩ ?_
 intro W base a Q gs r n M _ l _ u D _;have d:∀(j:Nat) t v,f5.params[j]?=some t->a[j]?=some v->Zb.okWide prog W .any base t v:=n;have g:=M;have hk:=l _ rfl;obtain⟨p,q,y,S,rfl,_,_⟩:=M;have L:DataW.TrodAll c prog W 0 (λ_=>true) true f5.params.toList a.toList Q p:=y;rw[params5]at L d;obtain⟨O,Z,P,R,X,q0,z,rfl,rfl,K,Y⟩:=trodAll_cons L;obtain⟨rfl,rfl,rfl⟩:=trodAll_nil Y;obtain rfl:a=#[O]:=by cases a;simp_all
 obtain⟨rfl,rfl⟩:=trodVars_none S;have w:=K;have A:Rows.uptoBulk P<=1048576:=by have h:=of_decide_eq_true hk;simp only[WQ,Rows.uptoBulkAll]at h;omega
 obtain⟨V,G,I,J⟩:=SA (d 0 22 O rfl rfl) K A;simp only[WQ]at g;have B:∀x∈X,x.block<W.heap.size:=λx E=>by simpa using g.lt x (by simpa using E)
 rw[MakeChecks.laidMetH_plain _ _ _<|by as_aux_lemma=>kernel_rfl]at u;have U:rh W:=Nn u (VY (i:=6) rfl) (by as_aux_lemma=>kernel_rfl) (VY (i:=7) rfl) (by as_aux_lemma=>kernel_rfl) (VY (i:=4) rfl) (by as_aux_lemma=>kernel_rfl)<|VY (i:=2) rfl;have hs:kM W:=⟨Oj u<|VY (i:=2) rfl,Ss D,NV u (VY (i:=8) rfl)<|by as_aux_lemma=>kernel_rfl⟩;refine(aaB Sm Kk Qt (QK Kk) Uf G I J U hs).mono λe W' ⟨T,N⟩=>?_;subst T;exact⟨_,rfl,_,_,_,[],_,[],g,trodAll_mk1<|shut_bool underlying4 _,trodAll_mk1<|Zd.trod laidOut (by as_aux_lemma=>kernel_rfl) (of_decide_eq_true<|by as_aux_lemma=>kernel_rfl) w N B,rfl,N.frame _,λh=>by cases h⟩
def aao:Rows.AllUptoSaid:=
 OpenClaim.holds_of_cond 5 f5 rfl rfl rfl rfl rfl rfl rfl ⟨rfl,rfl,rfl,rfl,rfl⟩ rfl rfl rfl rfl rfl (by as_aux_lemma=>kernel_rfl) func5 aaj
  (of_decide_eq_true<|by as_aux_lemma=>kernel_rfl) (by unfold Func.isWrapper;first|(rw[VG<|by decide +kernel];kernel_rfl)|(rw[VF<|by decide +kernel];exact⟨rfl,rfl⟩))
  (λos a H b _ F=>by rw[OpenClaim.pre_eq_preRow];exact aab os a H b F)
