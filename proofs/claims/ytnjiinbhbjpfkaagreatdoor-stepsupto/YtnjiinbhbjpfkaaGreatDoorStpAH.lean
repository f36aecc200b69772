import Derived.Test.YtnjiinbhbjpfkaaGreatDoorStpAG
set_option maxRecDepth 100000
set_option maxHeartbeats 0
set_option linter.all false
namespace Go.Proofs.YtnjiinbhbjpfkaaGreatDoor
open Go.RowKit Go.Proofs.Tryz
namespace F
theorem Tryz.Ho:(prog.info? 76).map (λi=>(i.zero,i.size,i.bytes))=some (some (.agg #[.int .i64 0,.int .i64 0,.int .i64 0,.slice none 0 0]),4,48):=by kernel_rfl
theorem Tryz.tT:prog.underlying 29=some (.slice 76):=by kernel_rfl
def AN(L:List (Int×Int×Int)):List Value:=L.flatMap (λx=>[.int .i64 x.1,.int .i64 x.2.1,.int .i64 x.2.2,.slice none 0 0])
theorem Ch : ∀ {L : List (Int × Int × Int)} {k : Nat} {x : Int × Int × Int}, L[k]? = some x → (AN L)[k * 4]? = some (.int .i64 x.1) ∧ (AN L)[k * 4 + 1]? = some (.int .i64 x.2.1) ∧ (AN L)[k * 4 + 2]? = some (.int .i64 x.2.2) ∧ (AN L)[k * 4 + 3]? = some (.slice none 0 0)
  | [], k, x, h => by simp at h
  | y :: L, 0, x, h => by
    have e : y = x := by simpa using h
    subst e
    exact ⟨rfl, rfl, rfl, rfl⟩
  | y :: L, k + 1, x, h => by
    have := Ch (L := L) (k := k) (x := x) (by simpa using h)
    have hc : AN (y :: L) = .int .i64 y.1 :: .int .i64 y.2.1 :: .int .i64 y.2.2 :: .slice none 0 0 :: AN L := by unfold AN; simp
    rw [hc, show (k + 1) * 4 = k * 4 + 4 by omega]
    exact this
structure FN(w:World) (L:List (Int×Int×Int)) (ad:Option Addr) (c:Nat) (wr:World):Prop where
 b:Below w.heap.size w wr
 o:wr.ownsRow 0 76 4 (.slice ad L.length c) L.length (AN L)
 d:∀k,eO ad=some k->w.heap.size<=k
 t:∀x,x∈L->-9223372036854775808<=x.2.2/\x.2.2<=9223372036854775807
theorem FN.Mc{w wr:World}{L:List (Int×Int×Int)}{ad:Option Addr}{c:Nat}(h:FN w L ad c wr):LZ wr ad L.length (λi=>(L.getD i (0,0,0)).1) (λi=>(L.getD i (0,0,0)).2.1) (λi=>(L.getD i (0,0,0)).2.2) (λ_=>none) (λ_=>0) (λ_=>0) (λ_=>[]):=by
 have Z:∀i,i<L.length->∃x,L[i]? = some x/\L.getD i (0,0,0)=x:=λi hi=>⟨L[i],bn hi,by rw[ar,bn hi];rfl⟩;refine⟨⟨λe=>?_,λa G i hi=>?_,λi hi=>?_⟩,λi hi=>⟨rfl,dc _,rfl,λ_=>rfl,λa G=>(by cases G)⟩⟩
 .by_cases h0:L.length=0
  .exact h0
  obtain⟨b,c',J⟩:=dM h.o h0;rw[e]at J
  cases J
 .obtain⟨x,Y,W⟩:=Z i hi;obtain⟨b,c',J⟩:=dM h.o (by omega);injection J with H _ a3;subst a3;rw[G]at H;injection H with H;subst H;have u:=h.o;rw[G]at u;obtain⟨k0,k1,k2,k3⟩:=Ch Y;have y:∀k,(⟨b,0,none⟩:Addr).add k=⟨b,k,none⟩:=λk=>by unfold Addr.add;split<;>simp_all
  rw[W,y,y,y,y];exact⟨(dA u b rfl).2.1,hZ u k0,hZ u k1,hZ u k2,hZ u k3⟩
 obtain⟨x,Y,W⟩:=Z i hi;rw[W];exact h.t x (ed Y)
theorem FN.add{w wr w6:World}{L:List (Int×Int×Int)}{ad o:Option Addr}{c J:Nat}{x:Int×Int×Int}(h:FN w L ad c wr){W:World}(H:wr.grownBy W none)(ho:w6.ownsRow 0 76 4 (.slice o (L.length+1) J) (L.length+1) (AN L++[.int .i64 x.1,.int .i64 x.2.1,.int .i64 x.2.2,.slice none 0 0]))(u:W.grownBy w6 (Value.slice ad L.length c).ownBlock){N:Nat}(hN:wr.heap.size<=N)(hm:jE N (.slice ad L.length c) (.slice o (L.length+1) J))(hx:-9223372036854775808<=x.2.2/\x.2.2<=9223372036854775807):FN w (L++[x]) o J w6:=by
 have hl:(L++[x]).length=L.length+1:=by rw[bo];rfl
 have hs:AN (L++[x])=AN L++[.int .i64 x.1,.int .i64 x.2.1,.int .i64 x.2.2,.slice none 0 0]:=by unfold AN;simp
 rw[dr]at u;have hz:=H.size;have a0:=h.b.size;refine⟨⟨u.os.trans (H.os.trans h.b.os),u.tape.trans (H.tape.trans h.b.tape),u.output.trans (H.output.trans h.b.output),by have:=u.size;omega,λk Y=>(u.block k (by omega) (λe=>by have:=h.d k e.symm;omega)).trans ((H.block k (by omega) (by intro e;cases e)).trans (h.b.block k Y))⟩,by rw[hl,hs];exact ho,λk Y=>?_,λy G=>?_⟩
 .have i:(Value.slice o (L.length+1) J).ownBlock=some k:=by rw[dr];exact Y
  rcases hm with Z|⟨g,Z,h2⟩
  .rw[Z,dr]at i;exact h.d k i
  rw[Z]at i;injection i with i;omega
 rcases di.1 G with G|G
 .exact h.t y G
 rw[dL.1 G];exact hx
theorem G3(ad:Option Addr)(len cap:Nat)(kd hh tk:Nat->Int)(ia:Nat->Option Addr)(gm ic:Nat->Nat)(w:World)(aF:len<=1048576)(a9:vX w ad len kd hh tk ia gm ic): Calls prog 19 #[.slice ad len cap] w λe w'=>∃L a2 c2,e=.returned (.slice a2 L.length c2)/\L.length<=len/\FN w L a2 c2 w':=by
 obtain⟨i0,hi,aC,aE,aB⟩:=info_parts Tryz.Ho;have W:=az a9;have a0:Hid (FN w [] none 0 w):=⟨eM _ _,dJ _ _ _ _,λk hk=>(by cases hk),λx hx=>(by cases hx)⟩;go_in;go_wp2_with fail
 go_loopw [3,4] (λlv iv wx=>∃(i n c:Nat) (L:List (Int×Int×Int)) (a:Option Addr),i<=len/\iv=.int .i64 i/\lv=.slice a n c/\n<=i/\Hid (n=L.length)/\Hid (FN w L a c wx)) (λ_ iv _=>len-(intOf iv).toNat)
 case atStart=>exact⟨0,0,0,[],none,by omega,rfl,rfl,by omega,rfl,a0⟩
 case round=>
  obtain⟨i,n,c,L,a2,aG,rfl,rfl,aH,rN,rP⟩:=hrel;by_cases a8:i<len
  .have a5:(i:Int)<(len:Int):=by omega
   obtain⟨a,rfl⟩:∃a,ad=some a:=by
    cases ad with
    |none=>have:=W.out.n rfl;omega
    |some a=>exact⟨a,rfl⟩
   obtain⟨z0,z1,z2,z3,z4⟩:=W.out.at rP.out.b rfl a8;have aD:=az (W.out.t i a8);generalize kd i=G at *;generalize hh i=H at *;generalize tk i=J at *;generalize ia i=aq at *;generalize gm i=nq at *;generalize ic i=cq at *;by_cases h4:G<=4
   .have Y:wr.grownBy (wr.alloc (.cells #[.int .i64 G,.int .i64 H,.int .i64 J,.slice none 0 0] 76)) none:=au (ax _ _) _;have a6:=bf wr (.cells #[.int .i64 G,.int .i64 H,.int .i64 J,.slice none 0 0] 76);go_upto_region 8 with fail
    generalize wr.alloc (.cells #[.int .i64 G,.int .i64 H,.int .i64 J,.slice none 0 0] 76)=w5 at *;obtain⟨y0,y1,y2,y3,ly⟩:=gp a6;have Z:Hid (w5.ownsRow 0 76 4 (.slice a2 n c) n (AN L)):=by
     show World.ownsRow _ _ _ _ _ _ _;rw[rN.out];exact dD rP.out.o (λk hk=>Y.block k (dA rP.out.o k hk).2.1 (by intro e;cases e))
    have a7:=az (λk hk=>(dA Z.out k hk).2.1);go_wp2_with (at_builtin;refine gK rfl (.tmp 23) (.tmp 25) 29 rfl 76 i0 _ 4 48 Tryz.tT hi aC aE aB rfl (by decide) _ _ _ _ rfl (dD Z.out (λk h=>ak _ _ _ (a7.out k h))) ⟨w5.heap.size,0,none⟩ 1 1 [.int .i64 G,.int .i64 H,.int .i64 J,.slice none 0 0] rfl rfl ?c1 ?c2 ?c3 ?c4 ?c5 ?_)
    try case c1=>intro j u y;match j,y with|0,y=>(simp at y;subst y;simp[Addr.add,go_sem])|1,y=>(simp at y;subst y;simp[Addr.add,go_sem])|2,y=>(simp at y;subst y;simp[Addr.add,go_sem])|3,y=>(simp at y;subst y;simp[Addr.add,go_sem])
    try case c2=>simp[Value.oneCell']
    try case c3=>unfold maxLen;omega
    try case c4=>omega
    try case c5=>omega
    intro v' w6 ho a3 a1;obtain⟨b,c',rfl⟩:=dM ho (by omega);have HN:Hid (FN w (L++[(G,H,J)]) (some ⟨b,0,none⟩) c' w6):=by
     have e:=rN.out;subst e;exact rP.out.add (x:=(G,H,J)) (au (az Y).out _) ho a3 (by omega) a1 aD.out
    have aA:Hid (n+1=(L++[(G,H,J)]).length):=by
     show _=_;rw[bo,rN.out];rfl
    go_wp2_with fail
    go_roundw
    case rel=>exact⟨i+1,n+1,c',L++[(G,H,J)],some ⟨b,0,none⟩,by omega,by go_num,rfl,by omega,aA,HN⟩
    case measure=>simp[intOf];omega
   go_wp2_with fail
   go_roundw
   case rel=>exact⟨i+1,n,c,L,a2,by omega,by go_num,rfl,by omega,rN,rP⟩
   case measure=>simp[intOf];omega
  have a5:¬((i:Int)<(len:Int)):=by omega
  go_wp2_with fail
  go_ret;have e:=rN.out;subst e;exact⟨L,a2,c,rfl,by omega,rP.out⟩
end F
namespace F
open D
def Ej(l:List Nat):ByteArray:=⟨(l.map UInt8.ofNat).toArray⟩
def AB(l:List Nat):List Value:=l.map (λ(x:Nat)=>Value.int .u8 (x:Int))
theorem Tryz.Hp:(prog.info? 5).map (λi=>(i.zero,i.size,i.bytes))=some (some (.int .u8 0),1,1):=by kernel_rfl
theorem ub(l:List Nat):∀(s:ByteArray),(l.map (λ(x:Nat)=>(x:Int))).foldl (λr n=>r.push (UInt8.ofNat n.toNat)) s=⟨s.data++(l.map UInt8.ofNat).toArray⟩:=by
 induction l with
 |nil=>intro s;simp
 |cons x l e=>
  intro s;simp only[List.map_cons,List.foldl_cons];rw[e];simp[ByteArray.push]
theorem DB(l:List Nat):(l.map (λ(x:Nat)=>(x:Int))).foldl (λr n=>r.push (UInt8.ofNat n.toNat)) ByteArray.empty=Ej l:=by
 rw[ub];unfold Ej;congr 1
 exact Array.empty_append
def Js(o:Nat):Bool:=o == 15 || o == 17 || o == 18 || o == 19 || o == 21
def re(s:ByteArray)(k i:Nat):List Nat:=if Js (M.bt s (M.pos s k+2+4*i))=true then[16,0,0,0] else[M.bt s (M.pos s k+2+4*i),M.bt s (M.pos s k+2+4*i+1),M.bt s (M.pos s k+2+4*i+2),M.bt s (M.pos s k+2+4*i+3)]
def kV(s:ByteArray)(k:Nat):Nat->List Nat |0=>[] |j+1=>kV s k j++re s k j
def ig(s:ByteArray):Nat->List Nat |0=>[M.bt s 0] |k+1=>ig s k++[M.bt s (M.pos s k),M.bt s (M.pos s k+1)]++kV s k (M.bt s (M.pos s k+1))
theorem Dj(s:ByteArray)(k i:Nat):(re s k i).length=4:=by unfold re;split<;>rfl
theorem kO(s : ByteArray) (k : Nat) : ∀ j, (kV s k j).length = 4 * j
  | 0 => rfl
  | j + 1 => by
    unfold kV
    rw [bo, kO s k j, Dj]
    omega
theorem mh(s : ByteArray) : ∀ k, (ig s k).length = M.pos s k
  | 0 => rfl
  | k + 1 => by
    unfold ig
    rw [bo, bo, mh s k, kO]
    rfl
theorem uN(l m:List Nat):AB (l++m)=AB l++AB m:=by unfold AB;simp
theorem uZ{n j:Nat}(P:Nat->Value)(h:j<n):(rowP n P)[j]? = some (P j):=by unfold rowP;simp[h]
theorem qg{w:World}{i sz g n cap j:Nat}{e:TypeId}{x:Value}{xs:List Value}(h:w.ownsRow i e sz (.slice (some ⟨g,0,none⟩) n cap) n xs)(hx:xs[j]? = some x):w.cell? ⟨g,j,none⟩=some x:=by
 rcases h.2 with⟨h,_⟩|⟨g',J,o,G,_,H,_,_,W,y⟩
 .cases h
 cases G;have u:j<n*sz:=by
  have:=(bu.1 hx).1;have:=h.1;omega
 have:o[j]? = some x:=by
  rw[<-y,dh,aj u]at hx;simpa using hx
 simp[World.cell?,H,this]
structure Tx(w:World) (l:List Nat) (b:Value) (wr:World):Prop where
 o:wr.ownsRow w.heap.size 5 1 b l.length (AB l)
 b:Below w.heap.size w wr
theorem mL(n:Nat)(h:n<256):IntKind.u8.wrap (n:Int)=(n:Int):=by simp[IntKind.wrap,IntKind.bits,IntKind.signed];omega
theorem JV{w:World}{b:Nat}{x y z u:Value}{T:TypeId}(h:w.heap[b]? = some (.cells #[x,y,z,u] T (0,0))):w.cell? ⟨b,0,none⟩=some x/\w.cell? ⟨b,1,none⟩=some y/\w.cell? ⟨b,2,none⟩=some z/\w.cell? ⟨b,3,none⟩=some u/\b<w.heap.size:=⟨by simp[World.cell?,h],by simp[World.cell?,h],by simp[World.cell?,h],by simp[World.cell?,h],bz h⟩
theorem sP(s : ByteArray) : ∀ k d, M.pos s k ≤ M.pos s (k + d)
  | k, 0 => bj _
  | k, d + 1 => by
    have := sP s k d
    show _ ≤ M.pos s (k + d) + 2 + 4 * _
    omega
theorem Tx.conv{w wr:World}{l:List Nat}{g c:Nat}(h:Tx w l (.slice (some ⟨g,0,none⟩) l.length c) wr):(loadCells ⟨g,0,none⟩ l.length).run prog wr=.ok ((l.map (λ(x:Nat)=>(x:Int))).map (Value.int .u8)).toArray wr:=by
 have:=run_loadCells_list (P:=prog) wr ⟨g,0,none⟩ (AB l) (λq v e=>?_)
 .have i:(AB l).length=l.length:=by simp[AB]
  rw[i]at this;rw[this];congr 2
  unfold AB;rw[List.map_map];rfl
 rcases h.o.2 with⟨h,_⟩|⟨g',y,u,J,_,W,_,_,Y,H⟩
 .cases h
 cases J;rw[Addr.add_mid];have G:u[q]? = some v:=by
  rw[<-H]at e;rw[dh]at e;split at e
  .simpa using e
  cases e
 simp[World.cell?,W,G]
theorem GB(s:ByteArray)(w:World)(hs:s.size<=maxLen)(bE:s.size<=140737488355328)(a8:(M.jO s).2=true): Calls prog 18 #[.string s] w λe w'=>e=.returned (.string (Ej (ig s (M.bt s 0))))/\Below w.heap.size w w':=by
 obtain⟨i0,hi,aE,aK,aM⟩:=info_parts Tryz.Hp;have HS:Hid (s.size<=maxLen):=hs;obtain⟨n1,n8,b4⟩:=nJ a8;have aC:=(vk a8).2;have bD:=az a8;have aZ:=az b4;have aL:Hid (∀k,k<=M.bt s 0->M.pos s k<=s.size):=λk hk=>by
  have:=sP s k (M.bt s 0-k);rw[show k+(M.bt s 0-k)=M.bt s 0 by omega,aC]at this;exact this
 clear hs a8 b4 aC;go_in;go_wp2_with fail
 refine(pr s _ HS.out bE bD.out).mono ?_;rintro e w1 ⟨gb,cp,cbs,ccs,rfl,hR,hC,hB⟩;have aS:=az hB;have HR:=az hR;have HC:=az hC;have aH:=(dA hR gb rfl).2.1;have q0:=mL (M.bt s 0) (M.my s 0);have aG:Hid (Tx w1 (ig s 0) (.slice (some ⟨w1.heap.size,0,none⟩) 1 1) (w1.alloc (.cells #[.int .u8 (M.bt s 0:Int)] 5))):=⟨⟨by simp[AB,ig],ab ⟨w1.heap.size,1,#[.int .u8 (M.bt s 0:Int)],rfl,bj _,bf w1 _,bj 1,by decide,rfl,rfl⟩⟩,(eM _ _).alloc (bj _) _⟩;clear hB hR hC;obtain⟨F,hF⟩:∃F,F=M.bt s 0:=⟨_,rfl⟩;have bH:=az hF;rw[<-hF]at n1 n8 q0 aZ aL HR HC aG ⊢;clear hF;go_wp2_with fail
 generalize w1.alloc (.cells #[.int .u8 (F:Int)] 5)=w2 at *;go_loopw [6,7] (λb iv wr=>∃k,k<=F/\iv=.int .i64 k/\Hid (Tx w1 (ig s k) b wr)) (λ_ iv _=>F-(intOf iv).toNat)
 case atStart=>exact⟨0,by omega,rfl,aG⟩
 case round=>
  obtain⟨k,hk,rfl,rT⟩:=hrel;clear aG;have a9:=mh s k;have bL:1<=M.pos s k:=by have:=sP s 0 k;rw[Nat.zero_add]at this;exact this
  have bN:=aL.out k hk;obtain⟨gq,cq,rfl⟩:=dM rT.out.o (by omega);rw[a9];have aA:=az a9;have HO:Hid (wr.ownsRow w1.heap.size 5 1 (.slice (some ⟨gq,0,none⟩) (M.pos s k) cq) (M.pos s k) (AB (ig s k))):=by
   have:=rT.out.o;rw[a9]at this;exact this
  have Z:=az rT.out.b;clear a9 rT;by_cases aB:k<F
  .have bK:(k:Int)<(F:Int):=by omega
   obtain⟨f1,f2,f3⟩:=pK (aZ.out k aB);obtain⟨_,a1,a2⟩:=M.fK f1;obtain⟨_,l1,l2⟩:=M.fK f2;have aQ:=aL.out (k+1) aB;have aD:M.pos s (k+1)=M.pos s k+2+4*M.bt s (M.pos s k+1):=rfl;rw[aD]at aQ;have c0:w1.cell? ⟨gb,k*2,none⟩=some (.int .i64 (M.bt s (M.pos s k):Int)):=by
    refine qg HR.out ?_;rw[uZ _ (by omega)];unfold D.vJ;rw[aj (by omega),show k*2 / 2=k by omega]
   have c1:w1.cell? ⟨gb,k*2+1,none⟩=some (.slice (some ⟨cbs k,0,none⟩) (M.bt s (M.pos s k+1)) (ccs k)):=by
    refine qg HR.out ?_;rw[uZ _ (by omega)];unfold D.vJ;rw[aa (by omega),show(k*2+1) / 2=k by omega]
   have bB:=(HC.out.lt aB).2;have b8:Hid (∀j,j<M.bt s (M.pos s k+1)*4->w1.cell? ⟨cbs k,j,none⟩=some (Be s k j)):=λj hj=>qg (HC.out k aB).1 (uZ _ hj);have q1:=mL (M.bt s (M.pos s k)) (M.my s _);have q2:=mL (M.bt s (M.pos s k+1)) (M.my s _);clear f1 f2 f3 aD;have b7:Hid (∀i,re s k i=if Js (M.bt s (M.pos s k+2+4*i))=true then[16,0,0,0] else[M.bt s (M.pos s k+2+4*i),M.bt s (M.pos s k+2+4*i+1),M.bt s (M.pos s k+2+4*i+2),M.bt s (M.pos s k+2+4*i+3)]):=λ_=>rfl;have b6:Hid (ig s (k+1)=ig s k++[M.bt s (M.pos s k),M.bt s (M.pos s k+1)]++kV s k (M.bt s (M.pos s k+1))):=rfl;generalize hL:M.bt s (M.pos s k+1)=L at *;generalize hR:M.bt s (M.pos s k)=R at *;generalize aV:M.pos s k=pk at *;have b9:=az aV;clear aV hL hR;have lz:=Z.out.size;have d0:=(aw (a:=⟨gb,k*2,none⟩) (Z.out.block gb aH)).trans c0;have d1:=(aw (a:=⟨gb,k*2+1,none⟩) (Z.out.block gb aH)).trans c1
   go_wp2_with fail
   go_cut [6] (λv wx=>Hid (Tx w1 (ig s k++[R,L]) v wx))
   case first=>
    go_region_law (refine qS rfl (.tmp 29) (.tmp 43) 86 rfl w1.heap.size 5 i0 _ 1 1 Tryz.underlying86 hi aE aK aM rfl (by decide) (.slice (some ⟨gq,0,none⟩) pk cq) pk (AB (ig s k)) (by simp[Act.eval]) (xh (ur HO.out _)) ⟨wr.heap.size,0,none⟩ 2 2 [.int .u8 (R:Int),.int .u8 (L:Int)] (by simp[Act.eval]) rfl (by intro q u y;match q,y with|0,y=>(simp at y;subst y;simp[Addr.add,go_sem])|1,y=>(simp at y;subst y;simp[Addr.add,go_sem])) (by simp[Value.oneCell']) (by unfold maxLen;omega) (by omega) (by simp;omega) ?_;intro v' w6 H G;have a7:=az ((By (Z.out.trans (((eM _ _).alloc (by omega) _).drew)) G (xh (ur HO.out _)) (bj _)));have bG:=az H;clear H G)
    all_goals
     go_wp2_with fail
     go_meet
     case rel=>
      refine⟨?_,a7.out⟩;have e:=bG.out;rw[uN,bo,aA.out];exact e
   case rest=>
    obtain⟨wq,bA⟩:∃z:World,z=wc:=⟨_,rfl⟩;subst bA;have aY:Hid (Tx w1 (ig s k++[R,L]++kV s k 0) u6 wq):=by
     have:=hcut;rw[show kV s k 0=[] from rfl,eB];exact this
    clear hcut d0 d1 lz HO Z;go_wp2_with fail
    go_loopw [6,8] (λb jv wx=>∃j,j<=L/\jv=.int .i64 j/\Hid (Tx w1 (ig s k++[R,L]++kV s k j) b wx)) (λ_ jv _=>L-(intOf jv).toNat)
    case atStart=>exact⟨0,by omega,rfl,aY⟩
    case round=>
     clear aY;obtain⟨j,hj,rfl,rT⟩:=hrel;have a0:Hid ((ig s k++[R,L]++kV s k j).length=pk+2+4*j):=by
      show _=_;rw[bo,bo,aA.out,kO];rfl
     obtain⟨g2,c2,rfl⟩:=dM rT.out.o (by rw[a0.out];omega);have a3:Hid (wr.ownsRow w1.heap.size 5 1 (.slice (some ⟨g2,0,none⟩) (pk+2+4*j) c2) (pk+2+4*j) (AB (ig s k++[R,L]++kV s k j))):=by
      have:=rT.out.o;rw[a0.out]at this;exact this
     obtain⟨l0,aI⟩:∃l0,l0=ig s k++[R,L]++kV s k j:=⟨_,rfl⟩;have aN:=az aI;rw[<-aI]at a3 a0 rT ⊢;clear aI;have Y:=az rT.out.b;have b5:=Y.out.size;have d1:=(aw (a:=⟨gb,k*2+1,none⟩) (Y.out.block gb aH)).trans c1
     rw[a0.out];clear rT;by_cases bY:j<L
     .have aX:(j:Int)<(L:Int):=by omega
      have a6:∀q,q<4->wr.cell? ⟨cbs k,j*4+q,none⟩=some (.int .i64 (M.bt s (pk+2+4*j+q):Int)):=λq y=>by
       rw[aw (a:=⟨cbs k,j*4+q,none⟩) (Y.out.block (cbs k) bB),b8.out (j*4+q) (by omega)];unfold D.Be;rw[b9.out,show pk+2+(j*4+q)=pk+2+4*j+q by omega]
      have e0:=a6 0 (by omega);have e1:=a6 1 (by omega);have e2:=a6 2 (by omega);have e3:=a6 3 (by omega);simp only[Nat.add_zero]at e0;have w0:=mL _ (M.my s (pk+2+4*j));have bV:=mL _ (M.my s (pk+2+4*j+1));have bM:=mL _ (M.my s (pk+2+4*j+2));have bQ:=mL _ (M.my s (pk+2+4*j+3))
      clear a6;have aU:=az (b7.out j);generalize M.bt s (pk+2+4*j)=W at *;generalize M.bt s (pk+2+4*j+1)=b1 at *;generalize M.bt s (pk+2+4*j+2)=b2 at *;generalize M.bt s (pk+2+4*j+3)=b3 at *;by_cases k5:W=15\/W=17\/W=18\/W=19\/W=21
      .rcases k5 with rfl|rfl|rfl|rfl|rfl
       all_goals
        have a5:=bf wr (.cells #[.int .i64 16,.int .i64 0,.int .i64 0,.int .i64 0] 90);have a4:=az (a3.out.alloc (.cells #[.int .i64 16,.int .i64 0,.int .i64 0,.int .i64 0] 90));have J:=az (Y.out.alloc b5 (.cells #[.int .i64 16,.int .i64 0,.int .i64 0,.int .i64 0] 90));go_upto_region 15 with fail
        generalize wr.alloc (.cells #[.int .i64 16,.int .i64 0,.int .i64 0,.int .i64 0] 90)=wb at *;obtain⟨y0,y1,y2,y3,ly⟩:=JV a5;clear a5;go_wp2_with (at_builtin;refine wpList_append_own _ rfl (.tmp 87) (.tmp 100) 86 rfl w1.heap.size 5 i0 _ 1 1 Tryz.underlying86 hi aE aK aM rfl (by decide) _ _ _ rfl (a4.out.alloc _) ⟨wb.heap.size,0,none⟩ 4 4 [.int .u8 16,.int .u8 0,.int .u8 0,.int .u8 0] rfl rfl ?c1 ?c2 ?c3 ?c4 ?c5 ?_)
        try case c1=>intro q u y;match q,y with|0,y=>(simp at y;subst y;simp[Addr.add,go_sem])|1,y=>(simp at y;subst y;simp[Addr.add,go_sem])|2,y=>(simp at y;subst y;simp[Addr.add,go_sem])|3,y=>(simp at y;subst y;simp[Addr.add,go_sem])
        try case c2=>simp[Value.oneCell']
        try case c3=>unfold maxLen;omega
        try case c4=>omega
        try case c5=>have:=J.out.size;simp;omega
        intro v' w6 H G _;have a7:=az ((J.out.alloc (by have:=J.out.size;omega) _).grown G (by have:=J.out.size;simp;omega) (λx hx=>(a4.out.lt x hx).1));have aJ:Hid (Tx w1 (ig s k++[R,L]++kV s k (j+1)) v' w6):=by
         refine⟨?_,a7.out⟩;have aF:re s k j=[16,0,0,0]:=by rw[aU.out];rfl
         have aP:ig s k++[R,L]++kV s k (j+1)=l0++[16,0,0,0]:=by rw[<-aF,aN.out];show _++(kV s k j++re s k j)=_;simp only[dY]
         rw[aP,uN,bo,a0.out];exact H
        clear H G a4 J y0 y1 y2 y3 ly a3 Y;go_wp2_with fail
        go_roundw
        case rel=>exact⟨j+1,by omega,by go_num,aJ⟩
        case measure=>simp[intOf];omega
      have bS:((W:Int) == 15)=false:=dK.2 (by omega);have bR:¬((W:Int)=15):=by omega
      have c7:((W:Int) == 17)=false:=dK.2 (by omega);have bZ:¬((W:Int)=17):=by omega
      have bO:((W:Int) == 18)=false:=dK.2 (by omega);have bU:¬((W:Int)=18):=by omega
      have bT:((W:Int) == 19)=false:=dK.2 (by omega);have c6:¬((W:Int)=19):=by omega
      have bP:((W:Int) == 21)=false:=dK.2 (by omega);have bW:¬((W:Int)=21):=by omega
      clear k5;have a5:=bf wr (.cells #[.int .i64 (W:Int),.int .i64 (b1:Int),.int .i64 (b2:Int),.int .i64 (b3:Int)] 90);have a4:=az (a3.out.alloc (.cells #[.int .i64 (W:Int),.int .i64 (b1:Int),.int .i64 (b2:Int),.int .i64 (b3:Int)] 90));have J:=az (Y.out.alloc b5 (.cells #[.int .i64 (W:Int),.int .i64 (b1:Int),.int .i64 (b2:Int),.int .i64 (b3:Int)] 90));go_upto_region 15 with fail
      generalize wr.alloc (.cells #[.int .i64 (W:Int),.int .i64 (b1:Int),.int .i64 (b2:Int),.int .i64 (b3:Int)] 90)=wb at *;obtain⟨y0,y1,y2,y3,ly⟩:=JV a5;clear a5;go_wp2_with (at_builtin;refine wpList_append_own _ rfl (.tmp 87) (.tmp 100) 86 rfl w1.heap.size 5 i0 _ 1 1 Tryz.underlying86 hi aE aK aM rfl (by decide) _ _ _ rfl (a4.out.alloc _) ⟨wb.heap.size,0,none⟩ 4 4 [.int .u8 (W:Int),.int .u8 (b1:Int),.int .u8 (b2:Int),.int .u8 (b3:Int)] rfl rfl ?c1 ?c2 ?c3 ?c4 ?c5 ?_)
      try case c1=>intro q u y;match q,y with|0,y=>(simp at y;subst y;simp[Addr.add,go_sem])|1,y=>(simp at y;subst y;simp[Addr.add,go_sem])|2,y=>(simp at y;subst y;simp[Addr.add,go_sem])|3,y=>(simp at y;subst y;simp[Addr.add,go_sem])
      try case c2=>simp[Value.oneCell']
      try case c3=>unfold maxLen;omega
      try case c4=>omega
      try case c5=>have:=J.out.size;simp;omega
      intro v' w6 H G _;have a7:=az ((J.out.alloc (by have:=J.out.size;omega) _).grown G (by have:=J.out.size;simp;omega) (λx hx=>(a4.out.lt x hx).1));have aJ:Hid (Tx w1 (ig s k++[R,L]++kV s k (j+1)) v' w6):=by
       refine⟨?_,a7.out⟩;have aF:re s k j=[W,b1,b2,b3]:=by rw[aU.out];rw[aa (by simp[Js];omega)]
       have aP:ig s k++[R,L]++kV s k (j+1)=l0++[W,b1,b2,b3]:=by rw[<-aF,aN.out];show _++(kV s k j++re s k j)=_;simp only[dY]
       rw[aP,uN,bo,a0.out];exact H
      clear H G a4 J y0 y1 y2 y3 ly a3 Y;go_wp2_with fail
      go_roundw
      case rel=>exact⟨j+1,by omega,by go_num,aJ⟩
      case measure=>simp[intOf];omega
     have aX:¬((j:Int)<(L:Int)):=by omega
     have bJ:L=j:=by omega
     subst bJ;have bC:Hid (Tx w1 (ig s (k+1)) (.slice (some ⟨g2,0,none⟩) (pk+2+4*L) c2) wr):=by
      refine⟨?_,Y.out⟩;rw[b6.out,<-aN.out,a0.out];exact a3.out
     clear a3 Y;go_wp2_with fail
     go_roundw
     case rel=>exact⟨k+1,by omega,by go_num,bC⟩
     case measure=>simp[intOf];omega
  obtain rfl:F=k:=by omega
  have bF:=run_convert_bytes_string (P:=prog) wr 86 9 5 (some ⟨gq,0,none⟩) (M.pos s F) cq Tryz.underlying86 underlying5 underlying9;have aR:Tx w1 (ig s F) (.slice (some ⟨gq,0,none⟩) (ig s F).length cq) wr:=⟨by rw[aA.out];exact HO.out,Z.out⟩;have aO:=aR.conv;rw[aA.out]at aO;have aW:=run_bytesToString (P:=prog) wr ⟨gq,0,none⟩ (M.pos s F) cq _ aO;rw[aW,DB]at bF;have bI:Hid (Below w.heap.size w wr):=aS.out.trans (Z.out.mono aS.out.size);clear aW aO aR HO Z;go_wp2_with fail
  go_ret;refine⟨?_,bI.out⟩;rw[<-bH.out];rfl
theorem uO{L:List Nat}{j x:Nat}(h:L[j]? = some x)(hx:x<256):M.bt (Ej L) j=x:=by
 unfold M.bt Ej;simp[h];omega
theorem Al(s : ByteArray) (k : Nat) : ∀ n i, i < n → (kV s k n)[4 * i]? = (re s k i)[0]?
  | n + 1, i, h => by
    unfold kV
    by_cases e : i = n
    · subst e
      rw [dX (by rw [kO]; exact bj _), kO, Nat.sub_self]
    · rw [du (by rw [kO]; omega)]
      exact Al s k n i (by omega)
theorem sV(s : ByteArray) (k : Nat) : ∀ d, ∃ R, ig s (k + d) = ig s k ++ R
  | 0 => ⟨[], by simp⟩
  | d + 1 => by
    obtain ⟨R, h⟩ := sV s k d
    refine ⟨R ++ [M.bt s (M.pos s (k + d)), M.bt s (M.pos s (k + d) + 1)] ++ kV s (k + d) (M.bt s (M.pos s (k + d) + 1)), ?_⟩
    show ig s (k + d) ++ _ ++ _ = _
    rw [h]
    simp
theorem zL(s:ByteArray){k n:Nat}(h:k<n)(j:Nat)(i:j<2+4*M.bt s (M.pos s k+1)):(ig s n)[M.pos s k+j]? = ([M.bt s (M.pos s k),M.bt s (M.pos s k+1)]++kV s k (M.bt s (M.pos s k+1)))[j]?:=by
 obtain⟨R,hR⟩:=sV s (k+1) (n-k-1);rw[show k+1+(n-k-1)=n by omega]at hR;have e:ig s (k+1)=ig s k++([M.bt s (M.pos s k),M.bt s (M.pos s k+1)]++kV s k (M.bt s (M.pos s k+1))):=by
  show ig s k++_++_=_;rw[dY]
 rw[hR,e,du (by simp[mh,kO];omega),dX (by rw[mh];omega),mh];congr 1
 omega
theorem Gy(s:ByteArray):Tm (Ej (ig s (M.bt s 0))):=by
 have J:M.bt (Ej (ig s (M.bt s 0))) 0=M.bt s 0:=by
  obtain⟨R,hR⟩:=sV s 0 (M.bt s 0);rw[Nat.zero_add]at hR;exact uO (by rw[hR];rfl) (M.my s _)
 have u:∀k,k<M.bt s 0->M.bt (Ej (ig s (M.bt s 0))) (M.pos s k+1)=M.bt s (M.pos s k+1):=λk o=>uO (by rw[zL s o 1 (by omega)];rfl) (M.my s _);have H:∀k,k<=M.bt s 0->M.pos (Ej (ig s (M.bt s 0))) k=M.pos s k:=by
  intro k;induction k with
  |zero=>intro _;rfl
  |succ k G=>
   intro o;show M.pos _ k+2+4*M.bt _ (M.pos _ k+1)=M.pos s k+2+4*M.bt s (M.pos s k+1);rw[G (by omega),u k (by omega)]
 intro k i o hi;rw[J]at o;rw[H k (by omega)]at hi ⊢;rw[u k o]at hi;have y:(ig s (M.bt s 0))[M.pos s k+(2+4*i)]? = (re s k i)[0]?:=by
  rw[zL s o (2+4*i) (by omega),dX (by show 2<=_;omega),<-Al s k _ i hi];congr 1
  simp
 rw[show M.pos s k+2+4*i=M.pos s k+(2+4*i) by omega];by_cases e:Js (M.bt s (M.pos s k+2+4*i))=true
 .rw[uO (x:=16) (by rw[y];unfold re;rw[aj e];rfl) (by omega)];unfold N5;omega
 rw[uO (x:=M.bt s (M.pos s k+2+4*i)) (by rw[y];unfold re;rw[aa e];rfl) (M.my s _)];unfold Js at e;simp at e;exact⟨e.1.1.1.1,e.1.1.1.2,e.1.1.2,e.1.2,e.2⟩
end F
namespace F
theorem Em(s:ByteArray)(w:World)(H:s.size<=maxLen)(u:s.size<=140737488355328)(o:(M.jO s).2=false): Calls prog 18 #[.string s] w λe w'=>e=.returned (.string s)/\Below w.heap.size w w':=by
 have HS:=az H;have y:=az o;go_in;go_wp2_with fail
 refine(pt s _ HS.out u).mono ?_;rintro e w1 ⟨hP,G⟩;have J:=az G;rcases hP with⟨_,rfl⟩|⟨i,_⟩
 .generalize (M.jO s).1=P at *;go_wp2_with fail
  go_ret;exact⟨rfl,J.out⟩
 rw[y.out]at i;cases i
theorem B6(s:ByteArray)(w:World)(u:s.size<=maxLen)(i:s.size<=140737488355328): Calls prog 18 #[.string s] w λe w'=>∃s',e=.returned (.string s')/\(s'.size=s.size/\((M.jO s').2=true->Tm s'))/\Below w.heap.size w w':=by
 cases hok:(M.jO s).2 with
 |true=>
  refine(GB s w u i hok).mono ?_;rintro e w' ⟨rfl,o⟩;refine⟨_,rfl,⟨?_,λ_=>Gy s⟩,o⟩;show((ig s (M.bt s 0)).map UInt8.ofNat).toArray.size=_;rw[List.size_toArray,dS,mh,(D.vk hok).2]
 |false=>
  refine(Em s w u i hok).mono ?_;rintro e w' ⟨rfl,o⟩;exact⟨s,rfl,⟨rfl,λh=>by rw[hok]at h;cases h⟩,o⟩
def zi(w:World)(n:Nat)(c0 c1 c2 c3 d0 d1 d2 d3:Int):Prop:=w.heap[n]? = some (.cells #[.int .i64 c0,.int .i64 c1,.int .i64 c2,.int .i64 c3] 23 (0,0))/\w.heap[n+1]? = some (.cells #[.int .i64 d0,.int .i64 d1,.int .i64 d2,.int .i64 d3] 23 (0,0))
theorem zi.below{w w':World}{n:Nat}{c0 c1 u G i o e y:Int}(h:zi w n c0 c1 u G i o e y)(H:Below w.heap.size w w'):zi w' n c0 c1 u G i o e y:=⟨(H.block _ (bz h.1)).trans h.1,(H.block _ (bz h.2)).trans h.2⟩
theorem zi.S{w:World}{N:Nat}{c0 c1 u G i o e y:Int}(h:zi w N c0 c1 u G i o e y):w.cell? ⟨N,0,none⟩=some (.int .i64 c0)/\w.cell? ⟨N,1,none⟩=some (.int .i64 c1)/\w.cell? ⟨N,2,none⟩=some (.int .i64 u)/\w.cell? ⟨N,3,none⟩=some (.int .i64 G)/\w.cell? ⟨N+1,0,none⟩=some (.int .i64 i)/\w.cell? ⟨N+1,1,none⟩=some (.int .i64 o)/\w.cell? ⟨N+1,2,none⟩=some (.int .i64 e)/\w.cell? ⟨N+1,3,none⟩=some (.int .i64 y):=by
 obtain⟨Z,a1,a2,H,_⟩:=gp h.1;obtain⟨W,b1,J,Y,_⟩:=gp h.2;exact⟨Z,a1,a2,H,W,b1,J,Y⟩
theorem GH(s t:ByteArray)(c0 c1 i o H W J Y:Int)(ad:Option Addr)(len cap:Nat)(kd hh tk:Nat->Int)(ia:Nat->Option Addr)(gm ic:Nat->Nat)(w:World)(hs:s.size<=maxLen)(aL:s.size<=140737488355328)(ht:t.size<=maxLen)(aI:t.size<=140737488355328)(hT:mB w)(aA:len<=1048576)(aG:vX w ad len kd hh tk ia gm ic)(HL:∀(s:ByteArray) (c0 c1 i o:Int) (w:World),s.size<=maxLen->s.size<=140737488355328->mB w->qT c0 c1 i o=false\/(M.jO s).2=false->Calls prog 14 #[.string s,.agg #[.int .i64 c0,.int .i64 c1,.int .i64 i,.int .i64 o]] w λe w'=>e=.returned (.tuple #[.pointer none,.bool true])/\Below w.heap.size w w'): Calls prog 4 #[.string s,.agg #[.int .i64 c0,.int .i64 c1,.int .i64 i,.int .i64 o],.string t,.agg #[.int .i64 H,.int .i64 W,.int .i64 J,.int .i64 Y],.slice ad len cap] w λe w'=>e=.returned (.bool true)/\Below w.heap.size w w':=by
 have HS:=az (ay hs (ay aL (ay ht aI)));have KT:=az hT;have aM:=az aG;have aO:=az HL;have u:Hid (Below w.heap.size w ((w.alloc (.cells #[.int .i64 c0,.int .i64 c1,.int .i64 i,.int .i64 o] 23)).alloc (.cells #[.int .i64 H,.int .i64 W,.int .i64 J,.int .i64 Y] 23))):=((eM _ _).alloc (bj _) _).alloc (by simp) _;have aD:Hid (zi ((w.alloc (.cells #[.int .i64 c0,.int .i64 c1,.int .i64 i,.int .i64 o] 23)).alloc (.cells #[.int .i64 H,.int .i64 W,.int .i64 J,.int .i64 Y] 23)) w.heap.size c0 c1 i o H W J Y):=by
  refine⟨(ak _ _ _ (by simp)).trans (bf _ _),?_⟩;have:=bf (w.alloc (.cells #[.int .i64 c0,.int .i64 c1,.int .i64 i,.int .i64 o] 23)) (.cells #[.int .i64 H,.int .i64 W,.int .i64 J,.int .i64 Y] 23);simpa using this
 go_in;go_upto_region 1 with fail
 generalize (w.alloc (.cells #[.int .i64 c0,.int .i64 c1,.int .i64 i,.int .i64 o] 23)).alloc (.cells #[.int .i64 H,.int .i64 W,.int .i64 J,.int .i64 Y] 23)=w1 at *;have aB:=az (Hf w1 (KT.out.below u.out));go_wp2_with fail
 refine aB.out.mono ?_;rintro e w2 ⟨rfl,a7⟩;have y:=az (aD.out.below a7);have aF:=az (u.out.trans (a7.mono u.out.size));obtain⟨y0,y1,y2,y3,ly⟩:=gp y.out.2;clear a7 aB u aD y0 y1 y2 y3;clear ly;go_wp2_with fail
 go_cut [12] from 14 to 22 (λv wx=>v=.bool true/\Hid (Below w.heap.size w wx))
 case first=>
  go_region_held3 (λw'=>w'.cell? ⟨w.heap.size,0,none⟩=some (.int .i64 c0)/\w'.cell? ⟨w.heap.size,1,none⟩=some (.int .i64 c1)/\w'.cell? ⟨w.heap.size,2,none⟩=some (.int .i64 i)/\w'.cell? ⟨w.heap.size,3,none⟩=some (.int .i64 o)/\w'.cell? ⟨w.heap.size+1,0,none⟩=some (.int .i64 H)/\w'.cell? ⟨w.heap.size+1,1,none⟩=some (.int .i64 W)/\w'.cell? ⟨w.heap.size+1,2,none⟩=some (.int .i64 J)/\w'.cell? ⟨w.heap.size+1,3,none⟩=some (.int .i64 Y)) (first|exact zi.S (w:=w2.drew) y.out|exact zi.S a1.out|exact zi.S aE.out|exact zi.S aH.out|exact zi.S aN.out) (first|(go_at_call 18;(first|(have hq:=a1;refine(B6 t _ HS.out.2.2.1 HS.out.2.2.2).mono ?_;rintro e w4 ⟨s4,rfl,aC,a8⟩;have aE:=az (zi.below a1.out a8);have a5:=az (aK.out.trans (a8.mono aK.out.size));have a6:=az aC;clear a8 aC)|(refine(B6 s _ HS.out.1 HS.out.2.1).mono ?_;rintro e w3 ⟨s3,rfl,aJ,a3⟩;have a1:=az (zi.below (w:=w2.drew) y.out a3);have aK:=az ((aF.out.drew).trans (a3.mono aF.out.size));have a4:=az aJ;clear a3 aJ)))|(go_at_call 19;refine(G3 ad len cap kd hh tk ia gm ic w4 aA (aM.out.below a5.out)).mono ?_;rintro e w5 ⟨L,a2,k2,rfl,hL,G⟩;have aH:=az (zi.below aE.out G.b);have a9:=az (a5.out.trans (G.b.mono a5.out.size));have aQ:=az G.Mc;clear G)|(go_at_call 17;refine(G1 s3 s4 c0 c1 i o H W J Y a2 L.length k2 _ _ _ _ _ _ _ w5 (by rw[a4.out.1];exact HS.out.1) (by rw[a4.out.1];exact HS.out.2.1) (by rw[a6.out.1];exact HS.out.2.2.1) (by rw[a6.out.1];exact HS.out.2.2.2) a4.out.2 a6.out.2 (KT.out.below a9.out) (by omega) aQ.out aO.out).mono ?_;rintro e w6 ⟨rfl,Z⟩;have aN:=az (zi.below aH.out Z);have a0:=az (a9.out.trans (Z.mono a9.out.size));clear Z))
  all_goals
   go_wp2_with fail
   go_meet
   case rel=>exact⟨rfl,a0⟩
 case rest=>
  obtain⟨rfl,a0⟩:=hcut;go_wp2_with fail
  go_ret;exact⟨by simp,a0.out⟩
end F
section
open Go.ChangeShapes Go.WideShapes Go.ChangeAt Go.WideMaps Go.WideElems Go.Joins
open Go.ChangeMaps (open_string shut_string)
theorem AL{W:World}(h:laidMetH prog Rows.stepsUptoRow.laid W):mB W:=wI h
theorem AM(os:Os)(args:Array Value):laidMetH prog Rows.stepsUptoRow.laid ((World.doorLaid prog 400 os).forCall (λ_ _=>0) ⟨#[],args,[]⟩).memory:=
 laidMetH_of_parts3 (fuel:=8) (laidMet_of_run' 8 (by kernel_rfl) (by kernel_rfl)) (by kernel_rfl) (by kernel_rfl)
theorem sr(H:Type)(enc:TypeId×Value->H)(W:World)(a1:Nat)(args:Array Value)(ds gs:List (DataW H))(o:List MemPlace)(i:∀(j:Nat) t v,f4.params[j]? = some t->args[j]? = some v->Value.okWide prog W .any a1 t v)(hW:DataW.Whole enc prog f4.params.toList Rows.stepsSpec.vars false W args.toList ds gs o)(hk:Rows.uptoSmall H (ds++gs)=true)(hL:laidMetH prog Rows.stepsUptoRow.laid W): Calls prog 4 args W λe G=>∃v,e=.returned v/\Rows.stepsSpec.post enc prog f4 false true false false W args v G:=by
 have u:=hW;obtain⟨p,q,a3,hV,rfl,aP,aQ⟩:=hW;have hA:=a3;rw[params4]at hA i;obtain⟨v0,v1,v2,v3,v4,d0,d1,d2,d3,d4,p0,p1,p2,p3,p4,rfl,rfl,rfl,h0,h1,h2,h3,h4⟩:=AE hA;obtain⟨rfl,rfl⟩:=trodVars_none hV;obtain⟨s,rfl,rfl,rfl,hs⟩:=open_string underlying9 (i 0 9 v0 rfl rfl) h0;obtain⟨u0,u1,u2,u3,y0,y1,y2,y3,m,rfl,rfl,rfl,a9,aM,a8,aG⟩:=open_agg4 underlying23 (by kernel_rfl) Tryz.vQ (i 1 23 v1 rfl rfl) h1;obtain⟨c0,e0,rfl,aI⟩:=DataW.trod_int underlying3 a9;obtain⟨c1,e1,rfl,aC⟩:=DataW.trod_int underlying3 aM;obtain⟨J,e2,rfl,a4⟩:=DataW.trod_int underlying3 a8;obtain⟨Y,e3,rfl,a6⟩:=DataW.trod_int underlying3 aG;simp at e0 e1 e2 e3;subst e0 e1 e2 e3;obtain⟨t,rfl,rfl,rfl,ht⟩:=open_string underlying9 (i 2 9 v2 rfl rfl) h2;obtain⟨u4,u5,u6,u7,y4,y5,y6,y7,m',rfl,rfl,rfl,aE,aB,aN,aL⟩:=open_agg4 underlying23 (by kernel_rfl) Tryz.vQ (i 3 23 v3 rfl rfl) h3;obtain⟨b0,e0,rfl,aH⟩:=DataW.trod_int underlying3 aE;obtain⟨b1,e1,rfl,a7⟩:=DataW.trod_int underlying3 aB;obtain⟨b2,e2,rfl,aJ⟩:=DataW.trod_int underlying3 aN;obtain⟨b3,e3,rfl,aK⟩:=DataW.trod_int underlying3 aL;simp at e0 e1 e2 e3;subst e0 e1 e2 e3;obtain⟨a0,len,cap,rfl⟩:=okWide_slice underlying29 (i 4 29 v4 rfl rfl);have a5:=h4;obtain⟨aO,hf⟩:=h4;simp only[eB,List.nil_append]at u hk;have aA:=dO hk;simp only[Rows.uptoBulkAll,Rows.uptoBulk]at aA
 have y:∀(G:World),Below W.heap.size W G->DataW.Trod enc prog G 0 (λb=>decide (b<W.heap.size)) true 29 (.slice a0 len cap) d4 p4:=
  λG hn=>Below.trod Tryz.laidOut (by kernel_rfl) (dO (by kernel_rfl)) a5 hn (λx hx=>by simpa using u.lt x (by simp[hx]))
 obtain⟨Z,kd,hh,tk,ia,gm,ic,aF⟩:=AD hf (by show Rows.uptoBulk d4<=_;omega);have es:s.data.toList.length=s.size:=by simp
 have et:t.data.toList.length=t.size:=by simp
 refine(F.GH s t c0 c1 J Y b0 b1 b2 b3 a0 len cap kd hh tk ia gm ic W (by unfold maxLen;omega) (by omega) (by unfold maxLen;omega) (by omega) (AL hL) Z aF (λs c0 c1 J Y w h1 h2 h3 h4=>C2 s c0 c1 J Y w h1 h2 h3 h4)).mono λe G ⟨he,hB⟩=>?_;subst he;have a2:=wG (spare:=λb=>decide (b<W.heap.size)) (shut_string underlying9 hs) (shut_agg4 (v0:=.int .i64 c0) (v1:=.int .i64 c1) (v2:=.int .i64 J) (v3:=.int .i64 Y) (y0:=(.lit (.int .i64 c0),[])) (y1:=(.lit (.int .i64 c1),[])) (y2:=(.lit (.int .i64 J),[])) (y3:=(.lit (.int .i64 Y),[])) underlying23 (by kernel_rfl) Tryz.vQ ⟨1,by simp[DataW.trod,underlying3,aI]⟩ ⟨1,by simp[DataW.trod,underlying3,aC]⟩ ⟨1,by simp[DataW.trod,underlying3,a4]⟩ ⟨1,by simp[DataW.trod,underlying3,a6]⟩) (shut_string underlying9 ht) (shut_agg4 (v0:=.int .i64 b0) (v1:=.int .i64 b1) (v2:=.int .i64 b2) (v3:=.int .i64 b3) (y0:=(.lit (.int .i64 b0),[])) (y1:=(.lit (.int .i64 b1),[])) (y2:=(.lit (.int .i64 b2),[])) (y3:=(.lit (.int .i64 b3),[])) underlying23 (by kernel_rfl) Tryz.vQ ⟨1,by simp[DataW.trod,underlying3,aH]⟩ ⟨1,by simp[DataW.trod,underlying3,a7]⟩ ⟨1,by simp[DataW.trod,underlying3,aJ]⟩ ⟨1,by simp[DataW.trod,underlying3,aK]⟩) (y _ hB);refine⟨_,rfl,[.lit (.string s.data.toList),.agg [.lit (.int .i64 c0),.lit (.int .i64 c1),.lit (.int .i64 J),.lit (.int .i64 Y)],.lit (.string t.data.toList),.agg [.lit (.int .i64 b0),.lit (.int .i64 b1),.lit (.int .i64 b2),.lit (.int .i64 b3)],d4],[],_,[],_,[],u,?_,a2,rfl,hB.frame _,λh=>by cases h⟩;exact trodAll_mk1 (shut_bool underlying4 _)
end
end Go.Proofs.YtnjiinbhbjpfkaaGreatDoor
